/- What merge.Overlap does when called: for any two rows of items. No conditions but the lengths. -/
import Derived.Test.YtkkcchklefcljaaVRows
import Derived.Deep.QuietTactic
import Derived.BigQuiet
namespace Go.Proofs.Ytkkcchklefcljaa.Clep
open Go.RowKit
set_option linter.unusedVariables false

/-- Do two rows overlap? -/
def ovl (l k : List It) : Bool := match l.head?, k.head?, l.getLast?, k.getLast? with
  | some x, some y, some p, some q => !q.less x && !p.less y
  | _, _, _, _ => false
theorem ovl_nil_l (k : List It) : ovl [] k = false := rfl
theorem ovl_nil_r (l : List It) : ovl l [] = false := by
  unfold ovl
  cases l with
  | nil => rfl
  | cons x l => simp
theorem ovl_of {l k : List It} {x y p q : It} (h0 : l.head? = some x) (h1 : k.head? = some y) (h2 : l.getLast? = some p) (h3 : k.getLast? = some q) : ovl l k = (!q.less x && !p.less y) := by
  unfold ovl; rw [h0, h1, h2, h3]
theorem ovl_comm (l k : List It) : ovl l k = ovl k l := by
  cases l with
  | nil => rw [ovl_nil_l, ovl_nil_r]
  | cons x l =>
    cases k with
    | nil => rw [ovl_nil_l, ovl_nil_r]
    | cons y k =>
      rw [ovl_of (x := x) (y := y) rfl rfl List.getLast?_cons List.getLast?_cons, ovl_of (x := y) (y := x) rfl rfl List.getLast?_cons List.getLast?_cons, Bool.and_comm]
theorem ovl_self {l : List It} (h : Rise l) (hn : l ≠ []) : ovl l l = true := by
  cases l with
  | nil => exact absurd rfl hn
  | cons x l =>
    rw [ovl_of (x := x) (y := x) rfl rfl List.getLast?_cons List.getLast?_cons]
    have : ((l.getLast?).getD x).less x = false := by
      cases hl : l.getLast? with
      | none => simpa using less_irrefl x
      | some z =>
        have hz : z ∈ l := List.mem_of_getLast? hl
        exact less_asymm ((List.pairwise_cons.1 (show List.Pairwise _ (x :: l) from h)).1 z hz)
    simp [this]
theorem last_at {l : List It} {M : Nat} {x : It} (hl : l.length = M + 1) (h : l[M]? = some x) : l.getLast? = some x := by
  rw [List.getLast?_eq_getElem?, hl]; exact h
set_option maxRecDepth 100000 in
set_option maxHeartbeats 2000000 in
theorem overlap_any (a b : Option Addr) (n c m d : Nat) (l k : List It) (w : World) (h : Is w a n c l) (h' : Is w b m d k) (hn : n ≤ 9223372036854775807) (hm : m ≤ 9223372036854775807) :
    Calls Try.prog 23 #[.slice a n c, .slice b m d] w fun e w' => e = .returned (.bool (ovl l k)) ∧ Below w.heap.size w w' := by
  rcases Nat.eq_zero_or_pos n with h0 | h0
  · subst h0
    have hl : l = [] := List.eq_nil_of_length_eq_zero h.1
    subst hl
    clear h h'
    go_enter Try.func23, Try.ntmps23
    go_wp2
    go_ret
    exact ⟨by rw [ovl_nil_l]; rfl, Below.refl _ _⟩
  rcases Nat.eq_zero_or_pos m with h1 | h1
  · subst h1
    have hl : k = [] := List.eq_nil_of_length_eq_zero h'.1
    subst hl
    clear h h'
    have q0 : ((n : Int) == 0) = false := by simp; omega
    go_enter Try.func23, Try.ntmps23
    go_wp2
    go_ret
    exact ⟨by rw [ovl_nil_r]; rfl, Below.refl _ _⟩
  obtain ⟨b0, off0, ea, hca⟩ := h.2.2.2 h0
  obtain ⟨b1, off1, eb, hcb⟩ := h'.2.2.2 h1
  subst ea eb
  obtain ⟨N, hN⟩ : ∃ N, n = N + 1 := ⟨n - 1, by omega⟩
  obtain ⟨M, hM⟩ : ∃ M, m = M + 1 := ⟨m - 1, by omega⟩
  have hl := h.1
  have hk := h'.1
  obtain ⟨x, hx⟩ : ∃ x, l[0]? = some x := ⟨_, List.getElem?_eq_getElem (by omega)⟩
  obtain ⟨p, hp⟩ : ∃ x, l[N]? = some x := ⟨_, List.getElem?_eq_getElem (by omega)⟩
  obtain ⟨y, hy⟩ : ∃ x, k[0]? = some x := ⟨_, List.getElem?_eq_getElem (by omega)⟩
  obtain ⟨q, hq⟩ : ∃ x, k[M]? = some x := ⟨_, List.getElem?_eq_getElem (by omega)⟩
  have E := hide (ovl_of (by rw [List.head?_eq_getElem?]; exact hx) (by rw [List.head?_eq_getElem?]; exact hy) (last_at (hl.trans hN) hp) (last_at (hk.trans hM) hq))
  have vx := hide (hca 0 x hx)
  have vp := hide (hca N p hp)
  have vy := hide (hcb 0 y hy)
  have vq := hide (hcb M q hq)
  rw [E.out]
  clear E hx hp hy hq hca hcb h h' hl hk
  obtain ⟨Sx, Kx, Tx, Vx, Xx⟩ := x
  obtain ⟨Sy, Ky, Ty, Vy, Xy⟩ := y
  obtain ⟨Sp, Kp', Tp, Vp, Xp⟩ := p
  obtain ⟨Sq, Kq, Tq, Vq, Xq⟩ := q
  unfold Vt at vx vp vy vq
  simp only [Nat.zero_mul, Nat.add_zero] at vx vp vy vq
  have x0 : ∀ p : Kp w, p.W.cell? ⟨b0, off0, none⟩ = some (.int .i64 Sx) := fun p => (vx.out.keep p.h).1
  have x1 : ∀ p : Kp w, p.W.cell? ⟨b0, off0 + 1, none⟩ = some (.int .i64 Kx) := fun p => (vx.out.keep p.h).2.1
  have x2 : ∀ p : Kp w, p.W.cell? ⟨b0, off0 + 2, none⟩ = some (.int .u64 Tx) := fun p => (vx.out.keep p.h).2.2.1
  have x3 : ∀ p : Kp w, p.W.cell? ⟨b0, off0 + 3, none⟩ = some (.int .u64 Vx) := fun p => (vx.out.keep p.h).2.2.2.1
  have x4 : ∀ p : Kp w, p.W.cell? ⟨b0, off0 + 4, none⟩ = some (.int .i64 Xx) := fun p => (vx.out.keep p.h).2.2.2.2
  have p0 : ∀ p : Kp w, p.W.cell? ⟨b0, off0 + N * 5, none⟩ = some (.int .i64 Sp) := fun p => (vp.out.keep p.h).1
  have p1 : ∀ p : Kp w, p.W.cell? ⟨b0, off0 + N * 5 + 1, none⟩ = some (.int .i64 Kp') := fun p => (vp.out.keep p.h).2.1
  have p2 : ∀ p : Kp w, p.W.cell? ⟨b0, off0 + N * 5 + 2, none⟩ = some (.int .u64 Tp) := fun p => (vp.out.keep p.h).2.2.1
  have p3 : ∀ p : Kp w, p.W.cell? ⟨b0, off0 + N * 5 + 3, none⟩ = some (.int .u64 Vp) := fun p => (vp.out.keep p.h).2.2.2.1
  have p4 : ∀ p : Kp w, p.W.cell? ⟨b0, off0 + N * 5 + 4, none⟩ = some (.int .i64 Xp) := fun p => (vp.out.keep p.h).2.2.2.2
  have y0 : ∀ p : Kp w, p.W.cell? ⟨b1, off1, none⟩ = some (.int .i64 Sy) := fun p => (vy.out.keep p.h).1
  have y1 : ∀ p : Kp w, p.W.cell? ⟨b1, off1 + 1, none⟩ = some (.int .i64 Ky) := fun p => (vy.out.keep p.h).2.1
  have y2 : ∀ p : Kp w, p.W.cell? ⟨b1, off1 + 2, none⟩ = some (.int .u64 Ty) := fun p => (vy.out.keep p.h).2.2.1
  have y3 : ∀ p : Kp w, p.W.cell? ⟨b1, off1 + 3, none⟩ = some (.int .u64 Vy) := fun p => (vy.out.keep p.h).2.2.2.1
  have y4 : ∀ p : Kp w, p.W.cell? ⟨b1, off1 + 4, none⟩ = some (.int .i64 Xy) := fun p => (vy.out.keep p.h).2.2.2.2
  have q0 : ∀ p : Kp w, p.W.cell? ⟨b1, off1 + M * 5, none⟩ = some (.int .i64 Sq) := fun p => (vq.out.keep p.h).1
  have q1 : ∀ p : Kp w, p.W.cell? ⟨b1, off1 + M * 5 + 1, none⟩ = some (.int .i64 Kq) := fun p => (vq.out.keep p.h).2.1
  have q2 : ∀ p : Kp w, p.W.cell? ⟨b1, off1 + M * 5 + 2, none⟩ = some (.int .u64 Tq) := fun p => (vq.out.keep p.h).2.2.1
  have q3 : ∀ p : Kp w, p.W.cell? ⟨b1, off1 + M * 5 + 3, none⟩ = some (.int .u64 Vq) := fun p => (vq.out.keep p.h).2.2.2.1
  have q4 : ∀ p : Kp w, p.W.cell? ⟨b1, off1 + M * 5 + 4, none⟩ = some (.int .i64 Xq) := fun p => (vq.out.keep p.h).2.2.2.2
  have hne : Nonempty (Kp w) := ⟨⟨_, Below.refl _ _⟩⟩
  obtain ⟨o1, ho1⟩ : ∃ o, lessI Sq Kq Tq Sx Kx Tx = o := ⟨_, rfl⟩
  obtain ⟨o2, ho2⟩ : ∃ o, lessI Sp Kp' Tp Sy Ky Ty = o := ⟨_, rfl⟩
  have c1 : Hid (∀ p : Kp w, Calls Try.prog 39 #[.agg #[.int .i64 Sq, .int .i64 Kq, .int .u64 Tq, .int .u64 Vq, .int .i64 Xq], .agg #[.int .i64 Sx, .int .i64 Kx, .int .u64 Tx, .int .u64 Vx, .int .i64 Xx]] p.W fun e w'' => e = .returned (.bool o1) ∧ ∃ q : Kp w, w'' = q.W) := hide fun p => kp_call (by rw [← ho1]; exact less_any Sq Kq Tq Vq Xq Sx Kx Tx Vx Xx _)
  have c2 : Hid (∀ p : Kp w, Calls Try.prog 39 #[.agg #[.int .i64 Sp, .int .i64 Kp', .int .u64 Tp, .int .u64 Vp, .int .i64 Xp], .agg #[.int .i64 Sy, .int .i64 Ky, .int .u64 Ty, .int .u64 Vy, .int .i64 Xy]] p.W fun e w'' => e = .returned (.bool o2) ∧ ∃ q : Kp w, w'' = q.W) := hide fun p => kp_call (by rw [← ho2]; exact less_any Sp Kp' Tp Vp Xp Sy Ky Ty Vy Xy _)
  have E := hide (show (!It.less ⟨Sq, Kq, Tq, Vq, Xq⟩ ⟨Sx, Kx, Tx, Vx, Xx⟩ && !It.less ⟨Sp, Kp', Tp, Vp, Xp⟩ ⟨Sy, Ky, Ty, Vy, Xy⟩) = (!o1 && !o2) by unfold It.less; rw [ho1, ho2])
  have e0 : ((n : Int) == 0) = false := by simp; omega
  have e1 : ((m : Int) == 0) = false := by simp; omega
  have g0 : (N : Int) < (n : Int) := by omega
  have g1 : (M : Int) < (m : Int) := by omega
  have r0 : IntKind.i64.wrap ((n : Int) - 1) = (N : Int) := by simp [IntKind.wrap, IntKind.bits, IntKind.signed]; omega
  have r1 : IntKind.i64.wrap ((m : Int) - 1) = (M : Int) := by simp [IntKind.wrap, IntKind.bits, IntKind.signed]; omega
  have z0 : (0 : Int) < (n : Int) := by omega
  have z1 : (0 : Int) < (m : Int) := by omega
  rw [E.out]
  clear ho1 ho2 vx vp vy vq E
  clear hN hM
  cases o1 with
  | true =>
    go_enter Try.func23, Try.ntmps23
    go_wp2_with fail
    refine wp_region_kept (by kernel_rfl) (by kernel_rfl) ?_
    repeat (first
      | go_big_quiet_step (first | (go_at_call 39; exact c1.out _))
      | fail)
    refine wpQuiet_nil ?_
    intro w5 hw'
    have hb5 : Hid (Below w.heap.size w w5) := by
      obtain ⟨⟨w3', hb3⟩, hw''⟩ := hw'
      rw [hw'']; exact hide hb3
    clear hw' hne x0 x1 x2 x3 x4 p0 p1 p2 p3 p4 y0 y1 y2 y3 y4 q0 q1 q2 q3 q4 c1 c2
    go_wp2
    go_ret
    exact ⟨rfl, hb5.out⟩
  | false =>
    go_enter Try.func23, Try.ntmps23
    go_wp2_with fail
    refine wp_region_kept (by kernel_rfl) (by kernel_rfl) ?_
    repeat (first
      | go_big_quiet_step (first | (go_at_call 39; with_reducible exact c1.out _) | (go_at_call 39; with_reducible exact c2.out _))
      | fail)
    refine wpQuiet_nil ?_
    intro w5 hw'
    have hb5 : Hid (Below w.heap.size w w5) := by
      obtain ⟨⟨w3', hb3⟩, hw''⟩ := hw'
      rw [hw'']; exact hide hb3
    clear hw' hne x0 x1 x2 x3 x4 p0 p1 p2 p3 p4 y0 y1 y2 y3 y4 q0 q1 q2 q3 q4 c1 c2
    go_wp2
    go_ret
    exact ⟨by simp, hb5.out⟩

end Go.Proofs.Ytkkcchklefcljaa.Clep
