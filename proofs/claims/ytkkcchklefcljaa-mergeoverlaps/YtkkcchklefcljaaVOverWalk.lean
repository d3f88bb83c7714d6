/- MergeOverlaps: whether two rising rows overlap is told as the document says, walked. No conditions. -/
import Derived.Test.YtkkcchklefcljaaVAwake
namespace Go.Proofs.Ytkkcchklefcljaa.Clep
open Go.RowKit
set_option linter.unusedVariables false

theorem ovl_want {l k : List It} {x y p q : It} (h0 : l.head? = some x) (h1 : k.head? = some y) (h2 : l.getLast? = some p) (h3 : k.getLast? = some q) : ovl l k = (!p.less y && !q.less x) := by
  rw [ovl_of h0 h1 h2 h3, Bool.and_comm]
set_option maxRecDepth 100000 in
set_option maxHeartbeats 4000000 in
theorem overlaps_walk (a b : Option Addr) (n c m d : Nat) (l k : List It) (w : World) (h : Is w a n c l) (h' : Is w b m d k) (hn : n ≤ 9223372036854775807) (hm : m ≤ 9223372036854775807) :
    Calls Try.prog 6 #[.slice a n c, .slice b m d] w fun e w' => e = .returned (.bool true) ∧ Below w.heap.size w w' := by
  have A0 := (Below.refl _ w).alloc (Nat.le_refl _) (Obj.cells #[.slice a n c, .slice b m d] 25)
  have R0 := rws_two (s := ⟨a, n, c, l⟩) (t := ⟨b, m, d, k⟩) ⟨h.below A0 (Nat.le_refl _), hn⟩ ⟨h'.below A0 (Nat.le_refl _), hm⟩ (hpS w _ _ rfl)
  have CR := hide (lrows_any _ 2 2 _ _ R0 (by omega))
  have HA := hide A0
  clear A0 R0 h h'
  go_enter Try.func6, Try.ntmps6
  go_wp2_with fail
  refine CR.out.mono ?_
  rintro e w1 ⟨a1, n1, c1, ys, rfl, hr, hc1, hym, hb1⟩
  obtain ⟨X, hX⟩ : ∃ X, qL (l.take 40) = X := ⟨_, rfl⟩
  obtain ⟨Y, hY⟩ : ∃ Y, qL (k.take 40) = Y := ⟨_, rfl⟩
  have hxr := hide (show Rise X by rw [← hX]; exact qL_rise _)
  rw [show lawR [⟨a, n, c, l⟩, ⟨b, m, d, k⟩] = [X, Y] by rw [← hX, ← hY]; rfl] at hym
  have hyl := hr.1
  have h2 : ys.length = 2 := by have := congrArg List.length hym; simpa using this
  obtain ⟨y0, y1, rfl⟩ : ∃ y0 y1, ys = [y0, y1] := by
    match ys, h2 with
    | [y0, y1], _ => exact ⟨y0, y1, rfl⟩
  simp only [List.map_cons, List.map_nil, List.cons.injEq, and_true] at hym
  obtain rfl : 2 = n1 := hyl
  obtain ⟨b1, off1, rfl, hcell⟩ := hr.2.2.2 (by omega)
  have hz0 := hcell 0 y0 rfl
  have hz1 := hcell 1 y1 rfl
  rw [Nat.add_zero] at hz0
  have HI0 := hide (hr.2.2.1 y0 (by simp))
  have HI1 := hide (hr.2.2.1 y1 (by simp))
  obtain ⟨xa', xn, xc, xl⟩ := y0
  obtain ⟨ya', yn, yc, yl⟩ := y1
  simp only at hz0 hz1 HI0 HI1 hym
  obtain ⟨rfl, rfl⟩ := hym
  have B1 := hide (bmore HA.out hb1)
  clear CR hr hcell h2 hX hY HA hb1
  go_wp2_with fail
  go_region
  obtain ⟨w2, hw2⟩ : ∃ w2, w2 = w1.drew := ⟨_, rfl⟩
  have b12 : Below w1.heap.size w1 w2 := by rw [hw2]; exact (Below.refl _ _).drew
  have J0 := hide (show Is w2 xa' xn xc xl ∧ xn ≤ 9223372036854775807 from ⟨HI0.out.1.below b12 (Nat.le_refl _), HI0.out.2⟩)
  have J1 := hide (show Is w2 ya' yn yc yl ∧ yn ≤ 9223372036854775807 from ⟨HI1.out.1.below b12 (Nat.le_refl _), HI1.out.2⟩)
  have B2 := hide (bmore B1.out b12)
  rw [← hw2]
  clear hw2 b12 B1 HI0 HI1 hz0 hz1
  go_upto_region 3 with fail
  go_cut [8] from 19 to 52 (fun s8 wx => s8 = .bool (ovl xl yl) ∧ Hid (Below w2.heap.size w2 wx))
  case first =>
    have hne : Nonempty (Kp w2) := ⟨⟨_, Below.refl _ _⟩⟩
    rcases Nat.eq_zero_or_pos xn with h0 | h0
    · subst h0
      have hl : xl = [] := List.eq_nil_of_length_eq_zero J0.out.1.1
      subst hl
      have E := ovl_nil_l yl
      go_wp2_with fail
      refine wp_region_kept (by kernel_rfl) (by kernel_rfl) ?_
      repeat (first
        | go_big_quiet_step (fail)
        | fail)
      refine wpQuiet_nil ?_
      intro w5 hw'
      have hb5 : Hid (Below w2.heap.size w2 w5) := by
        obtain ⟨⟨w3', hb3⟩, hw''⟩ := hw'
        rw [hw'']; exact hide hb3
      clear hw'
      go_wp2_with fail
      go_meet
      exact ⟨by rw [E], hb5⟩
    rcases Nat.eq_zero_or_pos yn with h1 | h1
    · subst h1
      have hl : yl = [] := List.eq_nil_of_length_eq_zero J1.out.1.1
      subst hl
      have E := ovl_nil_r xl
      have q0 : decide ((0 : Int) < (xn : Int)) = true := by simp; omega
      go_wp2_with fail
      refine wp_region_kept (by kernel_rfl) (by kernel_rfl) ?_
      repeat (first
        | go_big_quiet_step (fail)
        | fail)
      refine wpQuiet_nil ?_
      intro w5 hw'
      have hb5 : Hid (Below w2.heap.size w2 w5) := by
        obtain ⟨⟨w3', hb3⟩, hw''⟩ := hw'
        rw [hw'']; exact hide hb3
      clear hw'
      go_wp2_with fail
      go_meet
      exact ⟨by rw [E], hb5⟩
    obtain ⟨b0, off0, ea, hca⟩ := J0.out.1.2.2.2 h0
    obtain ⟨b2, off2, eb, hcb⟩ := J1.out.1.2.2.2 h1
    obtain ⟨N, hN⟩ : ∃ N, xn = N + 1 := ⟨xn - 1, by omega⟩
    obtain ⟨M, hM⟩ : ∃ M, yn = M + 1 := ⟨yn - 1, by omega⟩
    have hl := J0.out.1.1
    have hk := J1.out.1.1
    have hnx := J0.out.2
    have hny := J1.out.2
    obtain ⟨x, hx⟩ : ∃ x, xl[0]? = some x := ⟨_, List.getElem?_eq_getElem (by omega)⟩
    obtain ⟨p, hp⟩ : ∃ x, xl[N]? = some x := ⟨_, List.getElem?_eq_getElem (by omega)⟩
    obtain ⟨y, hy⟩ : ∃ x, yl[0]? = some x := ⟨_, List.getElem?_eq_getElem (by omega)⟩
    obtain ⟨q, hq⟩ : ∃ x, yl[M]? = some x := ⟨_, List.getElem?_eq_getElem (by omega)⟩
    have E := hide (ovl_want (by rw [List.head?_eq_getElem?]; exact hx) (by rw [List.head?_eq_getElem?]; exact hy) (last_at (hl.trans hN) hp) (last_at (hk.trans hM) hq))
    have vx := hide (hca 0 x hx)
    have vp := hide (hca N p hp)
    have vy := hide (hcb 0 y hy)
    have vq := hide (hcb M q hq)
    subst ea eb
    clear hx hp hy hq hca hcb hl hk J0 J1
    obtain ⟨Sx, Kx, Tx, Vx, Xx⟩ := x
    obtain ⟨Sy, Ky, Ty, Vy, Xy⟩ := y
    obtain ⟨Sp, Kp2, Tp, Vp, Xp⟩ := p
    obtain ⟨Sq, Kq, Tq, Vq, Xq⟩ := q
    unfold Vt at vx vp vy vq
    simp only [Nat.zero_mul, Nat.add_zero] at vx vp vy vq
    have x0 : ∀ p : Kp w2, p.W.cell? ⟨b0, off0, none⟩ = some (.int .i64 Sx) := fun p => (vx.out.keep p.h).1
    have x1 : ∀ p : Kp w2, p.W.cell? ⟨b0, off0 + 1, none⟩ = some (.int .i64 Kx) := fun p => (vx.out.keep p.h).2.1
    have x2 : ∀ p : Kp w2, p.W.cell? ⟨b0, off0 + 2, none⟩ = some (.int .u64 Tx) := fun p => (vx.out.keep p.h).2.2.1
    have x3 : ∀ p : Kp w2, p.W.cell? ⟨b0, off0 + 3, none⟩ = some (.int .u64 Vx) := fun p => (vx.out.keep p.h).2.2.2.1
    have x4 : ∀ p : Kp w2, p.W.cell? ⟨b0, off0 + 4, none⟩ = some (.int .i64 Xx) := fun p => (vx.out.keep p.h).2.2.2.2
    have p0 : ∀ p : Kp w2, p.W.cell? ⟨b0, off0 + N * 5, none⟩ = some (.int .i64 Sp) := fun p => (vp.out.keep p.h).1
    have p1 : ∀ p : Kp w2, p.W.cell? ⟨b0, off0 + N * 5 + 1, none⟩ = some (.int .i64 Kp2) := fun p => (vp.out.keep p.h).2.1
    have p2 : ∀ p : Kp w2, p.W.cell? ⟨b0, off0 + N * 5 + 2, none⟩ = some (.int .u64 Tp) := fun p => (vp.out.keep p.h).2.2.1
    have p3 : ∀ p : Kp w2, p.W.cell? ⟨b0, off0 + N * 5 + 3, none⟩ = some (.int .u64 Vp) := fun p => (vp.out.keep p.h).2.2.2.1
    have p4 : ∀ p : Kp w2, p.W.cell? ⟨b0, off0 + N * 5 + 4, none⟩ = some (.int .i64 Xp) := fun p => (vp.out.keep p.h).2.2.2.2
    have y0 : ∀ p : Kp w2, p.W.cell? ⟨b2, off2, none⟩ = some (.int .i64 Sy) := fun p => (vy.out.keep p.h).1
    have y1 : ∀ p : Kp w2, p.W.cell? ⟨b2, off2 + 1, none⟩ = some (.int .i64 Ky) := fun p => (vy.out.keep p.h).2.1
    have y2 : ∀ p : Kp w2, p.W.cell? ⟨b2, off2 + 2, none⟩ = some (.int .u64 Ty) := fun p => (vy.out.keep p.h).2.2.1
    have y3 : ∀ p : Kp w2, p.W.cell? ⟨b2, off2 + 3, none⟩ = some (.int .u64 Vy) := fun p => (vy.out.keep p.h).2.2.2.1
    have y4 : ∀ p : Kp w2, p.W.cell? ⟨b2, off2 + 4, none⟩ = some (.int .i64 Xy) := fun p => (vy.out.keep p.h).2.2.2.2
    have q0 : ∀ p : Kp w2, p.W.cell? ⟨b2, off2 + M * 5, none⟩ = some (.int .i64 Sq) := fun p => (vq.out.keep p.h).1
    have q1 : ∀ p : Kp w2, p.W.cell? ⟨b2, off2 + M * 5 + 1, none⟩ = some (.int .i64 Kq) := fun p => (vq.out.keep p.h).2.1
    have q2 : ∀ p : Kp w2, p.W.cell? ⟨b2, off2 + M * 5 + 2, none⟩ = some (.int .u64 Tq) := fun p => (vq.out.keep p.h).2.2.1
    have q3 : ∀ p : Kp w2, p.W.cell? ⟨b2, off2 + M * 5 + 3, none⟩ = some (.int .u64 Vq) := fun p => (vq.out.keep p.h).2.2.2.1
    have q4 : ∀ p : Kp w2, p.W.cell? ⟨b2, off2 + M * 5 + 4, none⟩ = some (.int .i64 Xq) := fun p => (vq.out.keep p.h).2.2.2.2
    obtain ⟨o1, ho1⟩ : ∃ o, lessI Sp Kp2 Tp Sy Ky Ty = o := ⟨_, rfl⟩
    obtain ⟨o2, ho2⟩ : ∃ o, lessI Sq Kq Tq Sx Kx Tx = o := ⟨_, rfl⟩
    have c1 : Hid (∀ p : Kp w2, Calls Try.prog 22 #[.agg #[.int .i64 Sp, .int .i64 Kp2, .int .u64 Tp, .int .u64 Vp, .int .i64 Xp], .agg #[.int .i64 Sy, .int .i64 Ky, .int .u64 Ty, .int .u64 Vy, .int .i64 Xy]] p.W fun e w'' => e = .returned (.bool o1) ∧ ∃ q : Kp w2, w'' = q.W) := hide fun p => kp_call (by rw [← ho1]; exact refless_any Sp Kp2 Tp Vp Xp Sy Ky Ty Vy Xy _)
    have c2 : Hid (∀ p : Kp w2, Calls Try.prog 22 #[.agg #[.int .i64 Sq, .int .i64 Kq, .int .u64 Tq, .int .u64 Vq, .int .i64 Xq], .agg #[.int .i64 Sx, .int .i64 Kx, .int .u64 Tx, .int .u64 Vx, .int .i64 Xx]] p.W fun e w'' => e = .returned (.bool o2) ∧ ∃ q : Kp w2, w'' = q.W) := hide fun p => kp_call (by rw [← ho2]; exact refless_any Sq Kq Tq Vq Xq Sx Kx Tx Vx Xx _)
    have E2 := hide (E.out.trans (show (!It.less ⟨Sp, Kp2, Tp, Vp, Xp⟩ ⟨Sy, Ky, Ty, Vy, Xy⟩ && !It.less ⟨Sq, Kq, Tq, Vq, Xq⟩ ⟨Sx, Kx, Tx, Vx, Xx⟩) = (!o1 && !o2) by unfold It.less; rw [ho1, ho2]))
    have e0 : decide (0 < xn) = true := by simp; omega
    have e1 : decide (0 < yn) = true := by simp; omega
    have g0 : (N : Int) < (xn : Int) := by omega
    have g1 : (M : Int) < (yn : Int) := by omega
    have r0 : IntKind.i64.wrap ((xn : Int) - 1) = (N : Int) := by simp [IntKind.wrap, IntKind.bits, IntKind.signed]; omega
    have r1 : IntKind.i64.wrap ((yn : Int) - 1) = (M : Int) := by simp [IntKind.wrap, IntKind.bits, IntKind.signed]; omega
    have Z0 := hide (show (0 : Int) < (xn : Int) by omega)
    have Z1 := hide (show (0 : Int) < (yn : Int) by omega)
    clear ho1 ho2 vx vp vy vq E hN hM h0 h1
    cases o1 with
    | true =>
      go_wp2_with fail
      refine wp_region_kept (by kernel_rfl) (by kernel_rfl) ?_
      repeat (first
        | go_big_quiet_step (first | (go_at_call 22; exact c1.out _))
        | fail)
      have z0 := Z0.out
      have z1 := Z1.out
      repeat (first
        | go_big_quiet_step (first | (go_at_call 22; exact c1.out _))
        | fail)
      refine wpQuiet_nil ?_
      intro w5 hw'
      have hb5 : Hid (Below w2.heap.size w2 w5) := by
        obtain ⟨⟨w3', hb3⟩, hw''⟩ := hw'
        rw [hw'']; exact hide hb3
      clear hw'
      go_wp2_with fail
      go_meet
      exact ⟨by rw [E2.out]; rfl, hb5⟩
    | false =>
      go_wp2_with fail
      refine wp_region_kept (by kernel_rfl) (by kernel_rfl) ?_
      repeat (first
        | go_big_quiet_step (first | (go_at_call 22; with_reducible exact c1.out _) | (go_at_call 22; with_reducible exact c2.out _))
        | fail)
      have z0 := Z0.out
      have z1 := Z1.out
      repeat (first
        | go_big_quiet_step (first | (go_at_call 22; with_reducible exact c1.out _) | (go_at_call 22; with_reducible exact c2.out _))
        | fail)
      refine wpQuiet_nil ?_
      intro w5 hw'
      have hb5 : Hid (Below w2.heap.size w2 w5) := by
        obtain ⟨⟨w3', hb3⟩, hw''⟩ := hw'
        rw [hw'']; exact hide hb3
      clear hw'
      go_wp2_with fail
      go_meet
      exact ⟨by rw [E2.out]; simp, hb5⟩
  case rest =>
    obtain ⟨rfl, hb3⟩ := hcut
    obtain ⟨w3, rfl⟩ : ∃ w3, w3 = wc := ⟨_, rfl⟩
    have K0 := hide (J0.out.1.below hb3.out (Nat.le_refl _))
    have K1 := hide (J1.out.1.below hb3.out (Nat.le_refl _))
    have nx := J0.out.2
    have ny := J1.out.2
    have C1 := hide (overlap_any _ _ xn xc yn yc xl yl w3 K0.out K1.out nx ny)
    generalize ovl xl yl = o at *
    have B3 := hide (bmore B2.out hb3.out)
    clear J0 J1 hb3 B2
    have e2 : (o == o) = true := by simp
    have e3 : (!o ^^ o) = true := by simp
    go_wp2_with fail
    refine C1.out.mono ?_
    rintro e w4 ⟨rfl, hb4⟩
    have L0 := hide (K0.out.below hb4 (Nat.le_refl _))
    have B4 := hide (bmore B3.out hb4)
    clear C1 hb4 K0 K1 B3
    rcases Nat.eq_zero_or_pos xn with h0 | h0
    · subst h0
      go_wp2_with (first | (go_at_call 18; refine (vawake_any _).mono ?_; rintro e w5 ⟨rfl, hb5⟩; have B5 := hide (bmore B4.out hb5)))
      go_ret
      exact ⟨rfl, B5.out⟩
    · have C2 := hide (overlap_any _ _ xn xc xn xc xl xl w4 L0.out L0.out nx nx)
      have hxl : xl ≠ [] := fun e => by have := L0.out.1; rw [e] at this; simp at this; omega
      rw [ovl_self hxr.out hxl] at C2
      have q0 : ((xn : Int) == 0) = false := by simp; omega
      clear hxl
      go_wp2_with (first
        | (go_at_call 23; refine C2.out.mono ?_; rintro e w5 ⟨rfl, hb5⟩; have B5 := hide (bmore B4.out hb5))
        | (go_at_call 18; refine (vawake_any _).mono ?_; rintro e w6 ⟨rfl, hb6⟩; have B6 := hide (bmore B5.out hb6)))
      go_ret
      exact ⟨rfl, B6.out⟩

end Go.Proofs.Ytkkcchklefcljaa.Clep
