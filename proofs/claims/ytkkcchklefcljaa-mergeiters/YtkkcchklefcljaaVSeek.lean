/- What sort.Search with Seek's function does when called: for any items, rising or not. Conditions: at most 2^39 items. -/
import Derived.Test.YtkkcchklefcljaaVRows
import Derived.Shelf.Abstract
namespace Go.Proofs.Ytkkcchklefcljaa.Clep
open Go.RowKit
set_option linter.unusedVariables false

/-- What Seek's function says of the i-th. -/
def fq (l : List It) (x : It) (i : Nat) : Bool := match l[i]? with | some y => !(y.less x) | none => true
theorem fq_at {l : List It} {x y : It} {i : Nat} (h : l[i]? = some y) : fq l x i = !(y.less x) := by unfold fq; rw [h]
theorem fq_mono {l : List It} (hr : Rise l) (x : It) {i j : Nat} (hij : i ≤ j) (hj : j < l.length) (h : fq l x i = true) : fq l x j = true := by
  rcases Nat.lt_or_ge i j with e | e
  · have hi' : i < l.length := by omega
    rw [fq_at (List.getElem?_eq_getElem hi')] at h
    rw [fq_at (List.getElem?_eq_getElem hj)]
    have hl := List.pairwise_iff_getElem.1 hr i j hi' hj e
    cases hx : (l[j]).less x with
    | false => rfl
    | true => rw [less_trans hl hx] at h; cases h
  · rw [show j = i by omega]; exact h
/-- Seek's function in memory: the list's box, the item's box. -/
def Fb (w : World) (P0 P1 : Nat) (a : Option Addr) (n c : Nat) (l : List It) (x : It) : Prop := w.cell? ⟨P0, 0, none⟩ = some (.slice a n c) ∧ Vi w P1 0 x.S x.K x.T x.V x.X ∧ Is w a n c l
theorem Fb.keep {w w' : World} {P0 P1 : Nat} {a : Option Addr} {n c : Nat} {l : List It} {x : It} (h : Fb w P0 P1 a n c l x) (hb : Below w.heap.size w w') : Fb w' P0 P1 a n c l x :=
  ⟨(hb.cell (p := ⟨P0, 0, none⟩) (World.block_lt_of_cell? w _ h.1)).trans h.1, h.2.1.keep hb, h.2.2.below hb (Nat.le_refl _)⟩
set_option maxRecDepth 100000 in
set_option maxHeartbeats 1000000 in
theorem seek1_any (P0 P1 : Nat) (a : Option Addr) (n c : Nat) (l : List It) (x : It) (i : Nat) (w : World) (h : Fb w P0 P1 a n c l x) (hi : i < n) (hn : n ≤ 549755813888) :
    Calls Try.prog 38 #[.int .i64 i, .pointer (some ⟨P0, 0, none⟩), .pointer (some ⟨P1, 0, none⟩)] w fun e w' => e = .returned (.bool (fq l x i)) ∧ Below w.heap.size w w' := by
  obtain ⟨h0, h1, h2⟩ := h
  obtain ⟨b0, off, ea, hc⟩ := h2.2.2.2 (by omega)
  subst ea
  obtain ⟨y, hy⟩ : ∃ y, l[i]? = some y := ⟨_, List.getElem?_eq_getElem (by rw [h2.1]; exact hi)⟩
  have hv := hide (hc i y hy)
  have hv9 := hide h1
  have hfq := hide (fq_at (x := x) hy)
  have hl0 := World.block_lt_of_cell? w _ h0
  have H0 := hide h0
  obtain ⟨S, K, T, V, X⟩ := x
  obtain ⟨S0, K0, T0, V0', X0⟩ := y
  unfold Vt at hv
  simp only at hv hv9
  have b0' : ∀ p : Kp w, p.W.cell? ⟨P0, 0, none⟩ = some (.slice (some ⟨b0, off, none⟩) n c) := fun p => (p.h.cell (p := ⟨P0, 0, none⟩) hl0).trans H0.out
  have d0 : ∀ p : Kp w, p.W.cell? ⟨P1, 0, none⟩ = some (.int .i64 S) := fun p => by simpa using (hv9.out.keep p.h).1
  have d1 : ∀ p : Kp w, p.W.cell? ⟨P1, 1, none⟩ = some (.int .i64 K) := fun p => by simpa using (hv9.out.keep p.h).2.1
  have d2 : ∀ p : Kp w, p.W.cell? ⟨P1, 2, none⟩ = some (.int .u64 T) := fun p => by simpa using (hv9.out.keep p.h).2.2.1
  have d3 : ∀ p : Kp w, p.W.cell? ⟨P1, 3, none⟩ = some (.int .u64 V) := fun p => by simpa using (hv9.out.keep p.h).2.2.2.1
  have d4 : ∀ p : Kp w, p.W.cell? ⟨P1, 4, none⟩ = some (.int .i64 X) := fun p => by simpa using (hv9.out.keep p.h).2.2.2.2
  have f0 : ∀ p : Kp w, p.W.cell? ⟨b0, off + i * 5, none⟩ = some (.int .i64 S0) := fun p => (hv.out.keep p.h).1
  have f1 : ∀ p : Kp w, p.W.cell? ⟨b0, off + i * 5 + 1, none⟩ = some (.int .i64 K0) := fun p => (hv.out.keep p.h).2.1
  have f2 : ∀ p : Kp w, p.W.cell? ⟨b0, off + i * 5 + 2, none⟩ = some (.int .u64 T0) := fun p => (hv.out.keep p.h).2.2.1
  have f3 : ∀ p : Kp w, p.W.cell? ⟨b0, off + i * 5 + 3, none⟩ = some (.int .u64 V0') := fun p => (hv.out.keep p.h).2.2.2.1
  have f4 : ∀ p : Kp w, p.W.cell? ⟨b0, off + i * 5 + 4, none⟩ = some (.int .i64 X0) := fun p => (hv.out.keep p.h).2.2.2.2
  obtain ⟨o3, ho3⟩ : ∃ o, lessI S0 K0 T0 S K T = o := ⟨_, rfl⟩
  have c0 : Hid (∀ p : Kp w, Calls Try.prog 39 #[.agg #[.int .i64 S0, .int .i64 K0, .int .u64 T0, .int .u64 V0', .int .i64 X0], .agg #[.int .i64 S, .int .i64 K, .int .u64 T, .int .u64 V, .int .i64 X]] p.W fun e w'' => e = .returned (.bool o3) ∧ ∃ q : Kp w, w'' = q.W) := hide fun p => kp_call (by rw [← ho3]; exact less_any S0 K0 T0 V0' X0 S K T V X _)
  have HO3 := hide (hfq.out.trans (show (!(It.less ⟨S0, K0, T0, V0', X0⟩ ⟨S, K, T, V, X⟩)) = !o3 by unfold It.less; rw [ho3]))
  have hlt : (i : Int) < (n : Int) := by omega
  have hne : Nonempty (Kp w) := ⟨⟨_, Below.refl _ _⟩⟩
  clear h0 h1 h2 hc hy ho3 hfq
  go_enter Try.func38, Try.ntmps38
  go_wp2_with fail
  refine wp_region_kept (by kernel_rfl) (by kernel_rfl) ?_
  repeat (first
    | go_big_quiet_step (first | (go_at_call 39; exact c0.out _))
    | fail)
  refine wpQuiet_nil ?_
  intro w3 hw'
  have HB3 : Hid (Below w.heap.size w w3) := by
    obtain ⟨⟨w3', hb3⟩, hw''⟩ := hw'
    rw [hw'']; exact hide hb3
  clear hw' hne c0 d0 d1 d2 d3 d4 f0 f1 f2 f3 f4 b0'
  go_wp2
  go_ret
  exact ⟨by rw [HO3.out]; rfl, HB3.out⟩
set_option maxRecDepth 100000 in
set_option maxHeartbeats 1000000 in
theorem ssearch_any (P0 P1 : Nat) (a : Option Addr) (n c : Nat) (l : List It) (x : It) (w : World) (h : Fb w P0 P1 a n c l x) (hn : n ≤ 549755813888) :
    Calls Try.prog 37 #[.int .i64 n, .func (.func 38) #[] #[.pointer (some ⟨P0, 0, none⟩), .pointer (some ⟨P1, 0, none⟩)]] w fun e w' => ∃ k : Nat, e = .returned (.int .i64 k) ∧ k ≤ n ∧ (Rise l → (∀ i, i < k → fq l x i = false) ∧ ∀ i, k ≤ i → i < n → fq l x i = true) ∧ Below w.heap.size w w' := by
  have hl : l.length = n := h.2.2.1
  have HM := hide (fun (hr : Rise l) i j (hij : i ≤ j) (hj : j < n) (hh : fq l x i = true) => fq_mono hr x hij (by omega) hh)
  have HF := hide (fun W (hW : Below w.heap.size w W) i (hi : i < n) => seek1_any P0 P1 a n c l x i W (h.keep hW) hi hn)
  clear h
  go_enter Try.func37, Try.ntmps37
  go_wp2_with fail
  go_loopw [5, 6] (fun s5 s6 wr => ∃ lo hi : Nat, s5 = .int .i64 lo ∧ s6 = .int .i64 hi ∧ lo ≤ hi ∧ hi ≤ n ∧ Hid (Rise l → (∀ t, t < lo → fq l x t = false) ∧ (∀ t, hi ≤ t → t < n → fq l x t = true)) ∧ Hid (Below w.heap.size w wr)) (fun s5 s6 _ => (intOf s6).toNat - (intOf s5).toNat)
  case atStart => exact ⟨0, n, rfl, rfl, by omega, by omega, hide (fun _ => ⟨fun t ht => by omega, fun t h1 h2 => by omega⟩), hide (Below.refl _ _)⟩
  case round =>
    obtain ⟨lo, hi, rfl, rfl, hlh, hin, hI, hB⟩ := hrel
    by_cases hlt : lo < hi
    · have hc := HF.out wr hB.out ((lo + hi) / 2) (by omega)
      rw [show (((lo + hi) / 2 : Nat) : Int) = ((lo : Int) + (hi : Int)) / 2 by omega] at hc
      obtain ⟨o, ho⟩ : ∃ o, fq l x ((lo + hi) / 2) = o := ⟨_, rfl⟩
      rw [ho] at hc
      have HC := hide hc
      have HO := hide ho
      clear hc ho
      cases o with
      | false =>
        go_wp2_with (first | (go_at_call 38; refine HC.out.mono ?_; rintro e w1 ⟨rfl, hb1⟩))
        go_roundw
        case rel => exact ⟨(lo + hi) / 2 + 1, hi, by go_num, rfl, by omega, hin, hide (fun hr => ⟨fun t ht => (by
            cases hf : fq l x t with
            | false => rfl
            | true => exact absurd (HM.out hr t ((lo + hi) / 2) (by omega) (by omega) hf) (by rw [HO.out]; decide)), (hI.out hr).2⟩), hide (bmore hB.out hb1)⟩
        case measure => simp [intOf]; omega
      | true =>
        go_wp2_with (first | (go_at_call 38; refine HC.out.mono ?_; rintro e w1 ⟨rfl, hb1⟩))
        go_roundw
        case rel => exact ⟨lo, (lo + hi) / 2, rfl, by go_num, by omega, by omega, hide (fun hr => ⟨(hI.out hr).1, fun t ht htn => HM.out hr ((lo + hi) / 2) t ht htn HO.out⟩), hide (bmore hB.out hb1)⟩
        case measure => simp [intOf]; omega
    · obtain rfl : lo = hi := by omega
      go_wp2
      go_ret
      exact ⟨lo, rfl, hin, hI.out, hB.out⟩


end Go.Proofs.Ytkkcchklefcljaa.Clep
