/- What state.Of, Join, Series, Range, Upto and Purge do when called: for any items. Conditions: at most 2^39 items in a list. -/
import Derived.Test.YtckfgpcoingphaaSSettle
namespace Go.Proofs.Ytckfgpcoingphaa.Clep
open Go.RowKit
set_option linter.unusedVariables false

theorem lss_one {w : World} {a : Option Addr} {n c : Nat} {l : List It} (h : Is w a n c l) (hn : n ≤ 549755813888) : Lss (w.alloc (Obj.cells #[.slice a n c] 24)) (some ⟨w.heap.size, 0, none⟩) 1 [l] := by
  refine ⟨rfl, w.heap.size, 0, rfl, fun i m hi => ?_⟩
  cases i with
  | zero =>
    simp at hi; subst hi
    exact ⟨a, n, c, by simp, by omega, h.below ((Below.refl _ _).alloc (Nat.le_refl _) _) (Nat.le_refl _)⟩
  | succ i => simp at hi
theorem lss_two {w : World} {a b : Option Addr} {n c n' c' : Nat} {l m : List It} (h : Is w a n c l) (h' : Is w b n' c' m) (hn : n ≤ 549755813888) (hn' : n' ≤ 549755813888) : Lss (w.alloc (Obj.cells #[.slice a n c, .slice b n' c'] 24)) (some ⟨w.heap.size, 0, none⟩) 2 [l, m] := by
  refine ⟨rfl, w.heap.size, 0, rfl, fun i k hi => ?_⟩
  match i with
  | 0 =>
    simp at hi; subst hi
    exact ⟨a, n, c, by simp, by omega, h.below ((Below.refl _ _).alloc (Nat.le_refl _) _) (Nat.le_refl _)⟩
  | 1 =>
    simp at hi; subst hi
    exact ⟨b, n', c', by simp, by omega, h'.below ((Below.refl _ _).alloc (Nat.le_refl _) _) (Nat.le_refl _)⟩
  | i + 2 => simp at hi
theorem ans_alloc {l : List It} {w w1 : World} {e : Ending} {w' : World} (h : Ans l w1 e w') (hb : Below w.heap.size w w1) : Ans l w e w' := by
  obtain ⟨a, c, h1, h2, h3, h4⟩ := h
  exact ⟨a, c, h1, h2, h3, bmore hb h4⟩
theorem ans_own {l : List It} {w w1 w' : World} {v : Value} (h : OwnI w' w1.heap.size v l) (hw : ∀ x ∈ l, x.wf) (hb : Below w.heap.size w w') : Ans l w (.returned v) w' := by
  obtain ⟨a, c, rfl, hc, hi, _⟩ := ownI_is h hw
  exact ⟨a, c, rfl, hi, hc, hb⟩

theorem of_any (a : Option Addr) (n c : Nat) (l : List It) (w : World) (h : Is w a n c l) (hn : n ≤ 549755813888) : Calls Try.prog 9 #[.slice a n c] w (Ans (ofL l) w) := by
  have hs := hide (settle_any _ 1 1 [l] _ (lss_one h hn) (by simp [h.1]; omega) (by omega))
  have hf : [l].flatten = l := by simp
  rw [hf] at hs
  have hB := hide ((Below.refl _ w).alloc (Nat.le_refl _) (Obj.cells #[.slice a n c] 24))
  clear h hf
  go_enter Try.func9, Try.ntmps9
  go_wp2_with fail
  refine hs.out.mono ?_
  rintro e w1 ⟨a', c', rfl, h1, h2, h3⟩
  have H1 := hide h1
  have H3 := hide h3
  clear h1 h3 hs
  go_wp2
  go_ret
  exact ⟨a', c', rfl, H1.out, h2, bmore hB.out H3.out⟩

theorem join_any (a b : Option Addr) (n c n' c' : Nat) (l m : List It) (w : World) (h : Is w a n c l) (h' : Is w b n' c' m) (hn : n ≤ 549755813888) (hn' : n' ≤ 549755813888) : Calls Try.prog 15 #[.slice a n c, .slice b n' c'] w (Ans (ofL (l ++ m)) w) := by
  have hs := hide (settle_any _ 2 2 [l, m] _ (lss_two h h' hn hn') (by simp [h.1, h'.1]; omega) (by omega))
  have hf : [l, m].flatten = l ++ m := by simp
  rw [hf] at hs
  have hB := hide ((Below.refl _ w).alloc (Nat.le_refl _) (Obj.cells #[.slice a n c, .slice b n' c'] 24))
  clear h h' hf
  go_enter Try.func15, Try.ntmps15
  go_wp2_with fail
  refine hs.out.mono ?_
  rintro e w1 ⟨a', c'', rfl, h1, h2, h3⟩
  have H1 := hide h1
  have H3 := hide h3
  clear h1 h3 hs
  go_wp2
  go_ret
  exact ⟨a', c'', rfl, H1.out, h2, bmore hB.out H3.out⟩

set_option maxHeartbeats 400000 in
theorem series1_any (S K T V X s : Int) (R : Nat) (w : World) (h : w.cell? ⟨R, 0, none⟩ = some (.int .i64 s)) :
    Calls Try.prog 38 #[.agg #[.int .i64 S, .int .i64 K, .int .u64 T, .int .u64 V, .int .i64 X], .pointer (some ⟨R, 0, none⟩)] w fun e w' => e = .returned (.bool (S == s)) ∧ Below w.heap.size w w' := by
  have hr := World.block_lt_of_cell? w _ h
  have h1 : (w.alloc (Obj.cells #[Value.int IntKind.i64 S, Value.int IntKind.i64 K, Value.int IntKind.u64 T, Value.int IntKind.u64 V, Value.int IntKind.i64 X] 29)).cell? ⟨R, 0, none⟩ = some (.int .i64 s) := by rw [World.cell?_alloc_past _ _ _ hr]; exact h
  go_enter Try.func38, Try.ntmps38
  go_wp2
  go_ret
  exact ⟨rfl, (Below.refl _ w).alloc (Nat.le_refl _) _⟩

set_option maxHeartbeats 400000 in
theorem upto1_any (S K T V X v : Int) (R : Nat) (w : World) (h : w.cell? ⟨R, 0, none⟩ = some (.int .u64 v)) :
    Calls Try.prog 49 #[.agg #[.int .i64 S, .int .i64 K, .int .u64 T, .int .u64 V, .int .i64 X], .pointer (some ⟨R, 0, none⟩)] w fun e w' => e = .returned (.bool (decide (V ≤ v))) ∧ Below w.heap.size w w' := by
  have hr := World.block_lt_of_cell? w _ h
  have h1 : (w.alloc (Obj.cells #[Value.int IntKind.i64 S, Value.int IntKind.i64 K, Value.int IntKind.u64 T, Value.int IntKind.u64 V, Value.int IntKind.i64 X] 29)).cell? ⟨R, 0, none⟩ = some (.int .u64 v) := by rw [World.cell?_alloc_past _ _ _ hr]; exact h
  go_enter Try.func49, Try.ntmps49
  go_wp2
  go_ret
  exact ⟨rfl, (Below.refl _ w).alloc (Nat.le_refl _) _⟩

/-- Not a delete of a version of at most v. -/
def purgeP (v : Int) (x : It) : Bool := decide (x.K ≠ 1 ∨ v < x.V)
set_option maxHeartbeats 400000 in
theorem purge1_any (S K T V X v : Int) (R : Nat) (w : World) (h : w.cell? ⟨R, 0, none⟩ = some (.int .u64 v)) :
    Calls Try.prog 39 #[.agg #[.int .i64 S, .int .i64 K, .int .u64 T, .int .u64 V, .int .i64 X], .pointer (some ⟨R, 0, none⟩)] w fun e w' => e = .returned (.bool (purgeP v ⟨S, K, T, V, X⟩)) ∧ Below w.heap.size w w' := by
  have hr := World.block_lt_of_cell? w _ h
  have h1 : (w.alloc (Obj.cells #[Value.int IntKind.i64 S, Value.int IntKind.i64 K, Value.int IntKind.u64 T, Value.int IntKind.u64 V, Value.int IntKind.i64 X] 29)).cell? ⟨R, 0, none⟩ = some (.int .u64 v) := by rw [World.cell?_alloc_past _ _ _ hr]; exact h
  by_cases hK : K = 1
  · have hp := hide (show purgeP v ⟨S, K, T, V, X⟩ = decide (v < V) by unfold purgeP; rw [decide_eq_decide]; simp [hK])
    have hb : (K != 1) = false := by simp [hK]
    clear hK
    go_enter Try.func39, Try.ntmps39
    go_wp2
    go_ret
    exact ⟨ret_eq (by rw [hp.out]; rfl), (Below.refl _ w).alloc (Nat.le_refl _) _⟩
  · have hp := hide (show purgeP v ⟨S, K, T, V, X⟩ = true by unfold purgeP; simp [hK])
    have hb : (K != 1) = true := by simp [hK]
    clear hK
    go_enter Try.func39, Try.ntmps39
    go_wp2
    go_ret
    exact ⟨ret_eq (by rw [hp.out]; rfl), (Below.refl _ w).alloc (Nat.le_refl _) _⟩

def sampP (s : Int) (x : It) : Bool := decide (x.K = 2 ∧ x.S = s)
set_option maxHeartbeats 400000 in
theorem issample_any (S K T V X s : Int) (w : World) :
    Calls Try.prog 36 #[.agg #[.int .i64 S, .int .i64 K, .int .u64 T, .int .u64 V, .int .i64 X], .int .i64 s] w fun e w' => e = .returned (.bool (sampP s ⟨S, K, T, V, X⟩)) ∧ Below w.heap.size w w' := by
  by_cases hK : K = 2
  · have hp := hide (show sampP s ⟨S, K, T, V, X⟩ = (S == s) by unfold sampP; rw [Bool.eq_iff_iff]; simp [hK])
    have hb : (K == 2) = true := by simp [hK]
    clear hK
    go_enter Try.func36, Try.ntmps36
    go_wp2
    go_ret
    exact ⟨ret_eq (by rw [hp.out]; rfl), (Below.refl _ w).alloc (Nat.le_refl _) _⟩
  · have hp := hide (show sampP s ⟨S, K, T, V, X⟩ = false by unfold sampP; simp [hK])
    have hb : (K == 2) = false := by simp [hK]
    clear hK
    go_enter Try.func36, Try.ntmps36
    go_wp2
    go_ret
    exact ⟨ret_eq (by rw [hp.out]; rfl), (Below.refl _ w).alloc (Nat.le_refl _) _⟩

def rangeP (s lo hi : Int) (x : It) : Bool := decide (x.K = 2 ∧ x.S = s ∧ lo ≤ x.T ∧ x.T ≤ hi)
set_option maxHeartbeats 800000 in
theorem range1_any (S K T V X s lo hi : Int) (R0 R1 R2 : Nat) (w : World) (h0 : w.cell? ⟨R0, 0, none⟩ = some (.int .i64 s)) (h1 : w.cell? ⟨R1, 0, none⟩ = some (.int .u64 lo)) (h2 : w.cell? ⟨R2, 0, none⟩ = some (.int .u64 hi)) :
    Calls Try.prog 48 #[.agg #[.int .i64 S, .int .i64 K, .int .u64 T, .int .u64 V, .int .i64 X], .pointer (some ⟨R0, 0, none⟩), .pointer (some ⟨R1, 0, none⟩), .pointer (some ⟨R2, 0, none⟩)] w fun e w' => e = .returned (.bool (rangeP s lo hi ⟨S, K, T, V, X⟩)) ∧ Below w.heap.size w w' := by
  have B0 : Below w.heap.size w (w.alloc (Obj.cells #[Value.int IntKind.i64 S, Value.int IntKind.i64 K, Value.int IntKind.u64 T, Value.int IntKind.u64 V, Value.int IntKind.i64 X] 29)) := (Below.refl _ w).alloc (Nat.le_refl _) _
  have HK : Hid (∀ W, Below w.heap.size w W → W.cell? ⟨R0, 0, none⟩ = some (.int .i64 s) ∧ W.cell? ⟨R1, 0, none⟩ = some (.int .u64 lo) ∧ W.cell? ⟨R2, 0, none⟩ = some (.int .u64 hi)) := hide fun W hW =>
    ⟨(hW.cell (p := ⟨R0, 0, none⟩) (World.block_lt_of_cell? w _ h0)).trans h0, (hW.cell (p := ⟨R1, 0, none⟩) (World.block_lt_of_cell? w _ h1)).trans h1, (hW.cell (p := ⟨R2, 0, none⟩) (World.block_lt_of_cell? w _ h2)).trans h2⟩
  have HB0 := hide B0
  have X0 := hide (vi_new w S K T V X)
  obtain ⟨a0, a1, a2⟩ := HK.out _ B0
  clear h0 h1 h2 B0
  go_enter Try.func48, Try.ntmps48
  go_wp2_with fail
  refine (issample_any S K T V X s _).mono ?_
  obtain ⟨o, ho⟩ : ∃ o, sampP s ⟨S, K, T, V, X⟩ = o := ⟨_, rfl⟩
  rw [ho]
  rintro e w1 ⟨rfl, b1⟩
  have HB1 := hide (bmore HB0.out b1)
  have X1 := X0.out.keep b1
  unfold Vi at X1
  simp only [Nat.zero_add] at X1
  obtain ⟨x0, x1, x2, x3, x4⟩ := X1
  obtain ⟨c0, c1, c2⟩ := HK.out _ HB1.out
  clear a0 a1 a2 b1 X0
  cases o with
  | false =>
    have hp := hide (show rangeP s lo hi ⟨S, K, T, V, X⟩ = false by unfold sampP at ho; unfold rangeP; simp at ho ⊢; intro h1 h2; exact absurd h2 (ho h1))
    clear ho
    go_wp2
    go_ret
    exact ⟨ret_eq (by rw [hp.out]; rfl), HB1.out⟩
  | true =>
    by_cases hlo : lo ≤ T
    · have hp := hide (show rangeP s lo hi ⟨S, K, T, V, X⟩ = decide (T ≤ hi) by unfold sampP at ho; unfold rangeP; simp at ho ⊢; simp [ho, hlo])
      clear ho
      go_wp2
      go_ret
      exact ⟨ret_eq (by rw [hp.out]; rfl), HB1.out⟩
    · have hp := hide (show rangeP s lo hi ⟨S, K, T, V, X⟩ = false by unfold rangeP; simp [hlo])
      clear ho
      go_wp2
      go_ret
      exact ⟨ret_eq (by rw [hp.out]; rfl), HB1.out⟩

end Go.Proofs.Ytckfgpcoingphaa.Clep
