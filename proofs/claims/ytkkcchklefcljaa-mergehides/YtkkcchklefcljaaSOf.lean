/- What state.Of, Join, Series, Range, Upto and Purge do when called: for any items. Conditions: at most 2^39 items in a list. -/
import Derived.Test.YtkkcchklefcljaaSSettle
namespace Go.Proofs.Ytkkcchklefcljaa.Clep
open Go.RowKit
set_option linter.unusedVariables false
set_option maxRecDepth 10000

theorem lss_one {w : World} {a : Option Addr} {n c : Nat} {l : List It} (h : Is w a n c l) (hn : n ≤ 549755813888) : Lss (w.alloc (Obj.cells #[.slice a n c] 25)) (some ⟨w.heap.size, 0, none⟩) 1 [l] := by
  refine ⟨rfl, w.heap.size, 0, rfl, fun i m hi => ?_⟩
  cases i with
  | zero =>
    simp at hi; subst hi
    exact ⟨a, n, c, by simp, by omega, h.below ((Below.refl _ _).alloc (Nat.le_refl _) _) (Nat.le_refl _)⟩
  | succ i => simp at hi
theorem lss_two {w : World} {a b : Option Addr} {n c n' c' : Nat} {l m : List It} (h : Is w a n c l) (h' : Is w b n' c' m) (hn : n ≤ 549755813888) (hn' : n' ≤ 549755813888) : Lss (w.alloc (Obj.cells #[.slice a n c, .slice b n' c'] 25)) (some ⟨w.heap.size, 0, none⟩) 2 [l, m] := by
  refine ⟨rfl, w.heap.size, 0, rfl, fun i k hi => ?_⟩
  match i with
  | 0 =>
    simp at hi; subst hi
    exact ⟨a, n, c, by simp, by omega, h.below ((Below.refl _ _).alloc (Nat.le_refl _) _) (Nat.le_refl _)⟩
  | 1 =>
    simp at hi; subst hi
    exact ⟨b, n', c', by simp, by omega, h'.below ((Below.refl _ _).alloc (Nat.le_refl _) _) (Nat.le_refl _)⟩
  | i + 2 => simp at hi
theorem ans_alloc {l : List It} {w w1 : World} {e : Ending} {w' : World} (h : Ans l w1 e w') (hb : Below w.heap.size w w1) : Ans l w e w' := by
  obtain ⟨a, c, h1, h2, h3, h4⟩ := h
  exact ⟨a, c, h1, h2, h3, bmore hb h4⟩
theorem ans_own {l : List It} {w w1 w' : World} {v : Value} (h : OwnI w' w1.heap.size v l) (hw : ∀ x ∈ l, x.wf) (hb : Below w.heap.size w w') : Ans l w (.returned v) w' := by
  obtain ⟨a, c, rfl, hc, hi, _⟩ := ownI_is h hw
  exact ⟨a, c, rfl, hi, hc, hb⟩

theorem of_any (a : Option Addr) (n c : Nat) (l : List It) (w : World) (h : Is w a n c l) (hn : n ≤ 549755813888) : Calls Try.prog 17 #[.slice a n c] w (Ans (ofL l) w) := by
  have hs := hide (settle_any _ 1 1 [l] _ (lss_one h hn) (by simp [h.1]; omega) (by omega))
  have hf : [l].flatten = l := by simp
  rw [hf] at hs
  have hB := hide ((Below.refl _ w).alloc (Nat.le_refl _) (Obj.cells #[.slice a n c] 25))
  clear h hf
  go_enter Try.func17, Try.ntmps17
  go_wp2_with fail
  refine hs.out.mono ?_
  rintro e w1 ⟨a', c', rfl, h1, h2, h3⟩
  have H1 := hide h1
  have H3 := hide h3
  clear h1 h3 hs
  go_wp2
  go_ret
  exact ⟨a', c', rfl, H1.out, h2, bmore hB.out H3.out⟩

/-- Not a delete of a version of at most v. -/
def purgeP (v : Int) (x : It) : Bool := decide (x.K ≠ 1 ∨ v < x.V)
set_option maxHeartbeats 400000 in
theorem purge1_any (S K T V X v : Int) (R : Nat) (w : World) (h : w.cell? ⟨R, 0, none⟩ = some (.int .u64 v)) :
    Calls Try.prog 43 #[.agg #[.int .i64 S, .int .i64 K, .int .u64 T, .int .u64 V, .int .i64 X], .pointer (some ⟨R, 0, none⟩)] w fun e w' => e = .returned (.bool (purgeP v ⟨S, K, T, V, X⟩)) ∧ Below w.heap.size w w' := by
  have hr := World.block_lt_of_cell? w _ h
  have h1 : (w.alloc (Obj.cells #[Value.int IntKind.i64 S, Value.int IntKind.i64 K, Value.int IntKind.u64 T, Value.int IntKind.u64 V, Value.int IntKind.i64 X] 36)).cell? ⟨R, 0, none⟩ = some (.int .u64 v) := by rw [World.cell?_alloc_past _ _ _ hr]; exact h
  by_cases hK : K = 1
  · have hp := hide (show purgeP v ⟨S, K, T, V, X⟩ = decide (v < V) by unfold purgeP; rw [decide_eq_decide]; simp [hK])
    have hb : (K != 1) = false := by simp [hK]
    clear hK
    go_enter Try.func43, Try.ntmps43
    go_wp2
    go_ret
    exact ⟨ret_eq (by rw [hp.out]; rfl), (Below.refl _ w).alloc (Nat.le_refl _) _⟩
  · have hp := hide (show purgeP v ⟨S, K, T, V, X⟩ = true by unfold purgeP; simp [hK])
    have hb : (K != 1) = true := by simp [hK]
    clear hK
    go_enter Try.func43, Try.ntmps43
    go_wp2
    go_ret
    exact ⟨ret_eq (by rw [hp.out]; rfl), (Below.refl _ w).alloc (Nat.le_refl _) _⟩

def sampP (s : Int) (x : It) : Bool := decide (x.K = 2 ∧ x.S = s)
def rangeP (s lo hi : Int) (x : It) : Bool := decide (x.K = 2 ∧ x.S = s ∧ lo ≤ x.T ∧ x.T ≤ hi)
end Go.Proofs.Ytkkcchklefcljaa.Clep
