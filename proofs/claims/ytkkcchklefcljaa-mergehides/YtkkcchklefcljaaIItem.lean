/- What item.Ok, Less, Same, Wins and Hides do when called, and the document's own: for any items. No conditions. -/
import Derived.Test.YtkkcchklefcljaaBase
namespace Go.Proofs.Ytkkcchklefcljaa.Clep
open Go.RowKit
set_option linter.unusedVariables false
set_option maxRecDepth 10000

/-- An item as a value. -/
def iv (S K T V X : Int) : Value := .agg #[.int .i64 S, .int .i64 K, .int .u64 T, .int .u64 V, .int .i64 X]
/-- Which items may be. -/
def okI (S K T V X : Int) : Bool := decide (0 ≤ S ∧ S ≤ 255 ∧ 1 ≤ V ∧ V ≤ 281474976710656 ∧ ((K = 1 ∧ T = 0 ∧ X = 0) ∨ (K = 2 ∧ T ≤ 1099511627776)))
/-- Which of two stands ahead. -/
def lessI (S0 K0 T0 S1 K1 T1 : Int) : Bool := decide (S0 < S1 ∨ S0 = S1 ∧ (K0 < K1 ∨ K0 = K1 ∧ T0 < T1))
def sameI (S0 K0 T0 S1 K1 T1 : Int) : Bool := decide (S0 = S1 ∧ K0 = K1 ∧ T0 = T1)
def winsI (V0 X0 V1 X1 : Int) : Bool := decide (V1 < V0 ∨ V0 = V1 ∧ X1 < X0)
def hidesI (S0 K0 V0 S1 K1 V1 : Int) : Bool := decide (K0 = 1 ∧ K1 = 2 ∧ S0 = S1 ∧ V1 ≤ V0)
theorem same_less (S0 K0 T0 S1 K1 T1 : Int) : (!lessI S0 K0 T0 S1 K1 T1 && !lessI S1 K1 T1 S0 K0 T0) = sameI S0 K0 T0 S1 K1 T1 := by
  unfold lessI sameI
  rw [Bool.eq_iff_iff]
  simp only [Bool.and_eq_true, Bool.not_eq_true', decide_eq_false_iff_not, decide_eq_true_eq]
  omega

set_option maxHeartbeats 400000 in
theorem ok_any (S K T V X : Int) (w : World) :
    Calls Try.prog 44 #[.agg #[.int .i64 S, .int .i64 K, .int .u64 T, .int .u64 V, .int .i64 X]] w fun e w' => e = .returned (.bool (okI S K T V X)) ∧ Below w.heap.size w w' := by
  have hc : S < 0 ∨ (¬ S < 0 ∧ 255 < S) ∨ (¬ S < 0 ∧ ¬ 255 < S ∧ V < 1) ∨ (¬ S < 0 ∧ ¬ 255 < S ∧ ¬ V < 1 ∧ 281474976710656 < V) ∨
    (¬ S < 0 ∧ ¬ 255 < S ∧ ¬ V < 1 ∧ ¬ 281474976710656 < V ∧ ((K = 1 ∧ T = 0) ∨ (K = 1 ∧ T ≠ 0) ∨ K = 2 ∨ (K ≠ 1 ∧ K ≠ 2))) := by omega
  rcases hc with h | ⟨h, h1⟩ | ⟨h, h1, h2⟩ | ⟨h, h1, h2, h3⟩ | ⟨h, h1, h2, h3, ⟨rfl, rfl⟩ | ⟨rfl, h4⟩ | rfl | ⟨h4, h5⟩⟩
  · have hk := hide (show okI S K T V X = false by unfold okI; simp; omega)
    go_enter Try.func44, Try.ntmps44
    go_wp2
    go_ret
    refine ⟨ret_eq ?_, (Below.refl _ w).alloc (Nat.le_refl _) _⟩
    rw [hk.out]; rfl
  · have hk := hide (show okI S K T V X = false by unfold okI; simp; omega)
    go_enter Try.func44, Try.ntmps44
    go_wp2
    go_ret
    refine ⟨ret_eq ?_, (Below.refl _ w).alloc (Nat.le_refl _) _⟩
    rw [hk.out]; rfl
  · have hk := hide (show okI S K T V X = false by unfold okI; simp; omega)
    go_enter Try.func44, Try.ntmps44
    go_wp2
    go_ret
    refine ⟨ret_eq ?_, (Below.refl _ w).alloc (Nat.le_refl _) _⟩
    rw [hk.out]; rfl
  · have hk := hide (show okI S K T V X = false by unfold okI; simp; omega)
    go_enter Try.func44, Try.ntmps44
    go_wp2
    go_ret
    refine ⟨ret_eq ?_, (Below.refl _ w).alloc (Nat.le_refl _) _⟩
    rw [hk.out]; rfl
  · have hk := hide (show okI S 1 0 V X = decide (X = 0) by unfold okI; rw [decide_eq_decide]; omega)
    go_enter Try.func44, Try.ntmps44
    go_wp2
    go_ret
    refine ⟨ret_eq ?_, (Below.refl _ w).alloc (Nat.le_refl _) _⟩
    rw [hk.out]; rfl
  · have hk := hide (show okI S 1 T V X = false by unfold okI; simp; omega)
    have hb : (T == 0) = false := by simp; omega
    go_enter Try.func44, Try.ntmps44
    go_wp2
    go_ret
    refine ⟨ret_eq ?_, (Below.refl _ w).alloc (Nat.le_refl _) _⟩
    rw [hk.out]; rfl
  · have hk := hide (show okI S 2 T V X = decide (T ≤ 1099511627776) by unfold okI; rw [decide_eq_decide]; omega)
    go_enter Try.func44, Try.ntmps44
    go_wp2
    go_ret
    refine ⟨ret_eq ?_, (Below.refl _ w).alloc (Nat.le_refl _) _⟩
    rw [hk.out]; rfl
  · have hk := hide (show okI S K T V X = false by unfold okI; simp; omega)
    have hb : (K == 1) = false := by simp; omega
    have hb2 : (K == 2) = false := by simp; omega
    go_enter Try.func44, Try.ntmps44
    go_wp2
    go_ret
    refine ⟨ret_eq ?_, (Below.refl _ w).alloc (Nat.le_refl _) _⟩
    rw [hk.out]; rfl

set_option maxHeartbeats 400000 in
theorem refok_any (S K T V X : Int) (w : World) :
    Calls Try.prog 24 #[.agg #[.int .i64 S, .int .i64 K, .int .u64 T, .int .u64 V, .int .i64 X]] w fun e w' => e = .returned (.bool (okI S K T V X)) ∧ Below w.heap.size w w' := by
  have hc : S < 0 ∨ (¬ S < 0 ∧ 255 < S) ∨ (¬ S < 0 ∧ ¬ 255 < S ∧ V < 1) ∨ (¬ S < 0 ∧ ¬ 255 < S ∧ ¬ V < 1 ∧ 281474976710656 < V) ∨
    (¬ S < 0 ∧ ¬ 255 < S ∧ ¬ V < 1 ∧ ¬ 281474976710656 < V ∧ ((K = 1 ∧ T = 0) ∨ (K = 1 ∧ T ≠ 0) ∨ K = 2 ∨ (K ≠ 1 ∧ K ≠ 2))) := by omega
  rcases hc with h | ⟨h, h1⟩ | ⟨h, h1, h2⟩ | ⟨h, h1, h2, h3⟩ | ⟨h, h1, h2, h3, ⟨rfl, rfl⟩ | ⟨rfl, h4⟩ | rfl | ⟨h4, h5⟩⟩
  · have hk := hide (show okI S K T V X = false by unfold okI; simp; omega)
    go_enter Try.func24, Try.ntmps24
    go_wp2
    go_ret
    refine ⟨ret_eq ?_, (Below.refl _ w).alloc (Nat.le_refl _) _⟩
    rw [hk.out]; rfl
  · have hk := hide (show okI S K T V X = false by unfold okI; simp; omega)
    go_enter Try.func24, Try.ntmps24
    go_wp2
    go_ret
    refine ⟨ret_eq ?_, (Below.refl _ w).alloc (Nat.le_refl _) _⟩
    rw [hk.out]; rfl
  · have hk := hide (show okI S K T V X = false by unfold okI; simp; omega)
    go_enter Try.func24, Try.ntmps24
    go_wp2
    go_ret
    refine ⟨ret_eq ?_, (Below.refl _ w).alloc (Nat.le_refl _) _⟩
    rw [hk.out]; rfl
  · have hk := hide (show okI S K T V X = false by unfold okI; simp; omega)
    go_enter Try.func24, Try.ntmps24
    go_wp2
    go_ret
    refine ⟨ret_eq ?_, (Below.refl _ w).alloc (Nat.le_refl _) _⟩
    rw [hk.out]; rfl
  · have hk := hide (show okI S 1 0 V X = decide (X = 0) by unfold okI; rw [decide_eq_decide]; omega)
    go_enter Try.func24, Try.ntmps24
    go_wp2
    go_ret
    refine ⟨ret_eq ?_, (Below.refl _ w).alloc (Nat.le_refl _) _⟩
    rw [hk.out]; rfl
  · have hk := hide (show okI S 1 T V X = false by unfold okI; simp; omega)
    have hb : (T == 0) = false := by simp; omega
    go_enter Try.func24, Try.ntmps24
    go_wp2
    go_ret
    refine ⟨ret_eq ?_, (Below.refl _ w).alloc (Nat.le_refl _) _⟩
    rw [hk.out]; rfl
  · have hk := hide (show okI S 2 T V X = decide (T ≤ 1099511627776) by unfold okI; rw [decide_eq_decide]; omega)
    go_enter Try.func24, Try.ntmps24
    go_wp2
    go_ret
    refine ⟨ret_eq ?_, (Below.refl _ w).alloc (Nat.le_refl _) _⟩
    rw [hk.out]; rfl
  · have hk := hide (show okI S K T V X = false by unfold okI; simp; omega)
    have hb : (K == 1) = false := by simp; omega
    have hb2 : (K == 2) = false := by simp; omega
    go_enter Try.func24, Try.ntmps24
    go_wp2
    go_ret
    refine ⟨ret_eq ?_, (Below.refl _ w).alloc (Nat.le_refl _) _⟩
    rw [hk.out]; rfl

set_option maxHeartbeats 400000 in
theorem less_any (S0 K0 T0 V0 X0 S1 K1 T1 V1 X1 : Int) (w : World) :
    Calls Try.prog 39 #[.agg #[.int .i64 S0, .int .i64 K0, .int .u64 T0, .int .u64 V0, .int .i64 X0], .agg #[.int .i64 S1, .int .i64 K1, .int .u64 T1, .int .u64 V1, .int .i64 X1]] w fun e w' => e = .returned (.bool (lessI S0 K0 T0 S1 K1 T1)) ∧ Below w.heap.size w w' := by
  have hc : S0 ≠ S1 ∨ (S0 = S1 ∧ K0 ≠ K1) ∨ (S0 = S1 ∧ K0 = K1) := by omega
  rcases hc with h | ⟨rfl, h⟩ | ⟨rfl, rfl⟩
  · have hk := hide (show lessI S0 K0 T0 S1 K1 T1 = decide (S0 < S1) by unfold lessI; rw [decide_eq_decide]; omega)
    have hb0 : (S0 != S1) = true := by simp; omega
    go_enter Try.func39, Try.ntmps39
    go_wp2
    go_ret
    refine ⟨ret_eq ?_, ((Below.refl _ w).alloc (Nat.le_refl _) _).alloc (by simp) _⟩
    rw [hk.out]; rfl
  · have hk := hide (show lessI S0 K0 T0 S0 K1 T1 = decide (K0 < K1) by unfold lessI; rw [decide_eq_decide]; omega)
    have hb0 : (K0 != K1) = true := by simp; omega
    go_enter Try.func39, Try.ntmps39
    go_wp2
    go_ret
    refine ⟨ret_eq ?_, ((Below.refl _ w).alloc (Nat.le_refl _) _).alloc (by simp) _⟩
    rw [hk.out]; rfl
  · have hk := hide (show lessI S0 K0 T0 S0 K0 T1 = decide (T0 < T1) by unfold lessI; rw [decide_eq_decide]; omega)
    go_enter Try.func39, Try.ntmps39
    go_wp2
    go_ret
    refine ⟨ret_eq ?_, ((Below.refl _ w).alloc (Nat.le_refl _) _).alloc (by simp) _⟩
    rw [hk.out]; rfl

set_option maxHeartbeats 400000 in
theorem refless_any (S0 K0 T0 V0 X0 S1 K1 T1 V1 X1 : Int) (w : World) :
    Calls Try.prog 22 #[.agg #[.int .i64 S0, .int .i64 K0, .int .u64 T0, .int .u64 V0, .int .i64 X0], .agg #[.int .i64 S1, .int .i64 K1, .int .u64 T1, .int .u64 V1, .int .i64 X1]] w fun e w' => e = .returned (.bool (lessI S0 K0 T0 S1 K1 T1)) ∧ Below w.heap.size w w' := by
  have hc : S0 ≠ S1 ∨ (S0 = S1 ∧ K0 ≠ K1) ∨ (S0 = S1 ∧ K0 = K1) := by omega
  rcases hc with h | ⟨rfl, h⟩ | ⟨rfl, rfl⟩
  · have hk := hide (show lessI S0 K0 T0 S1 K1 T1 = decide (S0 < S1) by unfold lessI; rw [decide_eq_decide]; omega)
    have hb0 : (S0 != S1) = true := by simp; omega
    go_enter Try.func22, Try.ntmps22
    go_wp2
    go_ret
    refine ⟨ret_eq ?_, ((Below.refl _ w).alloc (Nat.le_refl _) _).alloc (by simp) _⟩
    rw [hk.out]; rfl
  · have hk := hide (show lessI S0 K0 T0 S0 K1 T1 = decide (K0 < K1) by unfold lessI; rw [decide_eq_decide]; omega)
    have hb0 : (K0 != K1) = true := by simp; omega
    go_enter Try.func22, Try.ntmps22
    go_wp2
    go_ret
    refine ⟨ret_eq ?_, ((Below.refl _ w).alloc (Nat.le_refl _) _).alloc (by simp) _⟩
    rw [hk.out]; rfl
  · have hk := hide (show lessI S0 K0 T0 S0 K0 T1 = decide (T0 < T1) by unfold lessI; rw [decide_eq_decide]; omega)
    go_enter Try.func22, Try.ntmps22
    go_wp2
    go_ret
    refine ⟨ret_eq ?_, ((Below.refl _ w).alloc (Nat.le_refl _) _).alloc (by simp) _⟩
    rw [hk.out]; rfl

set_option maxHeartbeats 400000 in
theorem wins_any (S0 K0 T0 V0 X0 S1 K1 T1 V1 X1 : Int) (w : World) :
    Calls Try.prog 51 #[.agg #[.int .i64 S0, .int .i64 K0, .int .u64 T0, .int .u64 V0, .int .i64 X0], .agg #[.int .i64 S1, .int .i64 K1, .int .u64 T1, .int .u64 V1, .int .i64 X1]] w fun e w' => e = .returned (.bool (winsI V0 X0 V1 X1)) ∧ Below w.heap.size w w' := by
  have hc : V0 ≠ V1 ∨ V0 = V1 := by omega
  rcases hc with h | rfl
  · have hk := hide (show winsI V0 X0 V1 X1 = decide (V1 < V0) by unfold winsI; rw [decide_eq_decide]; omega)
    have hb0 : (V0 != V1) = true := by simp; omega
    go_enter Try.func51, Try.ntmps51
    go_wp2
    go_ret
    refine ⟨ret_eq ?_, ((Below.refl _ w).alloc (Nat.le_refl _) _).alloc (by simp) _⟩
    rw [hk.out]; rfl
  · have hk := hide (show winsI V0 X0 V0 X1 = decide (X1 < X0) by unfold winsI; rw [decide_eq_decide]; omega)
    go_enter Try.func51, Try.ntmps51
    go_wp2
    go_ret
    refine ⟨ret_eq ?_, ((Below.refl _ w).alloc (Nat.le_refl _) _).alloc (by simp) _⟩
    rw [hk.out]; rfl

set_option maxHeartbeats 400000 in
theorem refwins_any (S0 K0 T0 V0 X0 S1 K1 T1 V1 X1 : Int) (w : World) :
    Calls Try.prog 28 #[.agg #[.int .i64 S0, .int .i64 K0, .int .u64 T0, .int .u64 V0, .int .i64 X0], .agg #[.int .i64 S1, .int .i64 K1, .int .u64 T1, .int .u64 V1, .int .i64 X1]] w fun e w' => e = .returned (.bool (winsI V0 X0 V1 X1)) ∧ Below w.heap.size w w' := by
  have hc : V1 < V0 ∨ (¬ V1 < V0 ∧ V0 ≠ V1) ∨ V0 = V1 := by omega
  rcases hc with h | ⟨h, h1⟩ | rfl
  · have hk := hide (show winsI V0 X0 V1 X1 = true by unfold winsI; rw [decide_eq_true_eq]; omega)
    go_enter Try.func28, Try.ntmps28
    go_wp2
    go_ret
    refine ⟨ret_eq ?_, ((Below.refl _ w).alloc (Nat.le_refl _) _).alloc (by simp) _⟩
    rw [hk.out]; rfl
  · have hk := hide (show winsI V0 X0 V1 X1 = false by unfold winsI; simp; omega)
    have hb0 : (V0 == V1) = false := by simp; omega
    go_enter Try.func28, Try.ntmps28
    go_wp2
    go_ret
    refine ⟨ret_eq ?_, ((Below.refl _ w).alloc (Nat.le_refl _) _).alloc (by simp) _⟩
    rw [hk.out]; rfl
  · have hk := hide (show winsI V0 X0 V0 X1 = decide (X1 < X0) by unfold winsI; rw [decide_eq_decide]; omega)
    go_enter Try.func28, Try.ntmps28
    go_wp2
    go_ret
    refine ⟨ret_eq ?_, ((Below.refl _ w).alloc (Nat.le_refl _) _).alloc (by simp) _⟩
    rw [hk.out]; rfl

set_option maxHeartbeats 400000 in
theorem hides_any (S0 K0 T0 V0 X0 S1 K1 T1 V1 X1 : Int) (w : World) :
    Calls Try.prog 32 #[.agg #[.int .i64 S0, .int .i64 K0, .int .u64 T0, .int .u64 V0, .int .i64 X0], .agg #[.int .i64 S1, .int .i64 K1, .int .u64 T1, .int .u64 V1, .int .i64 X1]] w fun e w' => e = .returned (.bool (hidesI S0 K0 V0 S1 K1 V1)) ∧ Below w.heap.size w w' := by
  have hc : K0 ≠ 1 ∨ (K0 = 1 ∧ K1 ≠ 2) ∨ (K0 = 1 ∧ K1 = 2 ∧ S0 ≠ S1) ∨ (K0 = 1 ∧ K1 = 2 ∧ S0 = S1) := by omega
  rcases hc with h | ⟨rfl, h⟩ | ⟨rfl, rfl, h⟩ | ⟨rfl, rfl, rfl⟩
  · have hk := hide (show hidesI S0 K0 V0 S1 K1 V1 = false by unfold hidesI; simp; omega)
    have hb0 : (K0 == 1) = false := by simp; omega
    go_enter Try.func32, Try.ntmps32
    go_wp2
    go_ret
    refine ⟨ret_eq ?_, ((Below.refl _ w).alloc (Nat.le_refl _) _).alloc (by simp) _⟩
    rw [hk.out]; rfl
  · have hk := hide (show hidesI S0 1 V0 S1 K1 V1 = false by unfold hidesI; simp; omega)
    have hb0 : (K1 == 2) = false := by simp; omega
    go_enter Try.func32, Try.ntmps32
    go_wp2
    go_ret
    refine ⟨ret_eq ?_, ((Below.refl _ w).alloc (Nat.le_refl _) _).alloc (by simp) _⟩
    rw [hk.out]; rfl
  · have hk := hide (show hidesI S0 1 V0 S1 2 V1 = false by unfold hidesI; simp; omega)
    have hb0 : (S0 == S1) = false := by simp; omega
    go_enter Try.func32, Try.ntmps32
    go_wp2
    go_ret
    refine ⟨ret_eq ?_, ((Below.refl _ w).alloc (Nat.le_refl _) _).alloc (by simp) _⟩
    rw [hk.out]; rfl
  · have hk := hide (show hidesI S0 1 V0 S0 2 V1 = decide (V1 ≤ V0) by unfold hidesI; rw [decide_eq_decide]; omega)
    go_enter Try.func32, Try.ntmps32
    go_wp2
    go_ret
    refine ⟨ret_eq ?_, ((Below.refl _ w).alloc (Nat.le_refl _) _).alloc (by simp) _⟩
    rw [hk.out]; rfl

set_option maxHeartbeats 400000 in
theorem refhides_any (S0 K0 T0 V0 X0 S1 K1 T1 V1 X1 : Int) (w : World) :
    Calls Try.prog 33 #[.agg #[.int .i64 S0, .int .i64 K0, .int .u64 T0, .int .u64 V0, .int .i64 X0], .agg #[.int .i64 S1, .int .i64 K1, .int .u64 T1, .int .u64 V1, .int .i64 X1]] w fun e w' => e = .returned (.bool (hidesI S0 K0 V0 S1 K1 V1)) ∧ Below w.heap.size w w' := by
  have hc : K0 ≠ 1 ∨ (K0 = 1 ∧ K1 ≠ 2) ∨ (K0 = 1 ∧ K1 = 2 ∧ S0 ≠ S1) ∨ (K0 = 1 ∧ K1 = 2 ∧ S0 = S1) := by omega
  rcases hc with h | ⟨rfl, h⟩ | ⟨rfl, rfl, h⟩ | ⟨rfl, rfl, rfl⟩
  · have hk := hide (show hidesI S0 K0 V0 S1 K1 V1 = false by unfold hidesI; simp; omega)
    have hb0 : (K0 == 1) = false := by simp; omega
    go_enter Try.func33, Try.ntmps33
    go_wp2
    go_ret
    refine ⟨ret_eq ?_, ((Below.refl _ w).alloc (Nat.le_refl _) _).alloc (by simp) _⟩
    rw [hk.out]; rfl
  · have hk := hide (show hidesI S0 1 V0 S1 K1 V1 = false by unfold hidesI; simp; omega)
    have hb0 : (K1 == 2) = false := by simp; omega
    go_enter Try.func33, Try.ntmps33
    go_wp2
    go_ret
    refine ⟨ret_eq ?_, ((Below.refl _ w).alloc (Nat.le_refl _) _).alloc (by simp) _⟩
    rw [hk.out]; rfl
  · have hk := hide (show hidesI S0 1 V0 S1 2 V1 = false by unfold hidesI; simp; omega)
    have hb0 : (S0 == S1) = false := by simp; omega
    go_enter Try.func33, Try.ntmps33
    go_wp2
    go_ret
    refine ⟨ret_eq ?_, ((Below.refl _ w).alloc (Nat.le_refl _) _).alloc (by simp) _⟩
    rw [hk.out]; rfl
  · have hk := hide (show hidesI S0 1 V0 S0 2 V1 = decide (V1 ≤ V0) by unfold hidesI; rw [decide_eq_decide]; omega)
    go_enter Try.func33, Try.ntmps33
    go_wp2
    go_ret
    refine ⟨ret_eq ?_, ((Below.refl _ w).alloc (Nat.le_refl _) _).alloc (by simp) _⟩
    rw [hk.out]; rfl

end Go.Proofs.Ytkkcchklefcljaa.Clep
