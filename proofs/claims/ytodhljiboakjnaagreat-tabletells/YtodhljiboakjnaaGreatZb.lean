/- What item.Ok, Less, Same, Wins and Hides do when called, and the document's own: for any items. No conditions. -/
import Derived.Test.YtodhljiboakjnaaGreatZa
namespace Go.Proofs.YtodhljiboakjnaaGreat.Clep
open Go.RowKit
set_option linter.unusedVariables false
set_option maxRecDepth 10000

/-- An item as a value. -/
def iv (S K T V X : Int) : Value := .agg #[.int .i64 S, .int .i64 K, .int .u64 T, .int .u64 V, .int .i64 X]
/-- Which items may be. -/
def okI (S K T V X : Int) : Bool := decide (0 ≤ S ∧ S ≤ 255 ∧ 1 ≤ V ∧ V ≤ 281474976710656 ∧ ((K = 1 ∧ T = 0 ∧ X = 0) ∨ (K = 2 ∧ T ≤ 1099511627776)))
/-- Which of two stands ahead. -/
def lessI (S0 K0 T0 S1 K1 T1 : Int) : Bool := decide (S0 < S1 ∨ S0 = S1 ∧ (K0 < K1 ∨ K0 = K1 ∧ T0 < T1))
def sameI (S0 K0 T0 S1 K1 T1 : Int) : Bool := decide (S0 = S1 ∧ K0 = K1 ∧ T0 = T1)
def winsI (V0 X0 V1 X1 : Int) : Bool := decide (V1 < V0 ∨ V0 = V1 ∧ X1 < X0)
def hidesI (S0 K0 V0 S1 K1 V1 : Int) : Bool := decide (K0 = 1 ∧ K1 = 2 ∧ S0 = S1 ∧ V1 ≤ V0)
theorem same_less (S0 K0 T0 S1 K1 T1 : Int) : (!lessI S0 K0 T0 S1 K1 T1 && !lessI S1 K1 T1 S0 K0 T0) = sameI S0 K0 T0 S1 K1 T1 := by
  unfold lessI sameI
  rw [Bool.eq_iff_iff]
  simp only [Bool.and_eq_true, Bool.not_eq_true', decide_eq_false_iff_not, decide_eq_true_eq]
  omega

set_option maxHeartbeats 400000 in
theorem ok_any (S K T V X : Int) (w : World) :
    Calls Tryz.prog 51 #[.agg #[.int .i64 S, .int .i64 K, .int .u64 T, .int .u64 V, .int .i64 X]] w fun e w' => e = .returned (.bool (okI S K T V X)) ∧ Below w.heap.size w w' := by
  have hc : S < 0 ∨ (¬ S < 0 ∧ 255 < S) ∨ (¬ S < 0 ∧ ¬ 255 < S ∧ V < 1) ∨ (¬ S < 0 ∧ ¬ 255 < S ∧ ¬ V < 1 ∧ 281474976710656 < V) ∨
    (¬ S < 0 ∧ ¬ 255 < S ∧ ¬ V < 1 ∧ ¬ 281474976710656 < V ∧ ((K = 1 ∧ T = 0) ∨ (K = 1 ∧ T ≠ 0) ∨ K = 2 ∨ (K ≠ 1 ∧ K ≠ 2))) := by omega
  rcases hc with h | ⟨h, h1⟩ | ⟨h, h1, h2⟩ | ⟨h, h1, h2, h3⟩ | ⟨h, h1, h2, h3, ⟨rfl, rfl⟩ | ⟨rfl, h4⟩ | rfl | ⟨h4, h5⟩⟩
  · have hk := hide (show okI S K T V X = false by unfold okI; simp; omega)
    go_enter Tryz.func51, Tryz.ntmps51
    go_wp2
    go_ret
    refine ⟨ret_eq ?_, (Below.refl _ w).alloc (Nat.le_refl _) _⟩
    rw [hk.out]; rfl
  · have hk := hide (show okI S K T V X = false by unfold okI; simp; omega)
    go_enter Tryz.func51, Tryz.ntmps51
    go_wp2
    go_ret
    refine ⟨ret_eq ?_, (Below.refl _ w).alloc (Nat.le_refl _) _⟩
    rw [hk.out]; rfl
  · have hk := hide (show okI S K T V X = false by unfold okI; simp; omega)
    go_enter Tryz.func51, Tryz.ntmps51
    go_wp2
    go_ret
    refine ⟨ret_eq ?_, (Below.refl _ w).alloc (Nat.le_refl _) _⟩
    rw [hk.out]; rfl
  · have hk := hide (show okI S K T V X = false by unfold okI; simp; omega)
    go_enter Tryz.func51, Tryz.ntmps51
    go_wp2
    go_ret
    refine ⟨ret_eq ?_, (Below.refl _ w).alloc (Nat.le_refl _) _⟩
    rw [hk.out]; rfl
  · have hk := hide (show okI S 1 0 V X = decide (X = 0) by unfold okI; rw [decide_eq_decide]; omega)
    go_enter Tryz.func51, Tryz.ntmps51
    go_wp2
    go_ret
    refine ⟨ret_eq ?_, (Below.refl _ w).alloc (Nat.le_refl _) _⟩
    rw [hk.out]; rfl
  · have hk := hide (show okI S 1 T V X = false by unfold okI; simp; omega)
    have hb : (T == 0) = false := by simp; omega
    go_enter Tryz.func51, Tryz.ntmps51
    go_wp2
    go_ret
    refine ⟨ret_eq ?_, (Below.refl _ w).alloc (Nat.le_refl _) _⟩
    rw [hk.out]; rfl
  · have hk := hide (show okI S 2 T V X = decide (T ≤ 1099511627776) by unfold okI; rw [decide_eq_decide]; omega)
    go_enter Tryz.func51, Tryz.ntmps51
    go_wp2
    go_ret
    refine ⟨ret_eq ?_, (Below.refl _ w).alloc (Nat.le_refl _) _⟩
    rw [hk.out]; rfl
  · have hk := hide (show okI S K T V X = false by unfold okI; simp; omega)
    have hb : (K == 1) = false := by simp; omega
    have hb2 : (K == 2) = false := by simp; omega
    go_enter Tryz.func51, Tryz.ntmps51
    go_wp2
    go_ret
    refine ⟨ret_eq ?_, (Below.refl _ w).alloc (Nat.le_refl _) _⟩
    rw [hk.out]; rfl

set_option maxHeartbeats 400000 in
theorem refok_any (S K T V X : Int) (w : World) :
    Calls Tryz.prog 26 #[.agg #[.int .i64 S, .int .i64 K, .int .u64 T, .int .u64 V, .int .i64 X]] w fun e w' => e = .returned (.bool (okI S K T V X)) ∧ Below w.heap.size w w' := by
  have hc : S < 0 ∨ (¬ S < 0 ∧ 255 < S) ∨ (¬ S < 0 ∧ ¬ 255 < S ∧ V < 1) ∨ (¬ S < 0 ∧ ¬ 255 < S ∧ ¬ V < 1 ∧ 281474976710656 < V) ∨
    (¬ S < 0 ∧ ¬ 255 < S ∧ ¬ V < 1 ∧ ¬ 281474976710656 < V ∧ ((K = 1 ∧ T = 0) ∨ (K = 1 ∧ T ≠ 0) ∨ K = 2 ∨ (K ≠ 1 ∧ K ≠ 2))) := by omega
  rcases hc with h | ⟨h, h1⟩ | ⟨h, h1, h2⟩ | ⟨h, h1, h2, h3⟩ | ⟨h, h1, h2, h3, ⟨rfl, rfl⟩ | ⟨rfl, h4⟩ | rfl | ⟨h4, h5⟩⟩
  · have hk := hide (show okI S K T V X = false by unfold okI; simp; omega)
    go_enter Tryz.func26, Tryz.ntmps26
    go_wp2
    go_ret
    refine ⟨ret_eq ?_, (Below.refl _ w).alloc (Nat.le_refl _) _⟩
    rw [hk.out]; rfl
  · have hk := hide (show okI S K T V X = false by unfold okI; simp; omega)
    go_enter Tryz.func26, Tryz.ntmps26
    go_wp2
    go_ret
    refine ⟨ret_eq ?_, (Below.refl _ w).alloc (Nat.le_refl _) _⟩
    rw [hk.out]; rfl
  · have hk := hide (show okI S K T V X = false by unfold okI; simp; omega)
    go_enter Tryz.func26, Tryz.ntmps26
    go_wp2
    go_ret
    refine ⟨ret_eq ?_, (Below.refl _ w).alloc (Nat.le_refl _) _⟩
    rw [hk.out]; rfl
  · have hk := hide (show okI S K T V X = false by unfold okI; simp; omega)
    go_enter Tryz.func26, Tryz.ntmps26
    go_wp2
    go_ret
    refine ⟨ret_eq ?_, (Below.refl _ w).alloc (Nat.le_refl _) _⟩
    rw [hk.out]; rfl
  · have hk := hide (show okI S 1 0 V X = decide (X = 0) by unfold okI; rw [decide_eq_decide]; omega)
    go_enter Tryz.func26, Tryz.ntmps26
    go_wp2
    go_ret
    refine ⟨ret_eq ?_, (Below.refl _ w).alloc (Nat.le_refl _) _⟩
    rw [hk.out]; rfl
  · have hk := hide (show okI S 1 T V X = false by unfold okI; simp; omega)
    have hb : (T == 0) = false := by simp; omega
    go_enter Tryz.func26, Tryz.ntmps26
    go_wp2
    go_ret
    refine ⟨ret_eq ?_, (Below.refl _ w).alloc (Nat.le_refl _) _⟩
    rw [hk.out]; rfl
  · have hk := hide (show okI S 2 T V X = decide (T ≤ 1099511627776) by unfold okI; rw [decide_eq_decide]; omega)
    go_enter Tryz.func26, Tryz.ntmps26
    go_wp2
    go_ret
    refine ⟨ret_eq ?_, (Below.refl _ w).alloc (Nat.le_refl _) _⟩
    rw [hk.out]; rfl
  · have hk := hide (show okI S K T V X = false by unfold okI; simp; omega)
    have hb : (K == 1) = false := by simp; omega
    have hb2 : (K == 2) = false := by simp; omega
    go_enter Tryz.func26, Tryz.ntmps26
    go_wp2
    go_ret
    refine ⟨ret_eq ?_, (Below.refl _ w).alloc (Nat.le_refl _) _⟩
    rw [hk.out]; rfl

set_option maxHeartbeats 400000 in
theorem less_any (S0 K0 T0 V0 X0 S1 K1 T1 V1 X1 : Int) (w : World) :
    Calls Tryz.prog 49 #[.agg #[.int .i64 S0, .int .i64 K0, .int .u64 T0, .int .u64 V0, .int .i64 X0], .agg #[.int .i64 S1, .int .i64 K1, .int .u64 T1, .int .u64 V1, .int .i64 X1]] w fun e w' => e = .returned (.bool (lessI S0 K0 T0 S1 K1 T1)) ∧ Below w.heap.size w w' := by
  have hc : S0 ≠ S1 ∨ (S0 = S1 ∧ K0 ≠ K1) ∨ (S0 = S1 ∧ K0 = K1) := by omega
  rcases hc with h | ⟨rfl, h⟩ | ⟨rfl, rfl⟩
  · have hk := hide (show lessI S0 K0 T0 S1 K1 T1 = decide (S0 < S1) by unfold lessI; rw [decide_eq_decide]; omega)
    have hb0 : (S0 != S1) = true := by simp; omega
    go_enter Tryz.func49, Tryz.ntmps49
    go_wp2
    go_ret
    refine ⟨ret_eq ?_, ((Below.refl _ w).alloc (Nat.le_refl _) _).alloc (by simp) _⟩
    rw [hk.out]; rfl
  · have hk := hide (show lessI S0 K0 T0 S0 K1 T1 = decide (K0 < K1) by unfold lessI; rw [decide_eq_decide]; omega)
    have hb0 : (K0 != K1) = true := by simp; omega
    go_enter Tryz.func49, Tryz.ntmps49
    go_wp2
    go_ret
    refine ⟨ret_eq ?_, ((Below.refl _ w).alloc (Nat.le_refl _) _).alloc (by simp) _⟩
    rw [hk.out]; rfl
  · have hk := hide (show lessI S0 K0 T0 S0 K0 T1 = decide (T0 < T1) by unfold lessI; rw [decide_eq_decide]; omega)
    go_enter Tryz.func49, Tryz.ntmps49
    go_wp2
    go_ret
    refine ⟨ret_eq ?_, ((Below.refl _ w).alloc (Nat.le_refl _) _).alloc (by simp) _⟩
    rw [hk.out]; rfl

set_option maxHeartbeats 400000 in
theorem refless_any (S0 K0 T0 V0 X0 S1 K1 T1 V1 X1 : Int) (w : World) :
    Calls Tryz.prog 20 #[.agg #[.int .i64 S0, .int .i64 K0, .int .u64 T0, .int .u64 V0, .int .i64 X0], .agg #[.int .i64 S1, .int .i64 K1, .int .u64 T1, .int .u64 V1, .int .i64 X1]] w fun e w' => e = .returned (.bool (lessI S0 K0 T0 S1 K1 T1)) ∧ Below w.heap.size w w' := by
  have hc : S0 ≠ S1 ∨ (S0 = S1 ∧ K0 ≠ K1) ∨ (S0 = S1 ∧ K0 = K1) := by omega
  rcases hc with h | ⟨rfl, h⟩ | ⟨rfl, rfl⟩
  · have hk := hide (show lessI S0 K0 T0 S1 K1 T1 = decide (S0 < S1) by unfold lessI; rw [decide_eq_decide]; omega)
    have hb0 : (S0 != S1) = true := by simp; omega
    go_enter Tryz.func20, Tryz.ntmps20
    go_wp2
    go_ret
    refine ⟨ret_eq ?_, ((Below.refl _ w).alloc (Nat.le_refl _) _).alloc (by simp) _⟩
    rw [hk.out]; rfl
  · have hk := hide (show lessI S0 K0 T0 S0 K1 T1 = decide (K0 < K1) by unfold lessI; rw [decide_eq_decide]; omega)
    have hb0 : (K0 != K1) = true := by simp; omega
    go_enter Tryz.func20, Tryz.ntmps20
    go_wp2
    go_ret
    refine ⟨ret_eq ?_, ((Below.refl _ w).alloc (Nat.le_refl _) _).alloc (by simp) _⟩
    rw [hk.out]; rfl
  · have hk := hide (show lessI S0 K0 T0 S0 K0 T1 = decide (T0 < T1) by unfold lessI; rw [decide_eq_decide]; omega)
    go_enter Tryz.func20, Tryz.ntmps20
    go_wp2
    go_ret
    refine ⟨ret_eq ?_, ((Below.refl _ w).alloc (Nat.le_refl _) _).alloc (by simp) _⟩
    rw [hk.out]; rfl

set_option maxHeartbeats 400000 in
theorem refwins_any (S0 K0 T0 V0 X0 S1 K1 T1 V1 X1 : Int) (w : World) :
    Calls Tryz.prog 50 #[.agg #[.int .i64 S0, .int .i64 K0, .int .u64 T0, .int .u64 V0, .int .i64 X0], .agg #[.int .i64 S1, .int .i64 K1, .int .u64 T1, .int .u64 V1, .int .i64 X1]] w fun e w' => e = .returned (.bool (winsI V0 X0 V1 X1)) ∧ Below w.heap.size w w' := by
  have hc : V1 < V0 ∨ (¬ V1 < V0 ∧ V0 ≠ V1) ∨ V0 = V1 := by omega
  rcases hc with h | ⟨h, h1⟩ | rfl
  · have hk := hide (show winsI V0 X0 V1 X1 = true by unfold winsI; rw [decide_eq_true_eq]; omega)
    go_enter Tryz.func50, Tryz.ntmps50
    go_wp2
    go_ret
    refine ⟨ret_eq ?_, ((Below.refl _ w).alloc (Nat.le_refl _) _).alloc (by simp) _⟩
    rw [hk.out]; rfl
  · have hk := hide (show winsI V0 X0 V1 X1 = false by unfold winsI; simp; omega)
    have hb0 : (V0 == V1) = false := by simp; omega
    go_enter Tryz.func50, Tryz.ntmps50
    go_wp2
    go_ret
    refine ⟨ret_eq ?_, ((Below.refl _ w).alloc (Nat.le_refl _) _).alloc (by simp) _⟩
    rw [hk.out]; rfl
  · have hk := hide (show winsI V0 X0 V0 X1 = decide (X1 < X0) by unfold winsI; rw [decide_eq_decide]; omega)
    go_enter Tryz.func50, Tryz.ntmps50
    go_wp2
    go_ret
    refine ⟨ret_eq ?_, ((Below.refl _ w).alloc (Nat.le_refl _) _).alloc (by simp) _⟩
    rw [hk.out]; rfl

end Go.Proofs.YtodhljiboakjnaaGreat.Clep

/- A variable that holds an item, in a block of its own; item.Same and the document's own Same. No conditions. -/
namespace Go.Proofs.YtodhljiboakjnaaGreat.Clep
open Go.RowKit
set_option linter.unusedVariables false
set_option maxRecDepth 10000

/-- The block R, from place o on, holds an item, and may be written. -/
def Vi (w : World) (R o : Nat) (S K T V X : Int) : Prop :=
  (w.cell? ⟨R, o, none⟩ = some (.int .i64 S) ∧ w.cell? ⟨R, o + 1, none⟩ = some (.int .i64 K) ∧ w.cell? ⟨R, o + 2, none⟩ = some (.int .u64 T) ∧ w.cell? ⟨R, o + 3, none⟩ = some (.int .u64 V) ∧ w.cell? ⟨R, o + 4, none⟩ = some (.int .i64 X))
def Vf (w : World) (R o : Nat) : Prop :=
  (w.frozen? ⟨R, o, none⟩ = false ∧ w.frozen? ⟨R, o + 1, none⟩ = false ∧ w.frozen? ⟨R, o + 2, none⟩ = false ∧ w.frozen? ⟨R, o + 3, none⟩ = false ∧ w.frozen? ⟨R, o + 4, none⟩ = false)
theorem vi_new (w : World) (S K T V X : Int) : Vi (w.alloc (Obj.cells #[Value.int IntKind.i64 S, Value.int IntKind.i64 K, Value.int IntKind.u64 T, Value.int IntKind.u64 V, Value.int IntKind.i64 X] 25)) w.heap.size 0 S K T V X := by
  unfold Vi; simp [go_sem]
theorem vf_new (w : World) (S K T V X : Int) : Vf (w.alloc (Obj.cells #[Value.int IntKind.i64 S, Value.int IntKind.i64 K, Value.int IntKind.u64 T, Value.int IntKind.u64 V, Value.int IntKind.i64 X] 25)) w.heap.size 0 := by
  unfold Vf; simp [go_sem]
theorem Vi.lt {w : World} {R o : Nat} {S K T V X : Int} (h : Vi w R o S K T V X) : R < w.heap.size := World.block_lt_of_cell? w _ h.1
theorem Vi.below {w w' : World} {R o B : Nat} {S K T V X : Int} (h : Vi w R o S K T V X) (hb : Below B w w') (hR : R < B) : Vi w' R o S K T V X := by
  obtain ⟨h0, h1, h2, h3, h4⟩ := h
  exact ⟨(hb.cell (p := ⟨R, o, none⟩) hR).trans h0, (hb.cell (p := ⟨R, o + 1, none⟩) hR).trans h1, (hb.cell (p := ⟨R, o + 2, none⟩) hR).trans h2, (hb.cell (p := ⟨R, o + 3, none⟩) hR).trans h3, (hb.cell (p := ⟨R, o + 4, none⟩) hR).trans h4⟩
theorem Vf.below {w w' : World} {R o B : Nat} (h : Vf w R o) (hb : Below B w w') (hR : R < B) : Vf w' R o := by
  obtain ⟨h0, h1, h2, h3, h4⟩ := h
  exact ⟨(hb.frozen (p := ⟨R, o, none⟩) hR).trans h0, (hb.frozen (p := ⟨R, o + 1, none⟩) hR).trans h1, (hb.frozen (p := ⟨R, o + 2, none⟩) hR).trans h2, (hb.frozen (p := ⟨R, o + 3, none⟩) hR).trans h3, (hb.frozen (p := ⟨R, o + 4, none⟩) hR).trans h4⟩
/-- What is kept beside a call that makes memory of its own alone. -/
theorem Vi.keep {w w' : World} {R o : Nat} {S K T V X : Int} (h : Vi w R o S K T V X) (hb : Below w.heap.size w w') : Vi w' R o S K T V X := h.below hb h.lt
theorem bmore {w w1 w2 : World} (h : Below w.heap.size w w1) (h2 : Below w1.heap.size w1 w2) : Below w.heap.size w w2 := h.trans (h2.mono h.size)

set_option maxHeartbeats 400000 in
theorem same_any (S0 K0 T0 V0 X0 S1 K1 T1 V1 X1 : Int) (w : World) :
    Calls Tryz.prog 75 #[.agg #[.int .i64 S0, .int .i64 K0, .int .u64 T0, .int .u64 V0, .int .i64 X0], .agg #[.int .i64 S1, .int .i64 K1, .int .u64 T1, .int .u64 V1, .int .i64 X1]] w fun e w' => e = .returned (.bool (sameI S0 K0 T0 S1 K1 T1)) ∧ Below w.heap.size w w' := by
  have hs := hide (same_less S0 K0 T0 S1 K1 T1)
  go_enter Tryz.func75, Tryz.ntmps75
  go_wp2_with fail
  refine (less_any S0 K0 T0 V0 X0 S1 K1 T1 V1 X1 _).mono ?_
  rintro e w1 ⟨rfl, hb1⟩
  have A0 := (((vi_new w S0 K0 T0 V0 X0).keep ((Below.refl _ _).alloc (Nat.le_refl _) _)).keep hb1)
  have A1 := ((vi_new (w.alloc (Obj.cells #[Value.int IntKind.i64 S0, Value.int IntKind.i64 K0, Value.int IntKind.u64 T0, Value.int IntKind.u64 V0, Value.int IntKind.i64 X0] 25)) S1 K1 T1 V1 X1).keep hb1)
  have B1 := hide (bmore (((Below.refl w.heap.size w).alloc (Nat.le_refl _) _).alloc (by simp) _) hb1)
  clear hb1
  rw [show (w.alloc (Obj.cells #[Value.int IntKind.i64 S0, Value.int IntKind.i64 K0, Value.int IntKind.u64 T0, Value.int IntKind.u64 V0, Value.int IntKind.i64 X0] 25)).heap.size = w.heap.size + 1 from by simp] at A1
  unfold Vi at A0 A1
  obtain ⟨a0, a1, a2, a3, a4⟩ := A0
  obtain ⟨b0, b1, b2, b3, b4⟩ := A1
  cases hl : lessI S0 K0 T0 S1 K1 T1 with
  | true =>
    have HS := hide (show sameI S0 K0 T0 S1 K1 T1 = false by rw [← hs.out, hl]; rfl)
    clear hl
    go_wp2
    go_ret
    exact ⟨ret_eq (by rw [HS.out]; rfl), B1.out⟩
  | false =>
    have HS := hide (show (!lessI S1 K1 T1 S0 K0 T0) = sameI S0 K0 T0 S1 K1 T1 by rw [← hs.out, hl]; rfl)
    clear hl
    go_wp2_with fail
    refine (less_any S1 K1 T1 V1 X1 S0 K0 T0 V0 X0 _).mono ?_
    rintro e w2 ⟨rfl, hb2⟩
    have B2 := hide (bmore B1.out hb2)
    clear hb2
    go_wp2
    go_ret
    exact ⟨ret_eq (by rw [← HS.out]; rfl), B2.out⟩

set_option maxHeartbeats 400000 in
theorem refsame_any (S0 K0 T0 V0 X0 S1 K1 T1 V1 X1 : Int) (w : World) :
    Calls Tryz.prog 21 #[.agg #[.int .i64 S0, .int .i64 K0, .int .u64 T0, .int .u64 V0, .int .i64 X0], .agg #[.int .i64 S1, .int .i64 K1, .int .u64 T1, .int .u64 V1, .int .i64 X1]] w fun e w' => e = .returned (.bool (sameI S0 K0 T0 S1 K1 T1)) ∧ Below w.heap.size w w' := by
  have hs := hide (same_less S0 K0 T0 S1 K1 T1)
  go_enter Tryz.func21, Tryz.ntmps21
  go_wp2_with fail
  refine (refless_any S0 K0 T0 V0 X0 S1 K1 T1 V1 X1 _).mono ?_
  rintro e w1 ⟨rfl, hb1⟩
  have A0 := (((vi_new w S0 K0 T0 V0 X0).keep ((Below.refl _ _).alloc (Nat.le_refl _) _)).keep hb1)
  have A1 := ((vi_new (w.alloc (Obj.cells #[Value.int IntKind.i64 S0, Value.int IntKind.i64 K0, Value.int IntKind.u64 T0, Value.int IntKind.u64 V0, Value.int IntKind.i64 X0] 25)) S1 K1 T1 V1 X1).keep hb1)
  have B1 := hide (bmore (((Below.refl w.heap.size w).alloc (Nat.le_refl _) _).alloc (by simp) _) hb1)
  clear hb1
  rw [show (w.alloc (Obj.cells #[Value.int IntKind.i64 S0, Value.int IntKind.i64 K0, Value.int IntKind.u64 T0, Value.int IntKind.u64 V0, Value.int IntKind.i64 X0] 25)).heap.size = w.heap.size + 1 from by simp] at A1
  unfold Vi at A0 A1
  obtain ⟨a0, a1, a2, a3, a4⟩ := A0
  obtain ⟨b0, b1, b2, b3, b4⟩ := A1
  cases hl : lessI S0 K0 T0 S1 K1 T1 with
  | true =>
    have HS := hide (show sameI S0 K0 T0 S1 K1 T1 = false by rw [← hs.out, hl]; rfl)
    clear hl
    go_wp2
    go_ret
    exact ⟨ret_eq (by rw [HS.out]; rfl), B1.out⟩
  | false =>
    have HS := hide (show (!lessI S1 K1 T1 S0 K0 T0) = sameI S0 K0 T0 S1 K1 T1 by rw [← hs.out, hl]; rfl)
    clear hl
    go_wp2_with fail
    refine (refless_any S1 K1 T1 V1 X1 S0 K0 T0 V0 X0 _).mono ?_
    rintro e w2 ⟨rfl, hb2⟩
    have B2 := hide (bmore B1.out hb2)
    clear hb2
    go_wp2
    go_ret
    exact ⟨ret_eq (by rw [← HS.out]; rfl), B2.out⟩

end Go.Proofs.YtodhljiboakjnaaGreat.Clep
