/- What item.Ok, Less, Same, Wins and Hides do when called, and the document's own: for any items. No conditions. -/
import Derived.Test.YtdldpdllhnpdaaaGreatZa
namespace Go.Proofs.YtdldpdllhnpdaaaGreat.Clep
open Go.RowKit
set_option linter.unusedVariables false
set_option maxRecDepth 10000

/-- An item as a value. -/
def iv (S K T V X : Int) : Value := .agg #[.int .i64 S, .int .i64 K, .int .u64 T, .int .u64 V, .int .i64 X]
/-- Which items may be. -/
def okI (S K T V X : Int) : Bool := decide (0 ≤ S ∧ S ≤ 255 ∧ 1 ≤ V ∧ V ≤ 281474976710656 ∧ ((K = 1 ∧ T = 0 ∧ X = 0) ∨ (K = 2 ∧ T ≤ 1099511627776)))
/-- Which of two stands ahead. -/
def lessI (S0 K0 T0 S1 K1 T1 : Int) : Bool := decide (S0 < S1 ∨ S0 = S1 ∧ (K0 < K1 ∨ K0 = K1 ∧ T0 < T1))
def sameI (S0 K0 T0 S1 K1 T1 : Int) : Bool := decide (S0 = S1 ∧ K0 = K1 ∧ T0 = T1)
def winsI (V0 X0 V1 X1 : Int) : Bool := decide (V1 < V0 ∨ V0 = V1 ∧ X1 < X0)
def hidesI (S0 K0 V0 S1 K1 V1 : Int) : Bool := decide (K0 = 1 ∧ K1 = 2 ∧ S0 = S1 ∧ V1 ≤ V0)
theorem same_less (S0 K0 T0 S1 K1 T1 : Int) : (!lessI S0 K0 T0 S1 K1 T1 && !lessI S1 K1 T1 S0 K0 T0) = sameI S0 K0 T0 S1 K1 T1 := by
  unfold lessI sameI
  rw [Bool.eq_iff_iff]
  simp only [Bool.and_eq_true, Bool.not_eq_true', decide_eq_false_iff_not, decide_eq_true_eq]
  omega

set_option maxHeartbeats 400000 in
theorem ok_any (S K T V X : Int) (w : World) :
    Calls Tryz.prog 82 #[.agg #[.int .i64 S, .int .i64 K, .int .u64 T, .int .u64 V, .int .i64 X]] w fun e w' => e = .returned (.bool (okI S K T V X)) ∧ Below w.heap.size w w' := by
  have hc : S < 0 ∨ (¬ S < 0 ∧ 255 < S) ∨ (¬ S < 0 ∧ ¬ 255 < S ∧ V < 1) ∨ (¬ S < 0 ∧ ¬ 255 < S ∧ ¬ V < 1 ∧ 281474976710656 < V) ∨
    (¬ S < 0 ∧ ¬ 255 < S ∧ ¬ V < 1 ∧ ¬ 281474976710656 < V ∧ ((K = 1 ∧ T = 0) ∨ (K = 1 ∧ T ≠ 0) ∨ K = 2 ∨ (K ≠ 1 ∧ K ≠ 2))) := by omega
  rcases hc with h | ⟨h, h1⟩ | ⟨h, h1, h2⟩ | ⟨h, h1, h2, h3⟩ | ⟨h, h1, h2, h3, ⟨rfl, rfl⟩ | ⟨rfl, h4⟩ | rfl | ⟨h4, h5⟩⟩
  · have hk := hide (show okI S K T V X = false by unfold okI; simp; omega)
    go_enter Tryz.func82, Tryz.ntmps82
    go_wp2
    go_ret
    refine ⟨ret_eq ?_, (Below.refl _ w).alloc (Nat.le_refl _) _⟩
    rw [hk.out]; rfl
  · have hk := hide (show okI S K T V X = false by unfold okI; simp; omega)
    go_enter Tryz.func82, Tryz.ntmps82
    go_wp2
    go_ret
    refine ⟨ret_eq ?_, (Below.refl _ w).alloc (Nat.le_refl _) _⟩
    rw [hk.out]; rfl
  · have hk := hide (show okI S K T V X = false by unfold okI; simp; omega)
    go_enter Tryz.func82, Tryz.ntmps82
    go_wp2
    go_ret
    refine ⟨ret_eq ?_, (Below.refl _ w).alloc (Nat.le_refl _) _⟩
    rw [hk.out]; rfl
  · have hk := hide (show okI S K T V X = false by unfold okI; simp; omega)
    go_enter Tryz.func82, Tryz.ntmps82
    go_wp2
    go_ret
    refine ⟨ret_eq ?_, (Below.refl _ w).alloc (Nat.le_refl _) _⟩
    rw [hk.out]; rfl
  · have hk := hide (show okI S 1 0 V X = decide (X = 0) by unfold okI; rw [decide_eq_decide]; omega)
    go_enter Tryz.func82, Tryz.ntmps82
    go_wp2
    go_ret
    refine ⟨ret_eq ?_, (Below.refl _ w).alloc (Nat.le_refl _) _⟩
    rw [hk.out]; rfl
  · have hk := hide (show okI S 1 T V X = false by unfold okI; simp; omega)
    have hb : (T == 0) = false := by simp; omega
    go_enter Tryz.func82, Tryz.ntmps82
    go_wp2
    go_ret
    refine ⟨ret_eq ?_, (Below.refl _ w).alloc (Nat.le_refl _) _⟩
    rw [hk.out]; rfl
  · have hk := hide (show okI S 2 T V X = decide (T ≤ 1099511627776) by unfold okI; rw [decide_eq_decide]; omega)
    go_enter Tryz.func82, Tryz.ntmps82
    go_wp2
    go_ret
    refine ⟨ret_eq ?_, (Below.refl _ w).alloc (Nat.le_refl _) _⟩
    rw [hk.out]; rfl
  · have hk := hide (show okI S K T V X = false by unfold okI; simp; omega)
    have hb : (K == 1) = false := by simp; omega
    have hb2 : (K == 2) = false := by simp; omega
    go_enter Tryz.func82, Tryz.ntmps82
    go_wp2
    go_ret
    refine ⟨ret_eq ?_, (Below.refl _ w).alloc (Nat.le_refl _) _⟩
    rw [hk.out]; rfl

set_option maxHeartbeats 400000 in
theorem refok_any (S K T V X : Int) (w : World) :
    Calls Tryz.prog 48 #[.agg #[.int .i64 S, .int .i64 K, .int .u64 T, .int .u64 V, .int .i64 X]] w fun e w' => e = .returned (.bool (okI S K T V X)) ∧ Below w.heap.size w w' := by
  have hc : S < 0 ∨ (¬ S < 0 ∧ 255 < S) ∨ (¬ S < 0 ∧ ¬ 255 < S ∧ V < 1) ∨ (¬ S < 0 ∧ ¬ 255 < S ∧ ¬ V < 1 ∧ 281474976710656 < V) ∨
    (¬ S < 0 ∧ ¬ 255 < S ∧ ¬ V < 1 ∧ ¬ 281474976710656 < V ∧ ((K = 1 ∧ T = 0) ∨ (K = 1 ∧ T ≠ 0) ∨ K = 2 ∨ (K ≠ 1 ∧ K ≠ 2))) := by omega
  rcases hc with h | ⟨h, h1⟩ | ⟨h, h1, h2⟩ | ⟨h, h1, h2, h3⟩ | ⟨h, h1, h2, h3, ⟨rfl, rfl⟩ | ⟨rfl, h4⟩ | rfl | ⟨h4, h5⟩⟩
  · have hk := hide (show okI S K T V X = false by unfold okI; simp; omega)
    go_enter Tryz.func48, Tryz.ntmps48
    go_wp2
    go_ret
    refine ⟨ret_eq ?_, (Below.refl _ w).alloc (Nat.le_refl _) _⟩
    rw [hk.out]; rfl
  · have hk := hide (show okI S K T V X = false by unfold okI; simp; omega)
    go_enter Tryz.func48, Tryz.ntmps48
    go_wp2
    go_ret
    refine ⟨ret_eq ?_, (Below.refl _ w).alloc (Nat.le_refl _) _⟩
    rw [hk.out]; rfl
  · have hk := hide (show okI S K T V X = false by unfold okI; simp; omega)
    go_enter Tryz.func48, Tryz.ntmps48
    go_wp2
    go_ret
    refine ⟨ret_eq ?_, (Below.refl _ w).alloc (Nat.le_refl _) _⟩
    rw [hk.out]; rfl
  · have hk := hide (show okI S K T V X = false by unfold okI; simp; omega)
    go_enter Tryz.func48, Tryz.ntmps48
    go_wp2
    go_ret
    refine ⟨ret_eq ?_, (Below.refl _ w).alloc (Nat.le_refl _) _⟩
    rw [hk.out]; rfl
  · have hk := hide (show okI S 1 0 V X = decide (X = 0) by unfold okI; rw [decide_eq_decide]; omega)
    go_enter Tryz.func48, Tryz.ntmps48
    go_wp2
    go_ret
    refine ⟨ret_eq ?_, (Below.refl _ w).alloc (Nat.le_refl _) _⟩
    rw [hk.out]; rfl
  · have hk := hide (show okI S 1 T V X = false by unfold okI; simp; omega)
    have hb : (T == 0) = false := by simp; omega
    go_enter Tryz.func48, Tryz.ntmps48
    go_wp2
    go_ret
    refine ⟨ret_eq ?_, (Below.refl _ w).alloc (Nat.le_refl _) _⟩
    rw [hk.out]; rfl
  · have hk := hide (show okI S 2 T V X = decide (T ≤ 1099511627776) by unfold okI; rw [decide_eq_decide]; omega)
    go_enter Tryz.func48, Tryz.ntmps48
    go_wp2
    go_ret
    refine ⟨ret_eq ?_, (Below.refl _ w).alloc (Nat.le_refl _) _⟩
    rw [hk.out]; rfl
  · have hk := hide (show okI S K T V X = false by unfold okI; simp; omega)
    have hb : (K == 1) = false := by simp; omega
    have hb2 : (K == 2) = false := by simp; omega
    go_enter Tryz.func48, Tryz.ntmps48
    go_wp2
    go_ret
    refine ⟨ret_eq ?_, (Below.refl _ w).alloc (Nat.le_refl _) _⟩
    rw [hk.out]; rfl

end Go.Proofs.YtdldpdllhnpdaaaGreat.Clep

/- A variable that holds an item, in a block of its own; item.Same and the document's own Same. No conditions. -/
namespace Go.Proofs.YtdldpdllhnpdaaaGreat.Clep
open Go.RowKit
set_option linter.unusedVariables false
set_option maxRecDepth 10000

/-- The block R, from place o on, holds an item, and may be written. -/
def Vi (w : World) (R o : Nat) (S K T V X : Int) : Prop :=
  (w.cell? ⟨R, o, none⟩ = some (.int .i64 S) ∧ w.cell? ⟨R, o + 1, none⟩ = some (.int .i64 K) ∧ w.cell? ⟨R, o + 2, none⟩ = some (.int .u64 T) ∧ w.cell? ⟨R, o + 3, none⟩ = some (.int .u64 V) ∧ w.cell? ⟨R, o + 4, none⟩ = some (.int .i64 X))
def Vf (w : World) (R o : Nat) : Prop :=
  (w.frozen? ⟨R, o, none⟩ = false ∧ w.frozen? ⟨R, o + 1, none⟩ = false ∧ w.frozen? ⟨R, o + 2, none⟩ = false ∧ w.frozen? ⟨R, o + 3, none⟩ = false ∧ w.frozen? ⟨R, o + 4, none⟩ = false)
theorem vi_new (w : World) (S K T V X : Int) : Vi (w.alloc (Obj.cells #[Value.int IntKind.i64 S, Value.int IntKind.i64 K, Value.int IntKind.u64 T, Value.int IntKind.u64 V, Value.int IntKind.i64 X] 48)) w.heap.size 0 S K T V X := by
  unfold Vi; simp [go_sem]
theorem vf_new (w : World) (S K T V X : Int) : Vf (w.alloc (Obj.cells #[Value.int IntKind.i64 S, Value.int IntKind.i64 K, Value.int IntKind.u64 T, Value.int IntKind.u64 V, Value.int IntKind.i64 X] 48)) w.heap.size 0 := by
  unfold Vf; simp [go_sem]
theorem Vi.lt {w : World} {R o : Nat} {S K T V X : Int} (h : Vi w R o S K T V X) : R < w.heap.size := World.block_lt_of_cell? w _ h.1
theorem Vi.below {w w' : World} {R o B : Nat} {S K T V X : Int} (h : Vi w R o S K T V X) (hb : Below B w w') (hR : R < B) : Vi w' R o S K T V X := by
  obtain ⟨h0, h1, h2, h3, h4⟩ := h
  exact ⟨(hb.cell (p := ⟨R, o, none⟩) hR).trans h0, (hb.cell (p := ⟨R, o + 1, none⟩) hR).trans h1, (hb.cell (p := ⟨R, o + 2, none⟩) hR).trans h2, (hb.cell (p := ⟨R, o + 3, none⟩) hR).trans h3, (hb.cell (p := ⟨R, o + 4, none⟩) hR).trans h4⟩
theorem Vf.below {w w' : World} {R o B : Nat} (h : Vf w R o) (hb : Below B w w') (hR : R < B) : Vf w' R o := by
  obtain ⟨h0, h1, h2, h3, h4⟩ := h
  exact ⟨(hb.frozen (p := ⟨R, o, none⟩) hR).trans h0, (hb.frozen (p := ⟨R, o + 1, none⟩) hR).trans h1, (hb.frozen (p := ⟨R, o + 2, none⟩) hR).trans h2, (hb.frozen (p := ⟨R, o + 3, none⟩) hR).trans h3, (hb.frozen (p := ⟨R, o + 4, none⟩) hR).trans h4⟩
/-- What is kept beside a call that makes memory of its own alone. -/
theorem Vi.keep {w w' : World} {R o : Nat} {S K T V X : Int} (h : Vi w R o S K T V X) (hb : Below w.heap.size w w') : Vi w' R o S K T V X := h.below hb h.lt
theorem bmore {w w1 w2 : World} (h : Below w.heap.size w w1) (h2 : Below w1.heap.size w1 w2) : Below w.heap.size w w2 := h.trans (h2.mono h.size)

end Go.Proofs.YtdldpdllhnpdaaaGreat.Clep
