/- A variable that holds an item, in a block of its own; item.Same and the document's own Same. No conditions. -/
import Derived.Test.YtkkcchklefcljaaIItem
namespace Go.Proofs.Ytkkcchklefcljaa.Clep
open Go.RowKit
set_option linter.unusedVariables false
set_option maxRecDepth 10000

/-- The block R, from place o on, holds an item, and may be written. -/
def Vi (w : World) (R o : Nat) (S K T V X : Int) : Prop :=
  (w.cell? ⟨R, o, none⟩ = some (.int .i64 S) ∧ w.cell? ⟨R, o + 1, none⟩ = some (.int .i64 K) ∧ w.cell? ⟨R, o + 2, none⟩ = some (.int .u64 T) ∧ w.cell? ⟨R, o + 3, none⟩ = some (.int .u64 V) ∧ w.cell? ⟨R, o + 4, none⟩ = some (.int .i64 X))
def Vf (w : World) (R o : Nat) : Prop :=
  (w.frozen? ⟨R, o, none⟩ = false ∧ w.frozen? ⟨R, o + 1, none⟩ = false ∧ w.frozen? ⟨R, o + 2, none⟩ = false ∧ w.frozen? ⟨R, o + 3, none⟩ = false ∧ w.frozen? ⟨R, o + 4, none⟩ = false)
theorem vi_new (w : World) (S K T V X : Int) : Vi (w.alloc (Obj.cells #[Value.int IntKind.i64 S, Value.int IntKind.i64 K, Value.int IntKind.u64 T, Value.int IntKind.u64 V, Value.int IntKind.i64 X] 36)) w.heap.size 0 S K T V X := by
  unfold Vi; simp [go_sem]
theorem vf_new (w : World) (S K T V X : Int) : Vf (w.alloc (Obj.cells #[Value.int IntKind.i64 S, Value.int IntKind.i64 K, Value.int IntKind.u64 T, Value.int IntKind.u64 V, Value.int IntKind.i64 X] 36)) w.heap.size 0 := by
  unfold Vf; simp [go_sem]
theorem Vi.lt {w : World} {R o : Nat} {S K T V X : Int} (h : Vi w R o S K T V X) : R < w.heap.size := World.block_lt_of_cell? w _ h.1
theorem Vi.below {w w' : World} {R o B : Nat} {S K T V X : Int} (h : Vi w R o S K T V X) (hb : Below B w w') (hR : R < B) : Vi w' R o S K T V X := by
  obtain ⟨h0, h1, h2, h3, h4⟩ := h
  exact ⟨(hb.cell (p := ⟨R, o, none⟩) hR).trans h0, (hb.cell (p := ⟨R, o + 1, none⟩) hR).trans h1, (hb.cell (p := ⟨R, o + 2, none⟩) hR).trans h2, (hb.cell (p := ⟨R, o + 3, none⟩) hR).trans h3, (hb.cell (p := ⟨R, o + 4, none⟩) hR).trans h4⟩
theorem Vf.below {w w' : World} {R o B : Nat} (h : Vf w R o) (hb : Below B w w') (hR : R < B) : Vf w' R o := by
  obtain ⟨h0, h1, h2, h3, h4⟩ := h
  exact ⟨(hb.frozen (p := ⟨R, o, none⟩) hR).trans h0, (hb.frozen (p := ⟨R, o + 1, none⟩) hR).trans h1, (hb.frozen (p := ⟨R, o + 2, none⟩) hR).trans h2, (hb.frozen (p := ⟨R, o + 3, none⟩) hR).trans h3, (hb.frozen (p := ⟨R, o + 4, none⟩) hR).trans h4⟩
/-- What is kept beside a call that makes memory of its own alone. -/
theorem Vi.keep {w w' : World} {R o : Nat} {S K T V X : Int} (h : Vi w R o S K T V X) (hb : Below w.heap.size w w') : Vi w' R o S K T V X := h.below hb h.lt
theorem bmore {w w1 w2 : World} (h : Below w.heap.size w w1) (h2 : Below w1.heap.size w1 w2) : Below w.heap.size w w2 := h.trans (h2.mono h.size)

set_option maxHeartbeats 400000 in
theorem same_any (S0 K0 T0 V0 X0 S1 K1 T1 V1 X1 : Int) (w : World) :
    Calls Try.prog 57 #[.agg #[.int .i64 S0, .int .i64 K0, .int .u64 T0, .int .u64 V0, .int .i64 X0], .agg #[.int .i64 S1, .int .i64 K1, .int .u64 T1, .int .u64 V1, .int .i64 X1]] w fun e w' => e = .returned (.bool (sameI S0 K0 T0 S1 K1 T1)) ∧ Below w.heap.size w w' := by
  have hs := hide (same_less S0 K0 T0 S1 K1 T1)
  go_enter Try.func57, Try.ntmps57
  go_wp2_with fail
  refine (less_any S0 K0 T0 V0 X0 S1 K1 T1 V1 X1 _).mono ?_
  rintro e w1 ⟨rfl, hb1⟩
  have A0 := (((vi_new w S0 K0 T0 V0 X0).keep ((Below.refl _ _).alloc (Nat.le_refl _) _)).keep hb1)
  have A1 := ((vi_new (w.alloc (Obj.cells #[Value.int IntKind.i64 S0, Value.int IntKind.i64 K0, Value.int IntKind.u64 T0, Value.int IntKind.u64 V0, Value.int IntKind.i64 X0] 36)) S1 K1 T1 V1 X1).keep hb1)
  have B1 := hide (bmore (((Below.refl w.heap.size w).alloc (Nat.le_refl _) _).alloc (by simp) _) hb1)
  clear hb1
  rw [show (w.alloc (Obj.cells #[Value.int IntKind.i64 S0, Value.int IntKind.i64 K0, Value.int IntKind.u64 T0, Value.int IntKind.u64 V0, Value.int IntKind.i64 X0] 36)).heap.size = w.heap.size + 1 from by simp] at A1
  unfold Vi at A0 A1
  obtain ⟨a0, a1, a2, a3, a4⟩ := A0
  obtain ⟨b0, b1, b2, b3, b4⟩ := A1
  cases hl : lessI S0 K0 T0 S1 K1 T1 with
  | true =>
    have HS := hide (show sameI S0 K0 T0 S1 K1 T1 = false by rw [← hs.out, hl]; rfl)
    clear hl
    go_wp2
    go_ret
    exact ⟨ret_eq (by rw [HS.out]; rfl), B1.out⟩
  | false =>
    have HS := hide (show (!lessI S1 K1 T1 S0 K0 T0) = sameI S0 K0 T0 S1 K1 T1 by rw [← hs.out, hl]; rfl)
    clear hl
    go_wp2_with fail
    refine (less_any S1 K1 T1 V1 X1 S0 K0 T0 V0 X0 _).mono ?_
    rintro e w2 ⟨rfl, hb2⟩
    have B2 := hide (bmore B1.out hb2)
    clear hb2
    go_wp2
    go_ret
    exact ⟨ret_eq (by rw [← HS.out]; rfl), B2.out⟩

set_option maxHeartbeats 400000 in
theorem refsame_any (S0 K0 T0 V0 X0 S1 K1 T1 V1 X1 : Int) (w : World) :
    Calls Try.prog 27 #[.agg #[.int .i64 S0, .int .i64 K0, .int .u64 T0, .int .u64 V0, .int .i64 X0], .agg #[.int .i64 S1, .int .i64 K1, .int .u64 T1, .int .u64 V1, .int .i64 X1]] w fun e w' => e = .returned (.bool (sameI S0 K0 T0 S1 K1 T1)) ∧ Below w.heap.size w w' := by
  have hs := hide (same_less S0 K0 T0 S1 K1 T1)
  go_enter Try.func27, Try.ntmps27
  go_wp2_with fail
  refine (refless_any S0 K0 T0 V0 X0 S1 K1 T1 V1 X1 _).mono ?_
  rintro e w1 ⟨rfl, hb1⟩
  have A0 := (((vi_new w S0 K0 T0 V0 X0).keep ((Below.refl _ _).alloc (Nat.le_refl _) _)).keep hb1)
  have A1 := ((vi_new (w.alloc (Obj.cells #[Value.int IntKind.i64 S0, Value.int IntKind.i64 K0, Value.int IntKind.u64 T0, Value.int IntKind.u64 V0, Value.int IntKind.i64 X0] 36)) S1 K1 T1 V1 X1).keep hb1)
  have B1 := hide (bmore (((Below.refl w.heap.size w).alloc (Nat.le_refl _) _).alloc (by simp) _) hb1)
  clear hb1
  rw [show (w.alloc (Obj.cells #[Value.int IntKind.i64 S0, Value.int IntKind.i64 K0, Value.int IntKind.u64 T0, Value.int IntKind.u64 V0, Value.int IntKind.i64 X0] 36)).heap.size = w.heap.size + 1 from by simp] at A1
  unfold Vi at A0 A1
  obtain ⟨a0, a1, a2, a3, a4⟩ := A0
  obtain ⟨b0, b1, b2, b3, b4⟩ := A1
  cases hl : lessI S0 K0 T0 S1 K1 T1 with
  | true =>
    have HS := hide (show sameI S0 K0 T0 S1 K1 T1 = false by rw [← hs.out, hl]; rfl)
    clear hl
    go_wp2
    go_ret
    exact ⟨ret_eq (by rw [HS.out]; rfl), B1.out⟩
  | false =>
    have HS := hide (show (!lessI S1 K1 T1 S0 K0 T0) = sameI S0 K0 T0 S1 K1 T1 by rw [← hs.out, hl]; rfl)
    clear hl
    go_wp2_with fail
    refine (refless_any S1 K1 T1 V1 X1 S0 K0 T0 V0 X0 _).mono ?_
    rintro e w2 ⟨rfl, hb2⟩
    have B2 := hide (bmore B1.out hb2)
    clear hb2
    go_wp2
    go_ret
    exact ⟨ret_eq (by rw [← HS.out]; rfl), B2.out⟩

end Go.Proofs.Ytkkcchklefcljaa.Clep
