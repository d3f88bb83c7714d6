/- A variable that holds an item, in a block of its own; item.Same and the document's own Same. No conditions. -/
import Derived.Test.YtfmofkkjnepbcabIItem
namespace Go.Proofs.Ytfmofkkjnepbcab.Clep
open Go.RowKit
set_option linter.unusedVariables false

/-- The block R, from place o on, holds an item, and may be written. -/
def Vi (w : World) (R o : Nat) (S K T V X : Int) : Prop :=
  (w.cell? ⟨R, o, none⟩ = some (.int .i64 S) ∧ w.cell? ⟨R, o + 1, none⟩ = some (.int .i64 K) ∧ w.cell? ⟨R, o + 2, none⟩ = some (.int .u64 T) ∧ w.cell? ⟨R, o + 3, none⟩ = some (.int .u64 V) ∧ w.cell? ⟨R, o + 4, none⟩ = some (.int .i64 X))
def Vf (w : World) (R o : Nat) : Prop :=
  (w.frozen? ⟨R, o, none⟩ = false ∧ w.frozen? ⟨R, o + 1, none⟩ = false ∧ w.frozen? ⟨R, o + 2, none⟩ = false ∧ w.frozen? ⟨R, o + 3, none⟩ = false ∧ w.frozen? ⟨R, o + 4, none⟩ = false)
theorem vi_new (w : World) (S K T V X : Int) : Vi (w.alloc (Obj.cells #[Value.int IntKind.i64 S, Value.int IntKind.i64 K, Value.int IntKind.u64 T, Value.int IntKind.u64 V, Value.int IntKind.i64 X] 25)) w.heap.size 0 S K T V X := by
  unfold Vi; simp [go_sem]
theorem vf_new (w : World) (S K T V X : Int) : Vf (w.alloc (Obj.cells #[Value.int IntKind.i64 S, Value.int IntKind.i64 K, Value.int IntKind.u64 T, Value.int IntKind.u64 V, Value.int IntKind.i64 X] 25)) w.heap.size 0 := by
  unfold Vf; simp [go_sem]
theorem Vi.lt {w : World} {R o : Nat} {S K T V X : Int} (h : Vi w R o S K T V X) : R < w.heap.size := World.block_lt_of_cell? w _ h.1
theorem Vi.below {w w' : World} {R o B : Nat} {S K T V X : Int} (h : Vi w R o S K T V X) (hb : Below B w w') (hR : R < B) : Vi w' R o S K T V X := by
  obtain ⟨h0, h1, h2, h3, h4⟩ := h
  exact ⟨(hb.cell (p := ⟨R, o, none⟩) hR).trans h0, (hb.cell (p := ⟨R, o + 1, none⟩) hR).trans h1, (hb.cell (p := ⟨R, o + 2, none⟩) hR).trans h2, (hb.cell (p := ⟨R, o + 3, none⟩) hR).trans h3, (hb.cell (p := ⟨R, o + 4, none⟩) hR).trans h4⟩
theorem Vf.below {w w' : World} {R o B : Nat} (h : Vf w R o) (hb : Below B w w') (hR : R < B) : Vf w' R o := by
  obtain ⟨h0, h1, h2, h3, h4⟩ := h
  exact ⟨(hb.frozen (p := ⟨R, o, none⟩) hR).trans h0, (hb.frozen (p := ⟨R, o + 1, none⟩) hR).trans h1, (hb.frozen (p := ⟨R, o + 2, none⟩) hR).trans h2, (hb.frozen (p := ⟨R, o + 3, none⟩) hR).trans h3, (hb.frozen (p := ⟨R, o + 4, none⟩) hR).trans h4⟩
/-- What is kept beside a call that makes memory of its own alone. -/
theorem Vi.keep {w w' : World} {R o : Nat} {S K T V X : Int} (h : Vi w R o S K T V X) (hb : Below w.heap.size w w') : Vi w' R o S K T V X := h.below hb h.lt
theorem bmore {w w1 w2 : World} (h : Below w.heap.size w w1) (h2 : Below w1.heap.size w1 w2) : Below w.heap.size w w2 := h.trans (h2.mono h.size)

end Go.Proofs.Ytfmofkkjnepbcab.Clep
