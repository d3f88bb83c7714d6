/- Rows of bytes' rows in memory. No conditions. -/
import Derived.Test.YtjphnflahpcaiaaBase
import Derived.Test.YtjphnflahpcaiaaBByte
namespace Go.Proofs.Ytjphnflahpcaiaa.Clep
open Go.RowKit
set_option linter.unusedVariables false

/-- The slice value (ao, len, cap) leads to slices that lead to the texts zss in w. -/
def Bss (w : World) (ao : Option Addr) (len cap : Nat) (zss : List (List Int)) : Prop :=
  zss.length = len ∧ (len ≤ cap ∧ (ao = none → len = 0 ∧ cap = 0)) ∧
    (0 < len → ∃ b off, ao = some ⟨b, off, none⟩ ∧ ∀ i, i < len → ∃ a l c, w.cell? ⟨b, off + i, none⟩ = some (.slice a l c) ∧ l ≤ 9223372036854775807 ∧ Bs w a l c (zss.getD i []))

theorem drop_getL (zs : List (List Int)) (k : Nat) (h : k < zs.length) : zs.drop k = zs.getD k [] :: zs.drop (k + 1) := by
  rw [List.drop_eq_getElem_cons h]; simp [List.getD, List.getElem?_eq_getElem h]
theorem byteL_flat (zss : List (List Int)) (h : ∀ i, i < zss.length → ByteL (zss.getD i [])) : ByteL zss.flatten := by
  intro z hz
  obtain ⟨l, hl, hz⟩ := List.mem_flatten.1 hz
  obtain ⟨j, hj, rfl⟩ := List.getElem_of_mem hl
  have := h j hj
  simp only [List.getD, List.getElem?_eq_getElem hj, Option.getD_some] at this
  exact this z hz
theorem Bss.bytes {w : World} {ao : Option Addr} {len cap : Nat} {zss : List (List Int)} (h : Bss w ao len cap zss) : ByteL zss.flatten := by
  refine byteL_flat zss fun i hi => ?_
  obtain ⟨b, off, _, hc⟩ := h.2.2 (by have := h.1; omega)
  obtain ⟨a, l, c, _, _, hb⟩ := hc i (by have := h.1; omega)
  exact bs_range hb
theorem Bss.below {w w' : World} {B : Nat} {ao : Option Addr} {len cap : Nat} {zss : List (List Int)} (h : Bss w ao len cap zss) (hb : Below B w w') (hB : w.heap.size ≤ B) : Bss w' ao len cap zss := by
  refine ⟨h.1, h.2.1, fun h0 => ?_⟩
  obtain ⟨b, off, ho, hc⟩ := h.2.2 h0
  refine ⟨b, off, ho, fun i hi => ?_⟩
  obtain ⟨a, l, c, h1, h2, h3⟩ := hc i hi
  refine ⟨a, l, c, ?_, h2, h3.below hb hB⟩
  rw [hb.cell (p := ⟨b, off + i, none⟩) (Nat.lt_of_lt_of_le (World.block_lt_of_cell? w _ h1) hB)]
  exact h1

end Go.Proofs.Ytjphnflahpcaiaa.Clep
