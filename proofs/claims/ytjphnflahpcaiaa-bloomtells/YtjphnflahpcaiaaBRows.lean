/- Rows of rows that came in, in every world behind the first. No conditions. -/
import Derived.Test.YtjphnflahpcaiaaBBase
import Derived.Test.YtjphnflahpcaiaaBBssOpen
namespace Go.Proofs.Ytjphnflahpcaiaa.Clep
open Go.RowKit
set_option linter.unusedVariables false

/-- The i-th row, in every world behind w. -/
theorem bss_at {w : World} {a : Option Addr} {len cap : Nat} {zss : List (List Int)} (h : Bss w a len cap zss) : ∃ b off, (0 < len → a = some ⟨b, off, none⟩) ∧
    Hid (∀ i, i < len → ∃ a' l c, (∀ W, Below w.heap.size w W → W.cell? ⟨b, off + i, none⟩ = some (.slice a' l c) ∧ Bs W a' l c (zss.getD i [])) ∧ l ≤ 9223372036854775807 ∧ Bs w a' l c (zss.getD i [])) := by
  by_cases h0 : 0 < len
  · obtain ⟨b, off, ho, hc⟩ := h.2.2 h0
    refine ⟨b, off, fun _ => ho, hide fun i hi => ?_⟩
    obtain ⟨a', l, c, h1, h2, h3⟩ := hc i hi
    exact ⟨a', l, c, fun W hW => ⟨(hW.cell (p := ⟨b, off + i, none⟩) (World.block_lt_of_cell? w _ h1)).trans h1, h3.below hW (Nat.le_refl _)⟩, h2, h3⟩
  · exact ⟨0, 0, fun e => absurd e h0, hide fun i hi => by omega⟩

end Go.Proofs.Ytjphnflahpcaiaa.Clep
