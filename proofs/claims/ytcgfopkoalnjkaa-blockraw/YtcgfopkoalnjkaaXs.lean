/- A row of items that comes in, with its capacity and its reach. No conditions. -/
import Derived.Test.YtcgfopkoalnjkaaZf
import Derived.SizedLaws
namespace Go.Proofs.Ytcgfopkoalnjkaa.Clep
open Go.RowKit Go.ChangeShapes Go.WideShapes Go.Deep
set_option linter.unusedVariables false
set_option maxRecDepth 10000

section
variable {H : Type} {enc : TypeId × Value → H} {W : World} {base : Nat} {spare : Nat → Bool} {held : Bool}

theorem bytes_item : Try.prog.bytesOf 41 = 40 := by kernel_rfl
theorem open_items_s {a : Option Addr} {len cap : Nat} {d : DataW H} {p : List MemPlace} (h : DataW.Trod enc Try.prog W base spare held 23 (.slice a len cap) d p)
    {ts : List TypeId} {ds : List (DataW H)} {j : Nat} (hw : (DataW.weightsEach Try.prog ts ds).all (· ≤ reachBytes) = true) (ht : ts[j]? = some 23) (hd : ds[j]? = some d) :
    ∃ l, Is W a len cap l ∧ len ≤ 9223372036854775807 ∧ cap ≤ 9223372036854775807 ∧ len ≤ 3518437208880 := by
  obtain ⟨l, h1, h2, h3⟩ := open_items_c h
  refine ⟨l, h1, h2, h3, ?_⟩
  obtain ⟨fuel, hf⟩ := h
  rcases open_slice Try.underlying23 hf with ⟨hcs, _⟩ | ⟨x, l', c', m, n, D, Pl, hcs, _, hl, hm, hmm, hx2, _⟩
  · simp [Value.cells] at hcs
    omega
  · simp [Value.cells] at hcs
    obtain ⟨rfl, rfl, rfl⟩ := hcs
    injection hx2 with e1 e2
    rw [e1] at hd
    have hs := sized_slice hw ht hd Try.underlying23
    rw [bytes_item] at hs
    simp only [List.length_map, List.length_range] at hs
    unfold reachBytes at hs
    omega
end

end Go.Proofs.Ytcgfopkoalnjkaa.Clep
