/- A row of items that comes in, with its capacity. No conditions. -/
import Derived.Test.YtckfgpcoingphaaSLaw
namespace Go.Proofs.Ytckfgpcoingphaa.Clep
open Go.RowKit Go.ChangeShapes Go.WideShapes Go.Deep
set_option linter.unusedVariables false

section
variable {H : Type} {enc : TypeId × Value → H} {W : World} {base : Nat} {spare : Nat → Bool} {held : Bool}

set_option maxRecDepth 100000 in
theorem open_items_c {a : Option Addr} {len cap : Nat} {d : DataW H} {p : List MemPlace} (h : DataW.Trod enc Try.prog W base spare held 24 (.slice a len cap) d p) :
    ∃ l, Is W a len cap l ∧ len ≤ 9223372036854775807 ∧ cap ≤ 9223372036854775807 := by
  haveI : Inhabited It := ⟨⟨0, 0, 0, 0, 0⟩⟩
  obtain ⟨fuel, hf⟩ := h
  rcases open_slice Try.underlying24 hf with ⟨hcs, _⟩ | ⟨x, l, c, m, n, D, Pl, hcs, _, hl, hm, hmm, _, hx⟩
  · simp [Value.cells] at hcs
    obtain ⟨rfl, rfl, rfl⟩ := hcs
    exact ⟨[], is_nil W, by omega, by omega⟩
  · simp [Value.cells] at hcs
    obtain ⟨rfl, rfl, rfl⟩ := hcs
    have hlm : len ≤ m := by rw [hmm]; split <;> omega
    have each : ∀ i, i < len → ∃ y : It, y.wf ∧ (∀ j u, [Value.int IntKind.i64 y.S, .int .i64 y.K, .int .u64 y.T, .int .u64 y.V, .int .i64 y.X][j]? = some u → W.cell? ((x.add (i * 5)).add j) = some u) := by
      intro i hi
      obtain ⟨cs', h1, h2⟩ := hx i (by omega)
      rw [cellsI] at h1
      obtain ⟨y, e, hy⟩ := item_cells h2
      obtain ⟨_, hlen, hc⟩ := World.cells?_some h1
      refine ⟨y, hy, fun j u hu => ?_⟩
      rw [← e] at hu
      rw [hc j (by have := (List.getElem?_eq_some_iff.1 hu).1; omega)]
      exact hu
    obtain ⟨q, hq⟩ := choose_lt each
    refine ⟨(List.range len).map q, ⟨by simp, ⟨hl, fun h => by cases h⟩, ?_, fun h0 => ?_⟩, by unfold maxLen at hm; omega, by unfold maxLen at hm; omega⟩
    · intro y hy
      obtain ⟨i, hi, rfl⟩ := List.mem_map.1 hy
      exact (hq i (List.mem_range.1 hi)).1
    · obtain ⟨b, off, spot⟩ := x
      have hc := (hq 0 h0).2 0 _ rfl
      have hspot : spot = none := by simpa [Addr.add] using World.cell?_spot hc
      subst hspot
      refine ⟨b, off, rfl, fun i y hi => ?_⟩
      have hil : i < len := by
        have := (List.getElem?_eq_some_iff.1 hi).1
        simpa using this
      have : q i = y := by simpa [hil] using hi
      subst this
      have g := (hq i hil).2
      simp only [add_plain] at g
      exact ⟨g 0 _ rfl, g 1 _ rfl, g 2 _ rfl, g 3 _ rfl, g 4 _ rfl⟩
end

end Go.Proofs.Ytckfgpcoingphaa.Clep
