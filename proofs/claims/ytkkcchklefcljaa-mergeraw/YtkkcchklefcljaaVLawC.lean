/- A list of rows of items that comes in, with its capacity. No conditions. -/
import Derived.Test.YtkkcchklefcljaaJRows
import Derived.Deep.SlicePairs
namespace Go.Proofs.Ytkkcchklefcljaa.Clep
open Go.RowKit Go.ChangeShapes Go.WideShapes Go.Deep
set_option linter.unusedVariables false

section
variable {H : Type} {enc : TypeId × Value → H} {W : World} {base : Nat} {spare : Nat → Bool} {held : Bool}
set_option maxRecDepth 100000 in
theorem open_rows_c {a : Option Addr} {len cap : Nat} {d : DataW H} {p : List MemPlace} (h : DataW.Trod enc Try.prog W base spare held 22 (.slice a len cap) d p) :
    ∃ zs, Rws W a len cap zs ∧ len ≤ 9223372036854775807 ∧ cap ≤ 9223372036854775807 := by
  haveI : Inhabited Sl := ⟨⟨none, 0, 0, []⟩⟩
  have hce : Try.prog.cellsOf 25 = 1 := by kernel_rfl
  obtain ⟨fuel, hf⟩ := h
  rcases open_slice Try.underlying22 hf with ⟨hcs, _⟩ | ⟨x, l, c, m, n, D, Pl, hcs, _, hl, hm, hmm, _, hx⟩
  · simp [Value.cells] at hcs
    obtain ⟨rfl, rfl, rfl⟩ := hcs
    exact ⟨[], ⟨rfl, ⟨Nat.le_refl _, fun _ => ⟨rfl, rfl⟩⟩, by simp, fun h => by omega⟩, by omega, by omega⟩
  · simp [Value.cells] at hcs
    obtain ⟨rfl, rfl, rfl⟩ := hcs
    have hlm : len ≤ m := by rw [hmm]; split <;> omega
    have each : ∀ i, i < len → ∃ z : Sl, (Is W z.a z.n z.c z.l ∧ z.n ≤ 9223372036854775807) ∧ W.cell? (x.add i) = some (.slice z.a z.n z.c) := by
      intro i hi
      obtain ⟨cs', h1, h2⟩ := hx i (by omega)
      rw [hce] at h1
      obtain ⟨_, hlen, hc⟩ := World.cells?_some h1
      obtain ⟨v, rfl⟩ := List.length_eq_one_iff.1 hlen
      have hv := hc 0 (by omega)
      obtain ⟨s, n', c', rfl⟩ : ∃ s n' c', v = .slice s n' c' := by
        rcases open_slice Try.underlying25 h2 with ⟨hcs, _⟩ | ⟨x', l', c', m', n'', D', Pl', hcs, _⟩
        · exact ⟨none, 0, 0, by simpa using hcs⟩
        · exact ⟨some x', l', c', by simpa using hcs⟩
      obtain ⟨l, hI, hn⟩ := open_items (a := s) (len := n') (cap := c') (H := H) (enc := enc) (W := W) (base := base) (spare := spare) (held := held) ⟨_, h2⟩
      refine ⟨⟨s, n', c', l⟩, ⟨hI, hn⟩, ?_⟩
      rw [Nat.mul_one] at hv
      simpa [Addr.add] using hv
    obtain ⟨q, hq⟩ := choose_lt each
    refine ⟨(List.range len).map q, ⟨by simp, ⟨hl, fun h => by cases h⟩, ?_, fun h0 => ?_⟩, by unfold maxLen at hm; omega, by unfold maxLen at hm; omega⟩
    · intro z hz
      obtain ⟨i, hi, rfl⟩ := List.mem_map.1 hz
      exact (hq i (List.mem_range.1 hi)).1
    · obtain ⟨b, off, spot⟩ := x
      have hc := (hq 0 h0).2
      have hspot : spot = none := by simpa [Addr.add] using World.cell?_spot hc
      subst hspot
      refine ⟨b, off, rfl, fun i z hi => ?_⟩
      have hil : i < len := by
        have := (List.getElem?_eq_some_iff.1 hi).1
        simpa using this
      have : q i = z := by simpa [hil] using hi
      subst this
      have g := (hq i hil).2
      simpa only [add_plain] using g
end

end Go.Proofs.Ytkkcchklefcljaa.Clep
