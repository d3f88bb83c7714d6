/- Items that come in: an item by value, and a row of items, opened. No conditions. -/
import Derived.Test.YtdldpdllhnpdaaaGreatZe
import Derived.Deep.Slices
import Derived.ChangeOld
import Derived.ProofKit
import Derived.OpenShut
namespace Go.Proofs.YtdldpdllhnpdaaaGreat.Clep
open Go.RowKit Go.ChangeShapes Go.WideShapes Go.Deep
set_option linter.unusedVariables false

theorem list5 {α : Type} {cs : List α} (h : cs.length = 5) : ∃ c0 c1 c2 c3 c4, cs = [c0, c1, c2, c3, c4] := by
  match cs, h with
  | [c0, c1, c2, c3, c4], _ => exact ⟨c0, c1, c2, c3, c4, rfl⟩
theorem cellsI : Tryz.prog.cellsOf 48 = 5 := by kernel_rfl
theorem cells3 : Tryz.prog.cellsOf 3 = 1 := by kernel_rfl
theorem cells22 : Tryz.prog.cellsOf 46 = 1 := by kernel_rfl
theorem cells2 : Tryz.prog.cellsOf 2 = 1 := by kernel_rfl

section
variable {H : Type} {enc : TypeId × Value → H} {W : World} {base : Nat} {spare : Nat → Bool} {held : Bool}

set_option maxRecDepth 100000 in
theorem item_cells {fuel : Nat} {cs : List Value} {x : DataW H × List MemPlace} (h : DataW.trod enc Tryz.prog W base spare held fuel 48 cs = some x) :
    ∃ y : It, cs = [.int .i64 y.S, .int .i64 y.K, .int .u64 y.T, .int .u64 y.V, .int .i64 y.X] ∧ y.wf := by
  obtain ⟨xs, n, _, _, hl, hlen, hf⟩ := DataW.trod_struct Tryz.underlying48 h
  rw [cellsI] at hl
  obtain ⟨c0, c1, c2, c3, c4, rfl⟩ := list5 hl
  obtain ⟨x0, x1, x2, x3, x4, rfl⟩ := list5 (show xs.length = 5 from hlen)
  have g0 := hf 0 _ rfl
  have g1 := hf 1 _ rfl
  have g2 := hf 2 _ rfl
  have g3 := hf 3 _ rfl
  have g4 := hf 4 _ rfl
  simp [cells3, cells22, cells2] at g0 g1 g2 g3 g4
  obtain ⟨S, e0, _, w0⟩ := DataW.trod_int Tryz.underlying3 g0
  obtain ⟨K, e1, _, w1⟩ := DataW.trod_int Tryz.underlying3 g1
  obtain ⟨T, e2, _, w2⟩ := DataW.trod_int Tryz.underlying46 g2
  obtain ⟨V, e3, _, w3⟩ := DataW.trod_int Tryz.underlying46 g3
  obtain ⟨X, e4, _, w4⟩ := DataW.trod_int Tryz.underlying2 g4
  cases e0; cases e1; cases e2; cases e3; cases e4
  exact ⟨⟨S, K, T, V, X⟩, rfl, i64_bounds w0, i64_bounds w1, u64_bounds w2, u64_bounds w3, i64_bounds w4⟩

set_option maxRecDepth 100000 in
theorem open_item {r : Reach} {b0 : Nat} {v : Value} {d : DataW H} {p : List MemPlace} (hv : Value.okWide Tryz.prog W r b0 48 v) (h : DataW.Trod enc Tryz.prog W base spare held 48 v d p) :
    ∃ y : It, v = .agg #[.int .i64 y.S, .int .i64 y.K, .int .u64 y.T, .int .u64 y.V, .int .i64 y.X] ∧ y.wf := by
  obtain ⟨cs, rfl, _⟩ := okWide_struct Tryz.underlying48 hv
  obtain ⟨fuel, hf⟩ := h
  obtain ⟨y, e, hy⟩ := item_cells hf
  refine ⟨y, ?_, hy⟩
  obtain ⟨l⟩ := cs
  simp only [Value.cells] at e
  rw [e]

set_option maxRecDepth 100000 in
theorem open_items {a : Option Addr} {len cap : Nat} {d : DataW H} {p : List MemPlace} (h : DataW.Trod enc Tryz.prog W base spare held 34 (.slice a len cap) d p) :
    ∃ l, Is W a len cap l ∧ len ≤ 9223372036854775807 := by
  haveI : Inhabited It := ⟨⟨0, 0, 0, 0, 0⟩⟩
  obtain ⟨fuel, hf⟩ := h
  rcases open_slice Tryz.underlying34 hf with ⟨hcs, _⟩ | ⟨x, l, c, m, n, D, Pl, hcs, _, hl, hm, hmm, _, hx⟩
  · simp [Value.cells] at hcs
    obtain ⟨rfl, rfl, rfl⟩ := hcs
    exact ⟨[], is_nil W, by omega⟩
  · simp [Value.cells] at hcs
    obtain ⟨rfl, rfl, rfl⟩ := hcs
    have hlm : len ≤ m := by rw [hmm]; split <;> omega
    have each : ∀ i, i < len → ∃ y : It, y.wf ∧ (∀ j u, [Value.int IntKind.i64 y.S, .int .i64 y.K, .int .u64 y.T, .int .u64 y.V, .int .i64 y.X][j]? = some u → W.cell? ((x.add (i * 5)).add j) = some u) := by
      intro i hi
      obtain ⟨cs', h1, h2⟩ := hx i (by omega)
      rw [cellsI] at h1
      obtain ⟨y, e, hy⟩ := item_cells h2
      obtain ⟨_, hlen, hc⟩ := World.cells?_some h1
      refine ⟨y, hy, fun j u hu => ?_⟩
      rw [← e] at hu
      rw [hc j (by have := (List.getElem?_eq_some_iff.1 hu).1; omega)]
      exact hu
    obtain ⟨q, hq⟩ := choose_lt each
    refine ⟨(List.range len).map q, ⟨by simp, ⟨hl, fun h => by cases h⟩, ?_, fun h0 => ?_⟩, by unfold maxLen at hm; omega⟩
    · intro y hy
      obtain ⟨i, hi, rfl⟩ := List.mem_map.1 hy
      exact (hq i (List.mem_range.1 hi)).1
    · obtain ⟨b, off, spot⟩ := x
      have hc := (hq 0 h0).2 0 _ rfl
      have hspot : spot = none := by simpa [Addr.add] using World.cell?_spot hc
      subst hspot
      refine ⟨b, off, rfl, fun i y hi => ?_⟩
      have hil : i < len := by
        have := (List.getElem?_eq_some_iff.1 hi).1
        simpa using this
      have : q i = y := by simpa [hil] using hi
      subst this
      have g := (hq i hil).2
      simp only [add_plain] at g
      exact ⟨g 0 _ rfl, g 1 _ rfl, g 2 _ rfl, g 3 _ rfl, g 4 _ rfl⟩
end

end Go.Proofs.YtdldpdllhnpdaaaGreat.Clep
