/- A Meta that comes in, opened. No conditions. -/
import Derived.Test.YtgopcaemgcnapaaEEdits
namespace Go.Proofs.Ytgopcaemgcnapaa.Clep
open Go.RowKit Go.ChangeShapes Go.WideShapes Go.Deep
set_option linter.unusedVariables false

structure Mt where
  a : Int
  b : Int
  c : Int
  d : Int
theorem ecellsM : Try.prog.cellsOf 45 = 4 := by kernel_rfl

section
variable {H : Type} {enc : TypeId × Value → H} {W : World} {base : Nat} {spare : Nat → Bool} {held : Bool}

set_option maxRecDepth 100000 in
theorem open_meta {r : Reach} {b0 : Nat} {v : Value} {d : DataW H} {p : List MemPlace} (hv : Value.okWide Try.prog W r b0 45 v) (h : DataW.Trod enc Try.prog W base spare held 45 v d p) :
    ∃ y : Mt, v = .agg #[.int .u64 y.a, .int .u64 y.b, .int .u64 y.c, .int .u64 y.d] := by
  obtain ⟨cs, rfl, _⟩ := okWide_struct Try.underlying45 hv
  obtain ⟨fuel, hf⟩ := h
  obtain ⟨xs, n, _, _, hl, hlen, hf⟩ := DataW.trod_struct Try.underlying45 hf
  obtain ⟨l⟩ := cs
  simp only [Value.cells] at hl hf
  rw [ecellsM] at hl
  obtain ⟨c0, c1, c2, c3, rfl⟩ := elist4 hl
  obtain ⟨x0, x1, x2, x3, rfl⟩ := elist4 (show xs.length = 4 from hlen)
  have g0 := hf 0 _ rfl
  have g1 := hf 1 _ rfl
  have g2 := hf 2 _ rfl
  have g3 := hf 3 _ rfl
  simp [ecellsU] at g0 g1 g2 g3
  obtain ⟨A, e0, _, w0⟩ := DataW.trod_int Try.underlying24 g0
  obtain ⟨B, e1, _, w1⟩ := DataW.trod_int Try.underlying24 g1
  obtain ⟨C, e2, _, w2⟩ := DataW.trod_int Try.underlying24 g2
  obtain ⟨D, e3, _, w3⟩ := DataW.trod_int Try.underlying24 g3
  cases e0; cases e1; cases e2; cases e3
  exact ⟨⟨A, B, C, D⟩, rfl⟩
end

end Go.Proofs.Ytgopcaemgcnapaa.Clep
