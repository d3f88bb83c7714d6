/- What Apply does when called. Conditions: fewer than 2^40 items in all; the items that are handed in are no part of the Mem; the table of math/bits reads as its initialiser lays it, and is no part of the Mem. -/
import Derived.Test.YtjpoahnecbefaaaDoorMApply
namespace Go.Proofs.YtjpoahnecbefaaaDoor.Clep
open Go.RowKit
set_option linter.unusedVariables false

theorem ap_step {w wr w1 w2 w3 : World} {M L n0 : Nat} {C : Nat → Prop} {l : List It} {k : Nat} {ws : List (It × Nat)} {x : It} (h : Ap w wr M L n0 C l k ws) (hx : l[k]? = some x) (hMC : ¬ C M) (hMw : M < w.heap.size)
    (h1 : Below wr.heap.size wr w1) (h2 : Below w1.heap.size w1 w2)
    (hh : Held w3 L (fun b => (C b ∨ (w.heap.size ≤ b ∧ b < wr.heap.size)) ∨ (w2.heap.size ≤ b ∧ b < w3.heap.size)) (putA x (hgt x.S x.K x.T : Nat) (putAll (l.take k) ws)).2)
    (hc : Ch (fun b => C b ∨ (w.heap.size ≤ b ∧ b < wr.heap.size)) w2 w3) : Ap w w3 M L n0 C l (k + 1) ws := by
  have hs0 := h.ch.size
  have hs1 := h1.size
  have hs2 := h2.size
  have hs3 := hc.size
  refine ⟨((h.blk.keep h1).keep h2).ch hc (fun e => ?_), ?_, ?_⟩
  · rcases e with e | e
    · exact hMC e
    · omega
  · rw [putAll_take l k x hx ws]
    obtain ⟨q1, S, q2, q3, q4, q5, q6⟩ := hh
    refine ⟨fun b hb => ?_, S, q2, q3, q4, q5, fun b hb => ?_⟩
    · rcases hb with e | e
      · exact q1 b (.inl (.inl e))
      · exact e.2
    · rcases q6 b hb with (e | e) | e
      · exact .inl e
      · exact .inr ⟨e.1, by omega⟩
      · exact .inr ⟨by omega, e.2⟩
  · have a1 : Ch C w w2 := (h.ch.trans (Ch.of h1)).trans (Ch.of h2)
    refine ⟨hc.os.trans a1.os, hc.tape.trans a1.tape, hc.output.trans a1.output, Nat.le_trans a1.size hc.size, fun i hi hp => ?_⟩
    rw [hc.block i (by omega) (fun e => e.elim hp (fun e => by omega))]
    exact a1.block i hi hp

end Go.Proofs.YtjpoahnecbefaaaDoor.Clep
