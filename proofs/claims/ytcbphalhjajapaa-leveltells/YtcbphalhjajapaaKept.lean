/- A region that draws its order, whose operations read what is kept and whose callees make memory of their own: walked once, in the order of the text, at the class of all worlds that keep what was there. No conditions. -/
import Derived.WalkKit
import Derived.Below
import Derived.Deep.QuietTactic
import Derived.BigQuiet
namespace Go.Proofs.Ytcbphalhjajapaa.Clep
open Go.RowKit
set_option linter.unusedVariables false
set_option maxRecDepth 10000

/-- A world that keeps all that was there in w. -/
structure Kp (w : World) where
  W : World
  h : Below w.heap.size w W

theorem wp_region_kept {P : Program} {id : Nat} {Q : Exit → Act → World → Prop} {a : Act} {w : World} {l : List Oper} (hm : P.follows .mixedOrders = true) (hB : Region.lexB .any l.toArray = true)
    (h : wpQuiet P l.toArray (fun w' => ∃ p : Kp w, w' = p.W) (fun a' => ∀ w', (∃ p : Kp w, w' = p.W) → Q .normal a' w') l a) : (Code.region id l.toArray true).wp P Q a w :=
  wp_region_quiet (C := fun w' => ∃ p : Kp w, w' = p.W) hm hB ⟨⟨_, (Below.refl _ _).drew⟩, rfl⟩ (by simpa using h)

/-- A callee that makes memory of its own alone, and answers one value whatever the world. -/
theorem kp_call {P : Program} {f : FuncId} {args : Array Value} {w : World} {p : Kp w} {v : Value}
    (h : Calls P f args p.W fun e w' => e = .returned v ∧ Below p.W.heap.size p.W w') : Calls P f args p.W fun e w'' => e = .returned v ∧ ∃ q : Kp w, w'' = q.W :=
  h.mono fun _ w' ⟨he, hb⟩ => ⟨he, ⟨w', p.h.trans (hb.mono p.h.size)⟩, rfl⟩
theorem kp_same {P : Program} {f : FuncId} {args : Array Value} {w : World} {p : Kp w} {v : Value}
    (h : Calls P f args p.W fun e w' => e = .returned v ∧ w' = p.W) : Calls P f args p.W fun e w'' => e = .returned v ∧ ∃ q : Kp w, w'' = q.W :=
  h.mono fun _ w' ⟨he, hb⟩ => ⟨he, p, hb⟩

end Go.Proofs.Ytcbphalhjajapaa.Clep
