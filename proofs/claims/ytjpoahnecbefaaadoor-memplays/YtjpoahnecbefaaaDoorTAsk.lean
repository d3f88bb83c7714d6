/- What From, Get, Level and All of a List do when called. Conditions: fewer than 2^40 items. -/
import Derived.Test.YtjpoahnecbefaaaDoorTHeld
import Derived.Maps.AppendAt
namespace Go.Proofs.YtjpoahnecbefaaaDoor.Clep
open Go.RowKit
set_option linter.unusedVariables false

def it0 : It := ⟨0, 0, 0, 0, 0⟩
/-- The least that is not ahead of x. -/
def fromW (x : It) (ws : List (It × Nat)) : Option It := (ws.find? fun p => !(p.1.less x)).map Prod.fst
def getW (x : It) (ws : List (It × Nat)) : Option It := match fromW x ws with | some y => if x.same y then some y else none | none => none
/-- Those of a height. -/
def levW (n : Int) (ws : List (It × Nat)) : List It := if 1 ≤ n ∧ n ≤ 6 then (ws.filter fun p => decide (n ≤ (p.2 : Int))).map Prod.fst else []
def AnsW (l : List It) (w : World) (e : Ending) (w' : World) : Prop := ∃ a c, e = .returned (.slice a l.length c) ∧ Is w' a l.length c l ∧ c ≤ 9223372036854775807 ∧ Below w.heap.size w w'
theorem from_abs {S : Sk} (hp : Pu S) (x : It) : fromW x S.abs = (be (S.lt x) (S.lev 0)).map S.x := by
  rw [lev0 hp]
  unfold fromW Sk.abs
  generalize S.l = l
  induction l with
  | nil => rfl
  | cons b r ih =>
    unfold be
    rw [List.map_cons, List.find?_cons]
    show Option.map _ (match (!((S.x b).less x)) with | true => _ | false => _) = _
    cases hb : S.lt x b with
    | true =>
      have hb' : (S.x b).less x = true := hb
      rw [hb']
      simp only [Bool.not_true, if_true]
      exact ih
    | false =>
      have hb' : (S.x b).less x = false := hb
      rw [hb']
      simp
end Go.Proofs.YtjpoahnecbefaaaDoor.Clep
