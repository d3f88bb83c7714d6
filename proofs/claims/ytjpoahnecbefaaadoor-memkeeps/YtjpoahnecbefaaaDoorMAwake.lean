/- What the statements' own awake does when called. Conditions: the table of math/bits reads as its initialiser lays it. -/
import Derived.Test.YtjpoahnecbefaaaDoorMApplyW
import Derived.Test.YtjpoahnecbefaaaDoorSVx
namespace Go.Proofs.YtjpoahnecbefaaaDoor.Clep
open Go.RowKit
set_option linter.unusedVariables false

theorem put1 (x : It) (hx : x.ok = true) : applyW false [x] [] = [(x, hgt x.S x.K x.T)] := by
  have h := hgt_le x.S x.K x.T
  have e : (x :: []).all It.ok = true := by simp [hx]
  unfold applyW
  rw [if_neg Bool.false_ne_true, if_pos e]
  show (putA x (hgt x.S x.K x.T : Nat) []).2 = _
  unfold putA
  rw [if_pos ⟨hx, by omega, by omega⟩]
  show (putW x ((hgt x.S x.K x.T : Nat) : Int).toNat []).2 = _
  rw [Int.toNat_natCast]
  rfl

end Go.Proofs.YtjpoahnecbefaaaDoor.Clep
