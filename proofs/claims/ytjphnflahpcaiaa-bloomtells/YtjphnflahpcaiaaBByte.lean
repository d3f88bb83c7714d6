/- Texts of bytes. No conditions. -/
import Derived.Test.YtjphnflahpcaiaaBase
namespace Go.Proofs.Ytjphnflahpcaiaa.Clep
set_option linter.unusedVariables false

def ByteL (zs : List Int) : Prop := ∀ z ∈ zs, 0 ≤ z ∧ z < 256
theorem ByteL.tail {z : Int} {zs : List Int} (h : ByteL (z :: zs)) : ByteL zs := fun y hy => h y (List.mem_cons_of_mem _ hy)
theorem ByteL.head {z : Int} {zs : List Int} (h : ByteL (z :: zs)) : 0 ≤ z ∧ z < 256 := h z (by simp)

end Go.Proofs.Ytjphnflahpcaiaa.Clep
