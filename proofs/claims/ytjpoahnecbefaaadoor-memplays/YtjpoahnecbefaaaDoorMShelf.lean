/- What of the library this program calls, each with the contract that the library holds: how many of the lowest bits of a number are 0. No conditions. -/
import Derived.Shelf.Spec.TrailingZeros
import Derived.Ground.Names7Prog
import Derived.Test.YtjpoahnecbefaaaDoorProg
namespace Go.Proofs
open Go.Shelf
def Tryd.tzA_ren : Go.Shelf.Ren := ⟨fun | 29 => 34 | n => n, fun | 22 => 30 | 3 => 3 | 4 => 4 | 25 => 74 | 54 => 93 | 0 => 0 | 5 => 5 | n => n, fun | 1 => 0 | n => n⟩
theorem Tryd.tzA : Go.Proofs.Lays7.n29 Tryd.prog Tryd.tzA_ren := {
  mixed := by kernel_rfl
  f29 := Tryd.func34.trans (congrArg some (by kernel_rfl))
  t0 := Tryd.underlying0
  a0 := Tryd.isAgg0
  z0 := Tryd.sizeOf0
  v0 := Tryd.zeroValue0
  i0 := by kernel_rfl
  t3 := Tryd.underlying3
  a3 := Tryd.isAgg3
  z3 := Tryd.sizeOf3
  v3 := Tryd.zeroValue3
  i3 := by kernel_rfl
  t4 := Tryd.underlying4
  a4 := Tryd.isAgg4
  z4 := Tryd.sizeOf4
  v4 := Tryd.zeroValue4
  i4 := by kernel_rfl
  t5 := Tryd.underlying5
  a5 := Tryd.isAgg5
  z5 := Tryd.sizeOf5
  v5 := Tryd.zeroValue5
  i5 := by kernel_rfl
  t22 := Tryd.underlying30
  a22 := Tryd.isAgg30
  z22 := Tryd.sizeOf30
  v22 := Tryd.zeroValue30
  i22 := by kernel_rfl
  t25 := Tryd.underlying74
  a25 := Tryd.isAgg74
  z25 := Tryd.sizeOf74
  v25 := Tryd.zeroValue74
  i25 := by kernel_rfl
  t54 := Tryd.underlying93
  a54 := Tryd.isAgg93
  z54 := Tryd.sizeOf93
  g1 := by kernel_rfl }
end Go.Proofs
