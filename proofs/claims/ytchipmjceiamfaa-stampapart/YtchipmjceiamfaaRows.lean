/-
  No cell of these rows narrows 'for every input' (looked for: loops, veiled, ifaces, maps, wideKeys, modest, calm, conditions, laid).
  DERIVED. THE GIVEN ROWS OF THIS SEAT. 5 by the template 'for every input the law returns true; each argument reads behind the call as it read before'; 0 by the template 'total and deterministic' (their statements: YtchipmjceiamfaaTotals.lean).
  GIVEN WITH THE SEED: the statements are not yours to turn. If you find one false, say at which input.
  Laid BY PROGRAM, IN A SANDBOX (cutbox-rows.mjs): the forced cells as the released guide's own fill.sh prints them over the translation f438f44cb3ac6188… (all of the seat's roots in one cut). By AI agents, Wed Nov 11 2026. No macro, syntax, notation, axiom, sorry.
-/
import Derived.Test.YtchipmjceiamfaaChecked
import GoSem.Claim
import GoSem.ClaimJoined
import GoSem.ClaimMapViews
import Derived.JoinedTies
import Derived.KernelRfl
namespace Go.Proofs.Ytchipmjceiamfaa
/- THE CELL 'sum', in the pinned program and in every row, IS THE sha256 OF THE DUMP (.gsa) THAT YtchipmjceiamfaaProg.lean LOADS. Nothing in Lean hashes anything: it is a label: what it is worth is what the hold of that sum in a sandbox is worth. -/
noncomputable def Try.pinned : Pinned := { name := "ytchipmjceiamfaa", sum := "f438f44cb3ac618829883e06dd6335ecfa859095d4402a5f47e4ef2fe4f38754", checked := Try.checked }
namespace Rows
def none {H : Type} : Left H := { results := [], args := [] }

/-- 'clepsydralaw7.StampPlays': WHATEVER THE INPUT: true; the input reads as it did. -/
def stampPlaysSpec : ChangeSpec := { name := "stampPlays", fn := fun _ => fun
  | [d1, d2, d3] => { results := [.lit (.bool true)], args := [d1, d2, d3] }
  | _ => none }
def stampPlaysRow : OpenClaim := { program := "ytchipmjceiamfaa", sum := "f438f44cb3ac618829883e06dd6335ecfa859095d4402a5f47e4ef2fe4f38754", func := "clepsydra/clepsydralaw7.StampPlays", spec := "stampPlays", inPlace := ["sync/atomic.LoadUint64", "sync/atomic.CompareAndSwapUint64"], apart := false }
def StampPlaysSaid : Prop := stampPlaysRow.holds Try.pinned (OpenSpec.ofChange stampPlaysSpec)

/-- ITS FALSE NEIGHBOUR: 'it returns false'. Refute it at one input. -/
def stampPlaysWrong : ChangeSpec := { name := "stampPlays", fn := fun _ => fun
  | [d1, d2, d3] => { results := [.lit (.bool false)], args := [d1, d2, d3] }
  | _ => none }
def StampPlaysWrongFalsely : Prop := stampPlaysRow.holds Try.pinned (OpenSpec.ofChange stampPlaysWrong)

/-- 'clepsydralaw7.StampMakes': WHATEVER THE INPUT: true; the input reads as it did. -/
def stampMakesSpec : ChangeSpec := { name := "stampMakes", fn := fun _ => fun
  | [d1, d2, d3, d4, d5] => { results := [.lit (.bool true)], args := [d1, d2, d3, d4, d5] }
  | _ => none }
def stampMakesRow : OpenClaim := { program := "ytchipmjceiamfaa", sum := "f438f44cb3ac618829883e06dd6335ecfa859095d4402a5f47e4ef2fe4f38754", func := "clepsydra/clepsydralaw7.StampMakes", spec := "stampMakes", inPlace := ["sync/atomic.LoadUint64", "sync/atomic.CompareAndSwapUint64"], apart := false }
def StampMakesSaid : Prop := stampMakesRow.holds Try.pinned (OpenSpec.ofChange stampMakesSpec)

/-- ITS FALSE NEIGHBOUR: 'it returns false'. Refute it at one input. -/
def stampMakesWrong : ChangeSpec := { name := "stampMakes", fn := fun _ => fun
  | [d1, d2, d3, d4, d5] => { results := [.lit (.bool false)], args := [d1, d2, d3, d4, d5] }
  | _ => none }
def StampMakesWrongFalsely : Prop := stampMakesRow.holds Try.pinned (OpenSpec.ofChange stampMakesWrong)

/-- 'clepsydralaw7.StampApart': WHATEVER THE INPUT: true; the input reads as it did. -/
def stampApartSpec : ChangeSpec := { name := "stampApart", fn := fun _ => fun
  | [d] => { results := [.lit (.bool true)], args := [d] }
  | _ => none }
def stampApartRow : OpenClaim := { program := "ytchipmjceiamfaa", sum := "f438f44cb3ac618829883e06dd6335ecfa859095d4402a5f47e4ef2fe4f38754", func := "clepsydra/clepsydralaw7.StampApart", spec := "stampApart", inPlace := ["sync/atomic.LoadUint64", "sync/atomic.CompareAndSwapUint64"], apart := false }
def StampApartSaid : Prop := stampApartRow.holds Try.pinned (OpenSpec.ofChange stampApartSpec)

/-- ITS FALSE NEIGHBOUR: 'it returns false'. Refute it at one input. -/
def stampApartWrong : ChangeSpec := { name := "stampApart", fn := fun _ => fun
  | [d] => { results := [.lit (.bool false)], args := [d] }
  | _ => none }
def StampApartWrongFalsely : Prop := stampApartRow.holds Try.pinned (OpenSpec.ofChange stampApartWrong)

/-- 'clepsydralaw7.StampRestarts': WHATEVER THE INPUT: true; the input reads as it did. -/
def stampRestartsSpec : ChangeSpec := { name := "stampRestarts", fn := fun _ => fun
  | [d1, d2, d3] => { results := [.lit (.bool true)], args := [d1, d2, d3] }
  | _ => none }
def stampRestartsRow : OpenClaim := { program := "ytchipmjceiamfaa", sum := "f438f44cb3ac618829883e06dd6335ecfa859095d4402a5f47e4ef2fe4f38754", func := "clepsydra/clepsydralaw7.StampRestarts", spec := "stampRestarts", inPlace := ["sync/atomic.LoadUint64", "sync/atomic.CompareAndSwapUint64"], apart := false }
def StampRestartsSaid : Prop := stampRestartsRow.holds Try.pinned (OpenSpec.ofChange stampRestartsSpec)

/-- ITS FALSE NEIGHBOUR: 'it returns false'. Refute it at one input. -/
def stampRestartsWrong : ChangeSpec := { name := "stampRestarts", fn := fun _ => fun
  | [d1, d2, d3] => { results := [.lit (.bool false)], args := [d1, d2, d3] }
  | _ => none }
def StampRestartsWrongFalsely : Prop := stampRestartsRow.holds Try.pinned (OpenSpec.ofChange stampRestartsWrong)

/-- 'clepsydralaw7.StampEnds': WHATEVER THE INPUT: true; the input reads as it did. -/
def stampEndsSpec : ChangeSpec := { name := "stampEnds", fn := fun _ => fun
  | [d1, d2, d3] => { results := [.lit (.bool true)], args := [d1, d2, d3] }
  | _ => none }
def stampEndsRow : OpenClaim := { program := "ytchipmjceiamfaa", sum := "f438f44cb3ac618829883e06dd6335ecfa859095d4402a5f47e4ef2fe4f38754", func := "clepsydra/clepsydralaw7.StampEnds", spec := "stampEnds", inPlace := ["sync/atomic.LoadUint64", "sync/atomic.CompareAndSwapUint64"], apart := false }
def StampEndsSaid : Prop := stampEndsRow.holds Try.pinned (OpenSpec.ofChange stampEndsSpec)

/-- ITS FALSE NEIGHBOUR: 'it returns false'. Refute it at one input. -/
def stampEndsWrong : ChangeSpec := { name := "stampEnds", fn := fun _ => fun
  | [d1, d2, d3] => { results := [.lit (.bool false)], args := [d1, d2, d3] }
  | _ => none }
def StampEndsWrongFalsely : Prop := stampEndsRow.holds Try.pinned (OpenSpec.ofChange stampEndsWrong)

/- THE SECOND FORM. 'bulk': how many values and letters a reading holds, each counted each time it is reached (what is shared counts as often as it is met; a slice's spare places count too). A statement '..UptoSaid' is the law's where the arguments, and the package variables that the reading takes, are together of bulk at most 1048576: NARROWER than '..Said'. Prove '..Said' where nothing that the law and all that it calls make is longer than what came in: it says more and counts as full. Else prove '..UptoSaid'. A law counts once. -/
mutual
def uptoBulk {H : Type} : DataW H → Nat
  | .lit (.string bytes) => bytes.length + 1
  | .lit _ => 1
  | .nil => 1
  | .ptr d => uptoBulk d + 1
  | .slice elems spare => uptoBulkAll elems + uptoBulkAll spare + 1
  | .agg parts => uptoBulkAll parts + 1
  | .iface _ d => uptoBulk d + 1
  | .map entries => uptoBulkEntries entries + 1
  | .held _ => 1
def uptoBulkAll {H : Type} : List (DataW H) → Nat
  | [] => 0
  | d :: r => uptoBulk d + uptoBulkAll r
def uptoBulkEntries {H : Type} : List (Lit × DataW H) → Nat
  | [] => 0
  | x :: r => uptoBulkEntry x + uptoBulkEntries r
def uptoBulkEntry {H : Type} : Lit × DataW H → Nat
  | (.string bytes, d) => bytes.length + uptoBulk d + 1
  | (_, d) => uptoBulk d + 1
 end
def uptoSmall : (H : Type) → List (DataW H) → Bool := fun _ ds => decide (uptoBulkAll ds ≤ 1048576)
def OpenSpec.upto (s : _root_.Go.ChangeSpec) : _root_.Go.OpenSpec := { _root_.Go.OpenSpec.ofChange s with cond := some uptoSmall }

/-- 'clepsydralaw7.StampPlays', WHERE WHAT IT READS IS OF BULK AT MOST 1048576: true; the input reads as it did. -/
def stampPlaysUptoRow : OpenClaim := { program := "ytchipmjceiamfaa", sum := "f438f44cb3ac618829883e06dd6335ecfa859095d4402a5f47e4ef2fe4f38754", func := "clepsydra/clepsydralaw7.StampPlays", spec := "stampPlays", inPlace := ["sync/atomic.LoadUint64", "sync/atomic.CompareAndSwapUint64"], apart := false, narrowed := true }
def StampPlaysUptoSaid : Prop := stampPlaysUptoRow.holds Try.pinned (OpenSpec.upto stampPlaysSpec)

/-- 'clepsydralaw7.StampMakes', WHERE WHAT IT READS IS OF BULK AT MOST 1048576: true; the input reads as it did. -/
def stampMakesUptoRow : OpenClaim := { program := "ytchipmjceiamfaa", sum := "f438f44cb3ac618829883e06dd6335ecfa859095d4402a5f47e4ef2fe4f38754", func := "clepsydra/clepsydralaw7.StampMakes", spec := "stampMakes", inPlace := ["sync/atomic.LoadUint64", "sync/atomic.CompareAndSwapUint64"], apart := false, narrowed := true }
def StampMakesUptoSaid : Prop := stampMakesUptoRow.holds Try.pinned (OpenSpec.upto stampMakesSpec)

/-- 'clepsydralaw7.StampApart', WHERE WHAT IT READS IS OF BULK AT MOST 1048576: true; the input reads as it did. -/
def stampApartUptoRow : OpenClaim := { program := "ytchipmjceiamfaa", sum := "f438f44cb3ac618829883e06dd6335ecfa859095d4402a5f47e4ef2fe4f38754", func := "clepsydra/clepsydralaw7.StampApart", spec := "stampApart", inPlace := ["sync/atomic.LoadUint64", "sync/atomic.CompareAndSwapUint64"], apart := false, narrowed := true }
def StampApartUptoSaid : Prop := stampApartUptoRow.holds Try.pinned (OpenSpec.upto stampApartSpec)

/-- 'clepsydralaw7.StampRestarts', WHERE WHAT IT READS IS OF BULK AT MOST 1048576: true; the input reads as it did. -/
def stampRestartsUptoRow : OpenClaim := { program := "ytchipmjceiamfaa", sum := "f438f44cb3ac618829883e06dd6335ecfa859095d4402a5f47e4ef2fe4f38754", func := "clepsydra/clepsydralaw7.StampRestarts", spec := "stampRestarts", inPlace := ["sync/atomic.LoadUint64", "sync/atomic.CompareAndSwapUint64"], apart := false, narrowed := true }
def StampRestartsUptoSaid : Prop := stampRestartsUptoRow.holds Try.pinned (OpenSpec.upto stampRestartsSpec)

/-- 'clepsydralaw7.StampEnds', WHERE WHAT IT READS IS OF BULK AT MOST 1048576: true; the input reads as it did. -/
def stampEndsUptoRow : OpenClaim := { program := "ytchipmjceiamfaa", sum := "f438f44cb3ac618829883e06dd6335ecfa859095d4402a5f47e4ef2fe4f38754", func := "clepsydra/clepsydralaw7.StampEnds", spec := "stampEnds", inPlace := ["sync/atomic.LoadUint64", "sync/atomic.CompareAndSwapUint64"], apart := false, narrowed := true }
def StampEndsUptoSaid : Prop := stampEndsUptoRow.holds Try.pinned (OpenSpec.upto stampEndsSpec)

end Rows
end Go.Proofs.Ytchipmjceiamfaa
