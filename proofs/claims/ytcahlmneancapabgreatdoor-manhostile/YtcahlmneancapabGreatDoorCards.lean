/-
  DERIVED. GIVEN WITH THE SEED: THE CARDS: each row of YtcahlmneancapabGreatDoorRows.lean that lists a variable, with what it lists TIED to the program's text (the seventh form; the later family's looks); each row that meets fmt, with fmt's text TOLD by the authors' own Lean function (tested against real Go, not proved from fmt's source: count such statements apart). THE CARD IS WHAT COUNTS. Prove the row's statement (the work); the ties are given (YtcahlmneancapabGreatDoorTie.lean); close each card by the builder's one call (the guide's Derived/Test/ToyasCard.lean, 'card_holds'). Laid BY PROGRAM, IN A SANDBOX (cutbox-door.mjs). By AI agents, Wed Nov 11 2026. No macro, syntax, notation, axiom, sorry.
-/
import Derived.Test.YtcahlmneancapabGreatDoorRows
import GoSem.ClaimSeven
namespace Go.Proofs.YtcahlmneancapabGreatDoor
namespace Rows

/-- THE TIED CARD OF 'clepsydralaw16.ManHostile'. -/
def manHostileCard : Claim7 := { stood := { row := manHostileRow, standIns := [], harness := (true, "f633d283b8de040d579d675bc77829e4d7f6aea177e4b1117c3cbae873b35143"), looks := true }, kinds := [], alts := [], laidByText := true, laidKinds := [.data, .data, .data, .sentinel, .sentinel], laidTests := true, laidLooks := .later }
def ManHostileCardSaid : Prop := Claim7.holds Tryz.pinned (.plain (OpenSpec.ofChange manHostileSpec)) manHostileCard

/-- THE TIED CARD OF 'clepsydralaw16.ManArgs'. -/
def manArgsCard : Claim7 := { stood := { row := manArgsRow, standIns := [], harness := (true, "f633d283b8de040d579d675bc77829e4d7f6aea177e4b1117c3cbae873b35143"), looks := true }, kinds := [], alts := [], laidByText := true, laidKinds := [.data, .data, .data, .sentinel, .sentinel], laidTests := true, laidLooks := .later }
def ManArgsCardSaid : Prop := Claim7.holds Tryz.pinned (.plain (OpenSpec.ofChange manArgsSpec)) manArgsCard

/-- THE SECOND FORM's CARD OF 'clepsydralaw16.ManHostile'. -/
def manHostileUptoCard : Claim7 := { stood := { row := manHostileUptoRow, standIns := [], harness := (true, "f633d283b8de040d579d675bc77829e4d7f6aea177e4b1117c3cbae873b35143"), looks := true }, kinds := [], alts := [], laidByText := true, laidKinds := [.data, .data, .data, .sentinel, .sentinel], laidTests := true, laidLooks := .later }
def ManHostileUptoCardSaid : Prop := Claim7.holds Tryz.pinned (.plain (OpenSpec.upto manHostileSpec)) manHostileUptoCard

/-- THE SECOND FORM's CARD OF 'clepsydralaw16.ManArgs'. -/
def manArgsUptoCard : Claim7 := { stood := { row := manArgsUptoRow, standIns := [], harness := (true, "f633d283b8de040d579d675bc77829e4d7f6aea177e4b1117c3cbae873b35143"), looks := true }, kinds := [], alts := [], laidByText := true, laidKinds := [.data, .data, .data, .sentinel, .sentinel], laidTests := true, laidLooks := .later }
def ManArgsUptoCardSaid : Prop := Claim7.holds Tryz.pinned (.plain (OpenSpec.upto manArgsSpec)) manArgsUptoCard
end Rows
end Go.Proofs.YtcahlmneancapabGreatDoor
