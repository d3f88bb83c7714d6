/-
  DERIVED. GIVEN WITH THE SEED: THE CARDS: each row of YtjpoahnecbefaaaDoorRows.lean that lists a variable, with what it lists TIED to the program's text (the seventh form; the later family's looks); each row that meets fmt, with fmt's text TOLD by the authors' own Lean function (tested against real Go, not proved from fmt's source: count such statements apart). THE CARD IS WHAT COUNTS. Prove the row's statement (the work); the ties are given (YtjpoahnecbefaaaDoorTie.lean); close each card by the builder's one call (the guide's Derived/Test/ToyasCard.lean, 'card_holds'). Laid BY PROGRAM, IN A SANDBOX (cutbox-door.mjs). By AI agents, Wed Nov 11 2026. No macro, syntax, notation, axiom, sorry.
-/
import Derived.Test.YtjpoahnecbefaaaDoorRows
import GoSem.ClaimSeven
namespace Go.Proofs.YtjpoahnecbefaaaDoor
namespace Rows

/-- THE TIED CARD OF 'clepsydralaw9.MemKeeps'. -/
def memKeepsCard : Claim7 := { stood := { row := memKeepsRow, standIns := [], harness := (true, "996a6d4f003c6f0b8139b72abea7ac0d26664ed98bfbba766ff5a761bdb705c5"), looks := false }, kinds := [], alts := [], laidByText := true, laidKinds := [.data], laidTests := true, laidLooks := .later }
def MemKeepsCardSaid : Prop := Claim7.holds Tryd.pinned (.plain (OpenSpec.ofChange memKeepsSpec)) memKeepsCard

/-- THE TIED CARD OF 'clepsydralaw9.MemPlays'. -/
def memPlaysCard : Claim7 := { stood := { row := memPlaysRow, standIns := [], harness := (true, "996a6d4f003c6f0b8139b72abea7ac0d26664ed98bfbba766ff5a761bdb705c5"), looks := false }, kinds := [], alts := [], laidByText := true, laidKinds := [.data], laidTests := true, laidLooks := .later }
def MemPlaysCardSaid : Prop := Claim7.holds Tryd.pinned (.plain (OpenSpec.ofChange memPlaysSpec)) memPlaysCard

/-- THE TIED CARD OF 'clepsydralaw9.MemHeights'. -/
def memHeightsCard : Claim7 := { stood := { row := memHeightsRow, standIns := [], harness := (true, "996a6d4f003c6f0b8139b72abea7ac0d26664ed98bfbba766ff5a761bdb705c5"), looks := false }, kinds := [], alts := [], laidByText := true, laidKinds := [.data], laidTests := true, laidLooks := .later }
def MemHeightsCardSaid : Prop := Claim7.holds Tryd.pinned (.plain (OpenSpec.ofChange memHeightsSpec)) memHeightsCard

/-- THE TIED CARD OF 'clepsydralaw9.MemJoins'. -/
def memJoinsCard : Claim7 := { stood := { row := memJoinsRow, standIns := [], harness := (true, "996a6d4f003c6f0b8139b72abea7ac0d26664ed98bfbba766ff5a761bdb705c5"), looks := false }, kinds := [], alts := [], laidByText := true, laidKinds := [.data], laidTests := true, laidLooks := .later }
def MemJoinsCardSaid : Prop := Claim7.holds Tryd.pinned (.plain (OpenSpec.ofChange memJoinsSpec)) memJoinsCard

/-- THE SECOND FORM's CARD OF 'clepsydralaw9.MemKeeps'. -/
def memKeepsUptoCard : Claim7 := { stood := { row := memKeepsUptoRow, standIns := [], harness := (true, "996a6d4f003c6f0b8139b72abea7ac0d26664ed98bfbba766ff5a761bdb705c5"), looks := false }, kinds := [], alts := [], laidByText := true, laidKinds := [.data], laidTests := true, laidLooks := .later }
def MemKeepsUptoCardSaid : Prop := Claim7.holds Tryd.pinned (.plain (OpenSpec.upto memKeepsSpec)) memKeepsUptoCard

/-- THE SECOND FORM's CARD OF 'clepsydralaw9.MemPlays'. -/
def memPlaysUptoCard : Claim7 := { stood := { row := memPlaysUptoRow, standIns := [], harness := (true, "996a6d4f003c6f0b8139b72abea7ac0d26664ed98bfbba766ff5a761bdb705c5"), looks := false }, kinds := [], alts := [], laidByText := true, laidKinds := [.data], laidTests := true, laidLooks := .later }
def MemPlaysUptoCardSaid : Prop := Claim7.holds Tryd.pinned (.plain (OpenSpec.upto memPlaysSpec)) memPlaysUptoCard

/-- THE SECOND FORM's CARD OF 'clepsydralaw9.MemHeights'. -/
def memHeightsUptoCard : Claim7 := { stood := { row := memHeightsUptoRow, standIns := [], harness := (true, "996a6d4f003c6f0b8139b72abea7ac0d26664ed98bfbba766ff5a761bdb705c5"), looks := false }, kinds := [], alts := [], laidByText := true, laidKinds := [.data], laidTests := true, laidLooks := .later }
def MemHeightsUptoCardSaid : Prop := Claim7.holds Tryd.pinned (.plain (OpenSpec.upto memHeightsSpec)) memHeightsUptoCard

/-- THE SECOND FORM's CARD OF 'clepsydralaw9.MemJoins'. -/
def memJoinsUptoCard : Claim7 := { stood := { row := memJoinsUptoRow, standIns := [], harness := (true, "996a6d4f003c6f0b8139b72abea7ac0d26664ed98bfbba766ff5a761bdb705c5"), looks := false }, kinds := [], alts := [], laidByText := true, laidKinds := [.data], laidTests := true, laidLooks := .later }
def MemJoinsUptoCardSaid : Prop := Claim7.holds Tryd.pinned (.plain (OpenSpec.upto memJoinsSpec)) memJoinsUptoCard
end Rows
end Go.Proofs.YtjpoahnecbefaaaDoor
