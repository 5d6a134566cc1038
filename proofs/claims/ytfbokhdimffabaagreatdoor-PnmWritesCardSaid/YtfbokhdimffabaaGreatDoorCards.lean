/-
  DERIVED. GIVEN WITH THE SEED: THE CARDS: each row of YtfbokhdimffabaaGreatDoorRows.lean that lists a variable, with what it lists TIED to the program's text (the seventh form; the later family's looks); each row that meets fmt, with fmt's text TOLD by the authors' own Lean function (tested against real Go, not proved from fmt's source: count such statements apart). THE CARD IS WHAT COUNTS. Prove the row's statement (the work); the ties are given (YtfbokhdimffabaaGreatDoorTie.lean); close each card by the builder's one call (the guide's Derived/Test/ToyasCard.lean, 'card_holds'). Laid BY PROGRAM, IN A SANDBOX (cutbox-door.mjs). By AI agents, Wed Nov 11 2026. No macro, syntax, notation, axiom, sorry.
-/
import Derived.Test.YtfbokhdimffabaaGreatDoorRows
import GoSem.ClaimSeven
namespace Go.Proofs.YtfbokhdimffabaaGreatDoor
namespace Rows

/-- THE TIED CARD OF 'darkroomlaw10.PnmReads'. -/
def pnmReadsCard : Claim7 := { stood := { row := pnmReadsRow, standIns := [], harness := (true, "1e28d106acc1ac6929dec6aeb792ad652c94c304dca85d3e62fb1336cbcc5aef"), looks := false }, kinds := [], alts := [], laidByText := true, laidKinds := [.data, .data, .data, .data, .pinned], laidTests := true, laidLooks := .later }
def PnmReadsCardSaid : Prop := Claim7.holds Tryz.pinned (.plain (OpenSpec.ofChange pnmReadsSpec)) pnmReadsCard

/-- THE TIED CARD OF 'darkroomlaw10.PnmWrites'. -/
def pnmWritesCard : Claim7 := { stood := { row := pnmWritesRow, standIns := [], harness := (true, "1e28d106acc1ac6929dec6aeb792ad652c94c304dca85d3e62fb1336cbcc5aef"), looks := false }, kinds := [], alts := [], laidByText := true, laidKinds := [.data, .data, .data, .data, .pinned], laidTests := true, laidLooks := .later }
def PnmWritesCardSaid : Prop := Claim7.holds Tryz.pinned (.plain (OpenSpec.ofChange pnmWritesSpec)) pnmWritesCard

/-- THE TIED CARD OF 'darkroomlaw10.PnmOwn'. -/
def pnmOwnCard : Claim7 := { stood := { row := pnmOwnRow, standIns := [], harness := (true, "1e28d106acc1ac6929dec6aeb792ad652c94c304dca85d3e62fb1336cbcc5aef"), looks := false }, kinds := [], alts := [], laidByText := true, laidKinds := [.data, .data, .data, .data, .pinned], laidTests := true, laidLooks := .later }
def PnmOwnCardSaid : Prop := Claim7.holds Tryz.pinned (.plain (OpenSpec.ofChange pnmOwnSpec)) pnmOwnCard

/-- THE SECOND FORM's CARD OF 'darkroomlaw10.PnmReads'. -/
def pnmReadsUptoCard : Claim7 := { stood := { row := pnmReadsUptoRow, standIns := [], harness := (true, "1e28d106acc1ac6929dec6aeb792ad652c94c304dca85d3e62fb1336cbcc5aef"), looks := false }, kinds := [], alts := [], laidByText := true, laidKinds := [.data, .data, .data, .data, .pinned], laidTests := true, laidLooks := .later }
def PnmReadsUptoCardSaid : Prop := Claim7.holds Tryz.pinned (.plain (OpenSpec.upto pnmReadsSpec)) pnmReadsUptoCard

/-- THE SECOND FORM's CARD OF 'darkroomlaw10.PnmWrites'. -/
def pnmWritesUptoCard : Claim7 := { stood := { row := pnmWritesUptoRow, standIns := [], harness := (true, "1e28d106acc1ac6929dec6aeb792ad652c94c304dca85d3e62fb1336cbcc5aef"), looks := false }, kinds := [], alts := [], laidByText := true, laidKinds := [.data, .data, .data, .data, .pinned], laidTests := true, laidLooks := .later }
def PnmWritesUptoCardSaid : Prop := Claim7.holds Tryz.pinned (.plain (OpenSpec.upto pnmWritesSpec)) pnmWritesUptoCard

/-- THE SECOND FORM's CARD OF 'darkroomlaw10.PnmOwn'. -/
def pnmOwnUptoCard : Claim7 := { stood := { row := pnmOwnUptoRow, standIns := [], harness := (true, "1e28d106acc1ac6929dec6aeb792ad652c94c304dca85d3e62fb1336cbcc5aef"), looks := false }, kinds := [], alts := [], laidByText := true, laidKinds := [.data, .data, .data, .data, .pinned], laidTests := true, laidLooks := .later }
def PnmOwnUptoCardSaid : Prop := Claim7.holds Tryz.pinned (.plain (OpenSpec.upto pnmOwnSpec)) pnmOwnUptoCard
end Rows
end Go.Proofs.YtfbokhdimffabaaGreatDoor
