/-
  DERIVED. GIVEN WITH THE SEED: THE CARDS: each row of YtjaeiddfpclbkaaDoorRows.lean that lists a variable, with what it lists TIED to the program's text (the seventh form; the later family's looks); each row that meets fmt, with fmt's text TOLD by the authors' own Lean function (tested against real Go, not proved from fmt's source: count such statements apart). THE CARD IS WHAT COUNTS. Prove the row's statement (the work); the ties are given (YtjaeiddfpclbkaaDoorTie.lean); close each card by the builder's one call (the guide's Derived/Test/ToyasCard.lean, 'card_holds'). Laid BY PROGRAM, IN A SANDBOX (cutbox-door.mjs). By AI agents, Wed Nov 11 2026. No macro, syntax, notation, axiom, sorry.
-/
import Derived.Test.YtjaeiddfpclbkaaDoorRows
import GoSem.ClaimSeven
namespace Go.Proofs.YtjaeiddfpclbkaaDoor
namespace Rows

/-- THE TIED CARD OF 'darkroomlaw04.InflateReads'. -/
def inflateReadsCard : Claim7 := { stood := { row := inflateReadsRow, standIns := [], harness := (true, "5752a827e2e3843824987649627a58ef56aaa3bc3e06070300a15737590c356d"), looks := true }, kinds := [], alts := [], laidByText := true, laidKinds := [.data], laidTests := true, laidLooks := .later }
def InflateReadsCardSaid : Prop := Claim7.holds Tryd.pinned (.plain (OpenSpec.ofChange inflateReadsSpec)) inflateReadsCard

/-- THE TIED CARD OF 'darkroomlaw04.InflateZlib'. -/
def inflateZlibCard : Claim7 := { stood := { row := inflateZlibRow, standIns := [], harness := (true, "5752a827e2e3843824987649627a58ef56aaa3bc3e06070300a15737590c356d"), looks := true }, kinds := [], alts := [], laidByText := true, laidKinds := [.data], laidTests := true, laidLooks := .later }
def InflateZlibCardSaid : Prop := Claim7.holds Tryd.pinned (.plain (OpenSpec.ofChange inflateZlibSpec)) inflateZlibCard

/-- THE TIED CARD OF 'darkroomlaw04.InflateStored'. -/
def inflateStoredCard : Claim7 := { stood := { row := inflateStoredRow, standIns := [], harness := (true, "5752a827e2e3843824987649627a58ef56aaa3bc3e06070300a15737590c356d"), looks := true }, kinds := [], alts := [], laidByText := true, laidKinds := [.data], laidTests := true, laidLooks := .later }
def InflateStoredCardSaid : Prop := Claim7.holds Tryd.pinned (.plain (OpenSpec.ofChange inflateStoredSpec)) inflateStoredCard

/-- THE TIED CARD OF 'darkroomlaw04.InflateCut'. -/
def inflateCutCard : Claim7 := { stood := { row := inflateCutRow, standIns := [], harness := (true, "5752a827e2e3843824987649627a58ef56aaa3bc3e06070300a15737590c356d"), looks := true }, kinds := [], alts := [], laidByText := true, laidKinds := [.data], laidTests := true, laidLooks := .later }
def InflateCutCardSaid : Prop := Claim7.holds Tryd.pinned (.plain (OpenSpec.ofChange inflateCutSpec)) inflateCutCard

/-- THE TIED CARD OF 'darkroomlaw04.InflateWraps'. -/
def inflateWrapsCard : Claim7 := { stood := { row := inflateWrapsRow, standIns := [], harness := (true, "5752a827e2e3843824987649627a58ef56aaa3bc3e06070300a15737590c356d"), looks := true }, kinds := [], alts := [], laidByText := true, laidKinds := [.data], laidTests := true, laidLooks := .later }
def InflateWrapsCardSaid : Prop := Claim7.holds Tryd.pinned (.plain (OpenSpec.ofChange inflateWrapsSpec)) inflateWrapsCard

/-- THE TIED CARD OF 'darkroomlaw04.InflateOwn'. -/
def inflateOwnCard : Claim7 := { stood := { row := inflateOwnRow, standIns := [], harness := (true, "5752a827e2e3843824987649627a58ef56aaa3bc3e06070300a15737590c356d"), looks := true }, kinds := [], alts := [], laidByText := true, laidKinds := [.data], laidTests := true, laidLooks := .later }
def InflateOwnCardSaid : Prop := Claim7.holds Tryd.pinned (.plain (OpenSpec.ofChange inflateOwnSpec)) inflateOwnCard

/-- THE SECOND FORM's CARD OF 'darkroomlaw04.InflateReads'. -/
def inflateReadsUptoCard : Claim7 := { stood := { row := inflateReadsUptoRow, standIns := [], harness := (true, "5752a827e2e3843824987649627a58ef56aaa3bc3e06070300a15737590c356d"), looks := true }, kinds := [], alts := [], laidByText := true, laidKinds := [.data], laidTests := true, laidLooks := .later }
def InflateReadsUptoCardSaid : Prop := Claim7.holds Tryd.pinned (.plain (OpenSpec.upto inflateReadsSpec)) inflateReadsUptoCard

/-- THE SECOND FORM's CARD OF 'darkroomlaw04.InflateZlib'. -/
def inflateZlibUptoCard : Claim7 := { stood := { row := inflateZlibUptoRow, standIns := [], harness := (true, "5752a827e2e3843824987649627a58ef56aaa3bc3e06070300a15737590c356d"), looks := true }, kinds := [], alts := [], laidByText := true, laidKinds := [.data], laidTests := true, laidLooks := .later }
def InflateZlibUptoCardSaid : Prop := Claim7.holds Tryd.pinned (.plain (OpenSpec.upto inflateZlibSpec)) inflateZlibUptoCard

/-- THE SECOND FORM's CARD OF 'darkroomlaw04.InflateStored'. -/
def inflateStoredUptoCard : Claim7 := { stood := { row := inflateStoredUptoRow, standIns := [], harness := (true, "5752a827e2e3843824987649627a58ef56aaa3bc3e06070300a15737590c356d"), looks := true }, kinds := [], alts := [], laidByText := true, laidKinds := [.data], laidTests := true, laidLooks := .later }
def InflateStoredUptoCardSaid : Prop := Claim7.holds Tryd.pinned (.plain (OpenSpec.upto inflateStoredSpec)) inflateStoredUptoCard

/-- THE SECOND FORM's CARD OF 'darkroomlaw04.InflateCut'. -/
def inflateCutUptoCard : Claim7 := { stood := { row := inflateCutUptoRow, standIns := [], harness := (true, "5752a827e2e3843824987649627a58ef56aaa3bc3e06070300a15737590c356d"), looks := true }, kinds := [], alts := [], laidByText := true, laidKinds := [.data], laidTests := true, laidLooks := .later }
def InflateCutUptoCardSaid : Prop := Claim7.holds Tryd.pinned (.plain (OpenSpec.upto inflateCutSpec)) inflateCutUptoCard

/-- THE SECOND FORM's CARD OF 'darkroomlaw04.InflateWraps'. -/
def inflateWrapsUptoCard : Claim7 := { stood := { row := inflateWrapsUptoRow, standIns := [], harness := (true, "5752a827e2e3843824987649627a58ef56aaa3bc3e06070300a15737590c356d"), looks := true }, kinds := [], alts := [], laidByText := true, laidKinds := [.data], laidTests := true, laidLooks := .later }
def InflateWrapsUptoCardSaid : Prop := Claim7.holds Tryd.pinned (.plain (OpenSpec.upto inflateWrapsSpec)) inflateWrapsUptoCard

/-- THE SECOND FORM's CARD OF 'darkroomlaw04.InflateOwn'. -/
def inflateOwnUptoCard : Claim7 := { stood := { row := inflateOwnUptoRow, standIns := [], harness := (true, "5752a827e2e3843824987649627a58ef56aaa3bc3e06070300a15737590c356d"), looks := true }, kinds := [], alts := [], laidByText := true, laidKinds := [.data], laidTests := true, laidLooks := .later }
def InflateOwnUptoCardSaid : Prop := Claim7.holds Tryd.pinned (.plain (OpenSpec.upto inflateOwnSpec)) inflateOwnUptoCard
end Rows
end Go.Proofs.YtjaeiddfpclbkaaDoor
