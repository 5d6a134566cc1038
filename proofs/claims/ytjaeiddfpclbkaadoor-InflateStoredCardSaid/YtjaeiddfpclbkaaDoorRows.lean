/-
  NARROWER THAN 'FOR EVERY INPUT', by the rows' own cells (each row's printed sentence says how): InflateReads: laid · InflateZlib: laid · InflateStored: laid · InflateCut: laid · InflateWraps: laid · InflateOwn: laid.
  DERIVED. THE GIVEN ROWS OF THIS SEAT. 6 by the template 'for every input the law returns true; each argument reads behind the call as it read before'; 0 by the template 'total and deterministic' (their statements: YtjaeiddfpclbkaaDoorTotals.lean).
  GIVEN WITH THE SEED: the statements are not yours to turn. If you find one false, say at which input.
  Laid BY PROGRAM, IN A SANDBOX (cutbox-rows.mjs): the forced cells as the released guide's own fill.sh prints them over the translation 0b54bf2460124182… (all of the seat's roots in one cut). By AI agents, Wed Nov 11 2026. No macro, syntax, notation, axiom, sorry.
-/
import Derived.Test.YtjaeiddfpclbkaaDoorChecked
import GoSem.Claim
import GoSem.ClaimJoined
import GoSem.ClaimMapViews
import Derived.JoinedTies
import Derived.KernelRfl
namespace Go.Proofs.YtjaeiddfpclbkaaDoor
/- THE CELL 'sum', in the pinned program and in every row, IS THE sha256 OF THE DUMP (.gsa) THAT YtjaeiddfpclbkaaDoorProg.lean LOADS. Nothing in Lean hashes anything: it is a label: what it is worth is what the hold of that sum in a sandbox is worth. -/
noncomputable def Tryd.pinned : Pinned := { name := "ytjaeiddfpclbkaadoor", sum := "0b54bf2460124182703c1b7da168376d764ab41a29348a281bba1bda2081cf83", checked := Tryd.checked }
namespace Rows
def none {H : Type} : Left H := { results := [], args := [] }

/- WHAT THE LISTED PACKAGE-LEVEL VARIABLES READ AS WHEN THE CALL BEGINS. Each datum BY PROGRAM (the guide's laid-datum.mjs) off the statement by which the dump's own 'gosem.cut.vars' lays the variable. In a bare row this is a premise. The card (YtjaeiddfpclbkaaDoorCards.lean) ties it to the program's text. -/
def laid_darkroom_inflate_lengthsOrder {H : Type} : DataW H := .agg [.lit (.int .i64 16), .lit (.int .i64 17), .lit (.int .i64 18), .lit (.int .i64 0), .lit (.int .i64 8), .lit (.int .i64 7), .lit (.int .i64 9), .lit (.int .i64 6), .lit (.int .i64 10), .lit (.int .i64 5), .lit (.int .i64 11), .lit (.int .i64 4), .lit (.int .i64 12), .lit (.int .i64 3), .lit (.int .i64 13), .lit (.int .i64 2), .lit (.int .i64 14), .lit (.int .i64 1), .lit (.int .i64 15)]

/-- 'darkroomlaw04.InflateReads': WHATEVER THE INPUT: true; the input reads as it did. -/
def inflateReadsSpec : ChangeSpec := { name := "inflateReads", fn := fun _ => fun
  | [d1, d2] => { results := [.lit (.bool true)], args := [d1, d2] }
  | _ => none }
def inflateReadsRow : OpenClaim := { program := "ytjaeiddfpclbkaadoor", sum := "0b54bf2460124182703c1b7da168376d764ab41a29348a281bba1bda2081cf83", func := "darkroom/darkroomlaw04.InflateReads", spec := "inflateReads", unfollowed := true, recurses := true, named := ["darkroom/inflate.lengthsOrder"], apart := false, laid := [("darkroom/inflate.lengthsOrder", laid_darkroom_inflate_lengthsOrder)] }
def InflateReadsSaid : Prop := inflateReadsRow.holds Tryd.pinned (OpenSpec.ofChange inflateReadsSpec)

/-- ITS FALSE NEIGHBOUR: 'it returns false'. Refute it at one input. -/
def inflateReadsWrong : ChangeSpec := { name := "inflateReads", fn := fun _ => fun
  | [d1, d2] => { results := [.lit (.bool false)], args := [d1, d2] }
  | _ => none }
def InflateReadsWrongFalsely : Prop := inflateReadsRow.holds Tryd.pinned (OpenSpec.ofChange inflateReadsWrong)

/-- 'darkroomlaw04.InflateZlib': WHATEVER THE INPUT: true; the input reads as it did. -/
def inflateZlibSpec : ChangeSpec := { name := "inflateZlib", fn := fun _ => fun
  | [d1, d2] => { results := [.lit (.bool true)], args := [d1, d2] }
  | _ => none }
def inflateZlibRow : OpenClaim := { program := "ytjaeiddfpclbkaadoor", sum := "0b54bf2460124182703c1b7da168376d764ab41a29348a281bba1bda2081cf83", func := "darkroom/darkroomlaw04.InflateZlib", spec := "inflateZlib", unfollowed := true, recurses := true, named := ["darkroom/inflate.lengthsOrder"], apart := false, laid := [("darkroom/inflate.lengthsOrder", laid_darkroom_inflate_lengthsOrder)] }
def InflateZlibSaid : Prop := inflateZlibRow.holds Tryd.pinned (OpenSpec.ofChange inflateZlibSpec)

/-- ITS FALSE NEIGHBOUR: 'it returns false'. Refute it at one input. -/
def inflateZlibWrong : ChangeSpec := { name := "inflateZlib", fn := fun _ => fun
  | [d1, d2] => { results := [.lit (.bool false)], args := [d1, d2] }
  | _ => none }
def InflateZlibWrongFalsely : Prop := inflateZlibRow.holds Tryd.pinned (OpenSpec.ofChange inflateZlibWrong)

/-- 'darkroomlaw04.InflateStored': WHATEVER THE INPUT: true; the input reads as it did. -/
def inflateStoredSpec : ChangeSpec := { name := "inflateStored", fn := fun _ => fun
  | [d1, d2] => { results := [.lit (.bool true)], args := [d1, d2] }
  | _ => none }
def inflateStoredRow : OpenClaim := { program := "ytjaeiddfpclbkaadoor", sum := "0b54bf2460124182703c1b7da168376d764ab41a29348a281bba1bda2081cf83", func := "darkroom/darkroomlaw04.InflateStored", spec := "inflateStored", unfollowed := true, recurses := true, named := ["darkroom/inflate.lengthsOrder"], apart := false, laid := [("darkroom/inflate.lengthsOrder", laid_darkroom_inflate_lengthsOrder)] }
def InflateStoredSaid : Prop := inflateStoredRow.holds Tryd.pinned (OpenSpec.ofChange inflateStoredSpec)

/-- ITS FALSE NEIGHBOUR: 'it returns false'. Refute it at one input. -/
def inflateStoredWrong : ChangeSpec := { name := "inflateStored", fn := fun _ => fun
  | [d1, d2] => { results := [.lit (.bool false)], args := [d1, d2] }
  | _ => none }
def InflateStoredWrongFalsely : Prop := inflateStoredRow.holds Tryd.pinned (OpenSpec.ofChange inflateStoredWrong)

/-- 'darkroomlaw04.InflateCut': WHATEVER THE INPUT: true; the input reads as it did. -/
def inflateCutSpec : ChangeSpec := { name := "inflateCut", fn := fun _ => fun
  | [d1, d2, d3] => { results := [.lit (.bool true)], args := [d1, d2, d3] }
  | _ => none }
def inflateCutRow : OpenClaim := { program := "ytjaeiddfpclbkaadoor", sum := "0b54bf2460124182703c1b7da168376d764ab41a29348a281bba1bda2081cf83", func := "darkroom/darkroomlaw04.InflateCut", spec := "inflateCut", unfollowed := true, recurses := true, named := ["darkroom/inflate.lengthsOrder"], apart := false, laid := [("darkroom/inflate.lengthsOrder", laid_darkroom_inflate_lengthsOrder)] }
def InflateCutSaid : Prop := inflateCutRow.holds Tryd.pinned (OpenSpec.ofChange inflateCutSpec)

/-- ITS FALSE NEIGHBOUR: 'it returns false'. Refute it at one input. -/
def inflateCutWrong : ChangeSpec := { name := "inflateCut", fn := fun _ => fun
  | [d1, d2, d3] => { results := [.lit (.bool false)], args := [d1, d2, d3] }
  | _ => none }
def InflateCutWrongFalsely : Prop := inflateCutRow.holds Tryd.pinned (OpenSpec.ofChange inflateCutWrong)

/-- 'darkroomlaw04.InflateWraps': WHATEVER THE INPUT: true; the input reads as it did. -/
def inflateWrapsSpec : ChangeSpec := { name := "inflateWraps", fn := fun _ => fun
  | [d1, d2] => { results := [.lit (.bool true)], args := [d1, d2] }
  | _ => none }
def inflateWrapsRow : OpenClaim := { program := "ytjaeiddfpclbkaadoor", sum := "0b54bf2460124182703c1b7da168376d764ab41a29348a281bba1bda2081cf83", func := "darkroom/darkroomlaw04.InflateWraps", spec := "inflateWraps", unfollowed := true, recurses := true, named := ["darkroom/inflate.lengthsOrder"], apart := false, laid := [("darkroom/inflate.lengthsOrder", laid_darkroom_inflate_lengthsOrder)] }
def InflateWrapsSaid : Prop := inflateWrapsRow.holds Tryd.pinned (OpenSpec.ofChange inflateWrapsSpec)

/-- ITS FALSE NEIGHBOUR: 'it returns false'. Refute it at one input. -/
def inflateWrapsWrong : ChangeSpec := { name := "inflateWraps", fn := fun _ => fun
  | [d1, d2] => { results := [.lit (.bool false)], args := [d1, d2] }
  | _ => none }
def InflateWrapsWrongFalsely : Prop := inflateWrapsRow.holds Tryd.pinned (OpenSpec.ofChange inflateWrapsWrong)

/-- 'darkroomlaw04.InflateOwn': WHATEVER THE INPUT: true; the input reads as it did. -/
def inflateOwnSpec : ChangeSpec := { name := "inflateOwn", fn := fun _ => fun
  | [d1, d2] => { results := [.lit (.bool true)], args := [d1, d2] }
  | _ => none }
def inflateOwnRow : OpenClaim := { program := "ytjaeiddfpclbkaadoor", sum := "0b54bf2460124182703c1b7da168376d764ab41a29348a281bba1bda2081cf83", func := "darkroom/darkroomlaw04.InflateOwn", spec := "inflateOwn", unfollowed := true, recurses := true, named := ["darkroom/inflate.lengthsOrder"], apart := false, laid := [("darkroom/inflate.lengthsOrder", laid_darkroom_inflate_lengthsOrder)] }
def InflateOwnSaid : Prop := inflateOwnRow.holds Tryd.pinned (OpenSpec.ofChange inflateOwnSpec)

/-- ITS FALSE NEIGHBOUR: 'it returns false'. Refute it at one input. -/
def inflateOwnWrong : ChangeSpec := { name := "inflateOwn", fn := fun _ => fun
  | [d1, d2] => { results := [.lit (.bool false)], args := [d1, d2] }
  | _ => none }
def InflateOwnWrongFalsely : Prop := inflateOwnRow.holds Tryd.pinned (OpenSpec.ofChange inflateOwnWrong)

/- THE SECOND FORM. 'bulk': how many values and letters a reading holds, each counted each time it is reached (what is shared counts as often as it is met; a slice's spare places count too). A statement '..UptoSaid' is the law's where the arguments, and the package variables that the reading takes, are together of bulk at most 1048576: NARROWER than '..Said'. Prove '..Said' where nothing that the law and all that it calls make is longer than what came in: it says more and counts as full. Else prove '..UptoSaid'. A law counts once. -/
mutual
def uptoBulk {H : Type} : DataW H → Nat
  | .lit (.string bytes) => bytes.length + 1
  | .lit _ => 1
  | .nil => 1
  | .ptr d => uptoBulk d + 1
  | .slice elems spare => uptoBulkAll elems + uptoBulkAll spare + 1
  | .agg parts => uptoBulkAll parts + 1
  | .iface _ d => uptoBulk d + 1
  | .map entries => uptoBulkEntries entries + 1
  | .held _ => 1
def uptoBulkAll {H : Type} : List (DataW H) → Nat
  | [] => 0
  | d :: r => uptoBulk d + uptoBulkAll r
def uptoBulkEntries {H : Type} : List (Lit × DataW H) → Nat
  | [] => 0
  | x :: r => uptoBulkEntry x + uptoBulkEntries r
def uptoBulkEntry {H : Type} : Lit × DataW H → Nat
  | (.string bytes, d) => bytes.length + uptoBulk d + 1
  | (_, d) => uptoBulk d + 1
 end
def uptoSmall : (H : Type) → List (DataW H) → Bool := fun _ ds => decide (uptoBulkAll ds ≤ 1048576)
def OpenSpec.upto (s : _root_.Go.ChangeSpec) : _root_.Go.OpenSpec := { _root_.Go.OpenSpec.ofChange s with cond := some uptoSmall }

/-- 'darkroomlaw04.InflateReads', WHERE WHAT IT READS IS OF BULK AT MOST 1048576: true; the input reads as it did. -/
def inflateReadsUptoRow : OpenClaim := { program := "ytjaeiddfpclbkaadoor", sum := "0b54bf2460124182703c1b7da168376d764ab41a29348a281bba1bda2081cf83", func := "darkroom/darkroomlaw04.InflateReads", spec := "inflateReads", unfollowed := true, recurses := true, named := ["darkroom/inflate.lengthsOrder"], apart := false, laid := [("darkroom/inflate.lengthsOrder", laid_darkroom_inflate_lengthsOrder)], narrowed := true }
def InflateReadsUptoSaid : Prop := inflateReadsUptoRow.holds Tryd.pinned (OpenSpec.upto inflateReadsSpec)

/-- 'darkroomlaw04.InflateZlib', WHERE WHAT IT READS IS OF BULK AT MOST 1048576: true; the input reads as it did. -/
def inflateZlibUptoRow : OpenClaim := { program := "ytjaeiddfpclbkaadoor", sum := "0b54bf2460124182703c1b7da168376d764ab41a29348a281bba1bda2081cf83", func := "darkroom/darkroomlaw04.InflateZlib", spec := "inflateZlib", unfollowed := true, recurses := true, named := ["darkroom/inflate.lengthsOrder"], apart := false, laid := [("darkroom/inflate.lengthsOrder", laid_darkroom_inflate_lengthsOrder)], narrowed := true }
def InflateZlibUptoSaid : Prop := inflateZlibUptoRow.holds Tryd.pinned (OpenSpec.upto inflateZlibSpec)

/-- 'darkroomlaw04.InflateStored', WHERE WHAT IT READS IS OF BULK AT MOST 1048576: true; the input reads as it did. -/
def inflateStoredUptoRow : OpenClaim := { program := "ytjaeiddfpclbkaadoor", sum := "0b54bf2460124182703c1b7da168376d764ab41a29348a281bba1bda2081cf83", func := "darkroom/darkroomlaw04.InflateStored", spec := "inflateStored", unfollowed := true, recurses := true, named := ["darkroom/inflate.lengthsOrder"], apart := false, laid := [("darkroom/inflate.lengthsOrder", laid_darkroom_inflate_lengthsOrder)], narrowed := true }
def InflateStoredUptoSaid : Prop := inflateStoredUptoRow.holds Tryd.pinned (OpenSpec.upto inflateStoredSpec)

/-- 'darkroomlaw04.InflateCut', WHERE WHAT IT READS IS OF BULK AT MOST 1048576: true; the input reads as it did. -/
def inflateCutUptoRow : OpenClaim := { program := "ytjaeiddfpclbkaadoor", sum := "0b54bf2460124182703c1b7da168376d764ab41a29348a281bba1bda2081cf83", func := "darkroom/darkroomlaw04.InflateCut", spec := "inflateCut", unfollowed := true, recurses := true, named := ["darkroom/inflate.lengthsOrder"], apart := false, laid := [("darkroom/inflate.lengthsOrder", laid_darkroom_inflate_lengthsOrder)], narrowed := true }
def InflateCutUptoSaid : Prop := inflateCutUptoRow.holds Tryd.pinned (OpenSpec.upto inflateCutSpec)

/-- 'darkroomlaw04.InflateWraps', WHERE WHAT IT READS IS OF BULK AT MOST 1048576: true; the input reads as it did. -/
def inflateWrapsUptoRow : OpenClaim := { program := "ytjaeiddfpclbkaadoor", sum := "0b54bf2460124182703c1b7da168376d764ab41a29348a281bba1bda2081cf83", func := "darkroom/darkroomlaw04.InflateWraps", spec := "inflateWraps", unfollowed := true, recurses := true, named := ["darkroom/inflate.lengthsOrder"], apart := false, laid := [("darkroom/inflate.lengthsOrder", laid_darkroom_inflate_lengthsOrder)], narrowed := true }
def InflateWrapsUptoSaid : Prop := inflateWrapsUptoRow.holds Tryd.pinned (OpenSpec.upto inflateWrapsSpec)

/-- 'darkroomlaw04.InflateOwn', WHERE WHAT IT READS IS OF BULK AT MOST 1048576: true; the input reads as it did. -/
def inflateOwnUptoRow : OpenClaim := { program := "ytjaeiddfpclbkaadoor", sum := "0b54bf2460124182703c1b7da168376d764ab41a29348a281bba1bda2081cf83", func := "darkroom/darkroomlaw04.InflateOwn", spec := "inflateOwn", unfollowed := true, recurses := true, named := ["darkroom/inflate.lengthsOrder"], apart := false, laid := [("darkroom/inflate.lengthsOrder", laid_darkroom_inflate_lengthsOrder)], narrowed := true }
def InflateOwnUptoSaid : Prop := inflateOwnUptoRow.holds Tryd.pinned (OpenSpec.upto inflateOwnSpec)

end Rows
end Go.Proofs.YtjaeiddfpclbkaaDoor
