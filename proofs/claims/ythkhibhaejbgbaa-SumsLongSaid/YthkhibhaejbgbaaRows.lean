/-
  No cell of these rows narrows 'for every input' (looked for: loops, veiled, ifaces, maps, wideKeys, modest, calm, conditions, laid).
  DERIVED. THE GIVEN ROWS OF THIS SEAT. 5 by the template 'for every input the law returns true; each argument reads behind the call as it read before'; 0 by the template 'total and deterministic' (their statements: YthkhibhaejbgbaaTotals.lean).
  GIVEN WITH THE SEED: the statements are not yours to turn. If you find one false, say at which input.
  Laid BY PROGRAM, IN A SANDBOX (cutbox-rows.mjs): the forced cells as the released guide's own fill.sh prints them over the translation 5d5e731a4a3f7a7a… (all of the seat's roots in one cut). By AI agents, Wed Nov 11 2026. No macro, syntax, notation, axiom, sorry.
-/
import Derived.Test.YthkhibhaejbgbaaChecked
import GoSem.Claim
import GoSem.ClaimJoined
import GoSem.ClaimMapViews
import Derived.JoinedTies
import Derived.KernelRfl
namespace Go.Proofs.Ythkhibhaejbgbaa
/- THE CELL 'sum', in the pinned program and in every row, IS THE sha256 OF THE DUMP (.gsa) THAT YthkhibhaejbgbaaProg.lean LOADS. Nothing in Lean hashes anything: it is a label: what it is worth is what the hold of that sum in a sandbox is worth. -/
noncomputable def Try.pinned : Pinned := { name := "ythkhibhaejbgbaa", sum := "5d5e731a4a3f7a7a7f474c012d3d8f64c7c959db31854ef6bf680545f69c1ba2", checked := Try.checked }
namespace Rows
def none {H : Type} : Left H := { results := [], args := [] }

/-- 'darkroomlaw02.SumsCrc': WHATEVER THE INPUT: true; the input reads as it did. -/
def sumsCrcSpec : ChangeSpec := { name := "sumsCrc", fn := fun _ => fun
  | [d1, d2] => { results := [.lit (.bool true)], args := [d1, d2] }
  | _ => none }
def sumsCrcRow : OpenClaim := { program := "ythkhibhaejbgbaa", sum := "5d5e731a4a3f7a7a7f474c012d3d8f64c7c959db31854ef6bf680545f69c1ba2", func := "darkroom/darkroomlaw02.SumsCrc", spec := "sumsCrc", apart := false }
def SumsCrcSaid : Prop := sumsCrcRow.holds Try.pinned (OpenSpec.ofChange sumsCrcSpec)

/-- ITS FALSE NEIGHBOUR: 'it returns false'. Refute it at one input. -/
def sumsCrcWrong : ChangeSpec := { name := "sumsCrc", fn := fun _ => fun
  | [d1, d2] => { results := [.lit (.bool false)], args := [d1, d2] }
  | _ => none }
def SumsCrcWrongFalsely : Prop := sumsCrcRow.holds Try.pinned (OpenSpec.ofChange sumsCrcWrong)

/-- 'darkroomlaw02.SumsAdler': WHATEVER THE INPUT: true; the input reads as it did. -/
def sumsAdlerSpec : ChangeSpec := { name := "sumsAdler", fn := fun _ => fun
  | [d1, d2] => { results := [.lit (.bool true)], args := [d1, d2] }
  | _ => none }
def sumsAdlerRow : OpenClaim := { program := "ythkhibhaejbgbaa", sum := "5d5e731a4a3f7a7a7f474c012d3d8f64c7c959db31854ef6bf680545f69c1ba2", func := "darkroom/darkroomlaw02.SumsAdler", spec := "sumsAdler", apart := false }
def SumsAdlerSaid : Prop := sumsAdlerRow.holds Try.pinned (OpenSpec.ofChange sumsAdlerSpec)

/-- ITS FALSE NEIGHBOUR: 'it returns false'. Refute it at one input. -/
def sumsAdlerWrong : ChangeSpec := { name := "sumsAdler", fn := fun _ => fun
  | [d1, d2] => { results := [.lit (.bool false)], args := [d1, d2] }
  | _ => none }
def SumsAdlerWrongFalsely : Prop := sumsAdlerRow.holds Try.pinned (OpenSpec.ofChange sumsAdlerWrong)

/-- 'darkroomlaw02.SumsOn': WHATEVER THE INPUT: true; the input reads as it did. -/
def sumsOnSpec : ChangeSpec := { name := "sumsOn", fn := fun _ => fun
  | [d1, d2] => { results := [.lit (.bool true)], args := [d1, d2] }
  | _ => none }
def sumsOnRow : OpenClaim := { program := "ythkhibhaejbgbaa", sum := "5d5e731a4a3f7a7a7f474c012d3d8f64c7c959db31854ef6bf680545f69c1ba2", func := "darkroom/darkroomlaw02.SumsOn", spec := "sumsOn", apart := false }
def SumsOnSaid : Prop := sumsOnRow.holds Try.pinned (OpenSpec.ofChange sumsOnSpec)

/-- ITS FALSE NEIGHBOUR: 'it returns false'. Refute it at one input. -/
def sumsOnWrong : ChangeSpec := { name := "sumsOn", fn := fun _ => fun
  | [d1, d2] => { results := [.lit (.bool false)], args := [d1, d2] }
  | _ => none }
def SumsOnWrongFalsely : Prop := sumsOnRow.holds Try.pinned (OpenSpec.ofChange sumsOnWrong)

/-- 'darkroomlaw02.SumsTell': WHATEVER THE INPUT: true; the input reads as it did. -/
def sumsTellSpec : ChangeSpec := { name := "sumsTell", fn := fun _ => fun
  | [d1, d2, d3] => { results := [.lit (.bool true)], args := [d1, d2, d3] }
  | _ => none }
def sumsTellRow : OpenClaim := { program := "ythkhibhaejbgbaa", sum := "5d5e731a4a3f7a7a7f474c012d3d8f64c7c959db31854ef6bf680545f69c1ba2", func := "darkroom/darkroomlaw02.SumsTell", spec := "sumsTell", apart := false }
def SumsTellSaid : Prop := sumsTellRow.holds Try.pinned (OpenSpec.ofChange sumsTellSpec)

/-- ITS FALSE NEIGHBOUR: 'it returns false'. Refute it at one input. -/
def sumsTellWrong : ChangeSpec := { name := "sumsTell", fn := fun _ => fun
  | [d1, d2, d3] => { results := [.lit (.bool false)], args := [d1, d2, d3] }
  | _ => none }
def SumsTellWrongFalsely : Prop := sumsTellRow.holds Try.pinned (OpenSpec.ofChange sumsTellWrong)

/-- 'darkroomlaw02.SumsLong': WHATEVER THE INPUT: true; the input reads as it did. -/
def sumsLongSpec : ChangeSpec := { name := "sumsLong", fn := fun _ => fun
  | [d1, d2] => { results := [.lit (.bool true)], args := [d1, d2] }
  | _ => none }
def sumsLongRow : OpenClaim := { program := "ythkhibhaejbgbaa", sum := "5d5e731a4a3f7a7a7f474c012d3d8f64c7c959db31854ef6bf680545f69c1ba2", func := "darkroom/darkroomlaw02.SumsLong", spec := "sumsLong", apart := false }
def SumsLongSaid : Prop := sumsLongRow.holds Try.pinned (OpenSpec.ofChange sumsLongSpec)

/-- ITS FALSE NEIGHBOUR: 'it returns false'. Refute it at one input. -/
def sumsLongWrong : ChangeSpec := { name := "sumsLong", fn := fun _ => fun
  | [d1, d2] => { results := [.lit (.bool false)], args := [d1, d2] }
  | _ => none }
def SumsLongWrongFalsely : Prop := sumsLongRow.holds Try.pinned (OpenSpec.ofChange sumsLongWrong)

/- THE SECOND FORM. 'bulk': how many values and letters a reading holds, each counted each time it is reached (what is shared counts as often as it is met; a slice's spare places count too). A statement '..UptoSaid' is the law's where the arguments, and the package variables that the reading takes, are together of bulk at most 1048576: NARROWER than '..Said'. Prove '..Said' where nothing that the law and all that it calls make is longer than what came in: it says more and counts as full. Else prove '..UptoSaid'. A law counts once. -/
mutual
def uptoBulk {H : Type} : DataW H → Nat
  | .lit (.string bytes) => bytes.length + 1
  | .lit _ => 1
  | .nil => 1
  | .ptr d => uptoBulk d + 1
  | .slice elems spare => uptoBulkAll elems + uptoBulkAll spare + 1
  | .agg parts => uptoBulkAll parts + 1
  | .iface _ d => uptoBulk d + 1
  | .map entries => uptoBulkEntries entries + 1
  | .held _ => 1
def uptoBulkAll {H : Type} : List (DataW H) → Nat
  | [] => 0
  | d :: r => uptoBulk d + uptoBulkAll r
def uptoBulkEntries {H : Type} : List (Lit × DataW H) → Nat
  | [] => 0
  | x :: r => uptoBulkEntry x + uptoBulkEntries r
def uptoBulkEntry {H : Type} : Lit × DataW H → Nat
  | (.string bytes, d) => bytes.length + uptoBulk d + 1
  | (_, d) => uptoBulk d + 1
 end
def uptoSmall : (H : Type) → List (DataW H) → Bool := fun _ ds => decide (uptoBulkAll ds ≤ 1048576)
def OpenSpec.upto (s : _root_.Go.ChangeSpec) : _root_.Go.OpenSpec := { _root_.Go.OpenSpec.ofChange s with cond := some uptoSmall }

/-- 'darkroomlaw02.SumsCrc', WHERE WHAT IT READS IS OF BULK AT MOST 1048576: true; the input reads as it did. -/
def sumsCrcUptoRow : OpenClaim := { program := "ythkhibhaejbgbaa", sum := "5d5e731a4a3f7a7a7f474c012d3d8f64c7c959db31854ef6bf680545f69c1ba2", func := "darkroom/darkroomlaw02.SumsCrc", spec := "sumsCrc", apart := false, narrowed := true }
def SumsCrcUptoSaid : Prop := sumsCrcUptoRow.holds Try.pinned (OpenSpec.upto sumsCrcSpec)

/-- 'darkroomlaw02.SumsAdler', WHERE WHAT IT READS IS OF BULK AT MOST 1048576: true; the input reads as it did. -/
def sumsAdlerUptoRow : OpenClaim := { program := "ythkhibhaejbgbaa", sum := "5d5e731a4a3f7a7a7f474c012d3d8f64c7c959db31854ef6bf680545f69c1ba2", func := "darkroom/darkroomlaw02.SumsAdler", spec := "sumsAdler", apart := false, narrowed := true }
def SumsAdlerUptoSaid : Prop := sumsAdlerUptoRow.holds Try.pinned (OpenSpec.upto sumsAdlerSpec)

/-- 'darkroomlaw02.SumsOn', WHERE WHAT IT READS IS OF BULK AT MOST 1048576: true; the input reads as it did. -/
def sumsOnUptoRow : OpenClaim := { program := "ythkhibhaejbgbaa", sum := "5d5e731a4a3f7a7a7f474c012d3d8f64c7c959db31854ef6bf680545f69c1ba2", func := "darkroom/darkroomlaw02.SumsOn", spec := "sumsOn", apart := false, narrowed := true }
def SumsOnUptoSaid : Prop := sumsOnUptoRow.holds Try.pinned (OpenSpec.upto sumsOnSpec)

/-- 'darkroomlaw02.SumsTell', WHERE WHAT IT READS IS OF BULK AT MOST 1048576: true; the input reads as it did. -/
def sumsTellUptoRow : OpenClaim := { program := "ythkhibhaejbgbaa", sum := "5d5e731a4a3f7a7a7f474c012d3d8f64c7c959db31854ef6bf680545f69c1ba2", func := "darkroom/darkroomlaw02.SumsTell", spec := "sumsTell", apart := false, narrowed := true }
def SumsTellUptoSaid : Prop := sumsTellUptoRow.holds Try.pinned (OpenSpec.upto sumsTellSpec)

/-- 'darkroomlaw02.SumsLong', WHERE WHAT IT READS IS OF BULK AT MOST 1048576: true; the input reads as it did. -/
def sumsLongUptoRow : OpenClaim := { program := "ythkhibhaejbgbaa", sum := "5d5e731a4a3f7a7a7f474c012d3d8f64c7c959db31854ef6bf680545f69c1ba2", func := "darkroom/darkroomlaw02.SumsLong", spec := "sumsLong", apart := false, narrowed := true }
def SumsLongUptoSaid : Prop := sumsLongUptoRow.holds Try.pinned (OpenSpec.upto sumsLongSpec)

end Rows
end Go.Proofs.Ythkhibhaejbgbaa
