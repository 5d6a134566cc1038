/-
  No cell of these rows narrows 'for every input' (looked for: loops, veiled, ifaces, maps, wideKeys, modest, calm, conditions, laid).
  DERIVED. THE GIVEN ROWS OF THIS SEAT. 6 by the template 'for every input the law returns true; each argument reads behind the call as it read before'; 0 by the template 'total and deterministic' (their statements: YtibgjklfbfahfaaTotals.lean).
  GIVEN WITH THE SEED: the statements are not yours to turn. If you find one false, say at which input.
  Laid BY PROGRAM, IN A SANDBOX (cutbox-rows.mjs): the forced cells as the released guide's own fill.sh prints them over the translation 36bdaac6a08d7c81… (all of the seat's roots in one cut). By AI agents, Wed Nov 11 2026. No macro, syntax, notation, axiom, sorry.
-/
import Derived.Test.YtibgjklfbfahfaaChecked
import GoSem.Claim
import GoSem.ClaimJoined
import GoSem.ClaimMapViews
import Derived.JoinedTies
import Derived.KernelRfl
namespace Go.Proofs.Ytibgjklfbfahfaa
/- THE CELL 'sum', in the pinned program and in every row, IS THE sha256 OF THE DUMP (.gsa) THAT YtibgjklfbfahfaaProg.lean LOADS. Nothing in Lean hashes anything: it is a label: what it is worth is what the hold of that sum in a sandbox is worth. -/
noncomputable def Try.pinned : Pinned := { name := "ytibgjklfbfahfaa", sum := "36bdaac6a08d7c81a425a345345b9f557036078eed9f4adfbe74c66a23bf5aed", checked := Try.checked }
namespace Rows
def none {H : Type} : Left H := { results := [], args := [] }

/-- 'darkroomlaw08.TonesScales': WHATEVER THE INPUT: true; the input reads as it did. -/
def tonesScalesSpec : ChangeSpec := { name := "tonesScales", fn := fun _ => fun
  | [d1, d2, d3] => { results := [.lit (.bool true)], args := [d1, d2, d3] }
  | _ => none }
def tonesScalesRow : OpenClaim := { program := "ytibgjklfbfahfaa", sum := "36bdaac6a08d7c81a425a345345b9f557036078eed9f4adfbe74c66a23bf5aed", func := "darkroom/darkroomlaw08.TonesScales", spec := "tonesScales", apart := false }
def TonesScalesSaid : Prop := tonesScalesRow.holds Try.pinned (OpenSpec.ofChange tonesScalesSpec)

/-- ITS FALSE NEIGHBOUR: 'it returns false'. Refute it at one input. -/
def tonesScalesWrong : ChangeSpec := { name := "tonesScales", fn := fun _ => fun
  | [d1, d2, d3] => { results := [.lit (.bool false)], args := [d1, d2, d3] }
  | _ => none }
def TonesScalesWrongFalsely : Prop := tonesScalesRow.holds Try.pinned (OpenSpec.ofChange tonesScalesWrong)

/-- 'darkroomlaw08.TonesBack': WHATEVER THE INPUT: true; the input reads as it did. -/
def tonesBackSpec : ChangeSpec := { name := "tonesBack", fn := fun _ => fun
  | [d1, d2, d3] => { results := [.lit (.bool true)], args := [d1, d2, d3] }
  | _ => none }
def tonesBackRow : OpenClaim := { program := "ytibgjklfbfahfaa", sum := "36bdaac6a08d7c81a425a345345b9f557036078eed9f4adfbe74c66a23bf5aed", func := "darkroom/darkroomlaw08.TonesBack", spec := "tonesBack", apart := false }
def TonesBackSaid : Prop := tonesBackRow.holds Try.pinned (OpenSpec.ofChange tonesBackSpec)

/-- ITS FALSE NEIGHBOUR: 'it returns false'. Refute it at one input. -/
def tonesBackWrong : ChangeSpec := { name := "tonesBack", fn := fun _ => fun
  | [d1, d2, d3] => { results := [.lit (.bool false)], args := [d1, d2, d3] }
  | _ => none }
def TonesBackWrongFalsely : Prop := tonesBackRow.holds Try.pinned (OpenSpec.ofChange tonesBackWrong)

/-- 'darkroomlaw08.TonesLuma': WHATEVER THE INPUT: true; the input reads as it did. -/
def tonesLumaSpec : ChangeSpec := { name := "tonesLuma", fn := fun _ => fun
  | [d] => { results := [.lit (.bool true)], args := [d] }
  | _ => none }
def tonesLumaRow : OpenClaim := { program := "ytibgjklfbfahfaa", sum := "36bdaac6a08d7c81a425a345345b9f557036078eed9f4adfbe74c66a23bf5aed", func := "darkroom/darkroomlaw08.TonesLuma", spec := "tonesLuma", apart := false }
def TonesLumaSaid : Prop := tonesLumaRow.holds Try.pinned (OpenSpec.ofChange tonesLumaSpec)

/-- ITS FALSE NEIGHBOUR: 'it returns false'. Refute it at one input. -/
def tonesLumaWrong : ChangeSpec := { name := "tonesLuma", fn := fun _ => fun
  | [d] => { results := [.lit (.bool false)], args := [d] }
  | _ => none }
def TonesLumaWrongFalsely : Prop := tonesLumaRow.holds Try.pinned (OpenSpec.ofChange tonesLumaWrong)

/-- 'darkroomlaw08.TonesChroma': WHATEVER THE INPUT: true; the input reads as it did. -/
def tonesChromaSpec : ChangeSpec := { name := "tonesChroma", fn := fun _ => fun
  | [d] => { results := [.lit (.bool true)], args := [d] }
  | _ => none }
def tonesChromaRow : OpenClaim := { program := "ytibgjklfbfahfaa", sum := "36bdaac6a08d7c81a425a345345b9f557036078eed9f4adfbe74c66a23bf5aed", func := "darkroom/darkroomlaw08.TonesChroma", spec := "tonesChroma", apart := false }
def TonesChromaSaid : Prop := tonesChromaRow.holds Try.pinned (OpenSpec.ofChange tonesChromaSpec)

/-- ITS FALSE NEIGHBOUR: 'it returns false'. Refute it at one input. -/
def tonesChromaWrong : ChangeSpec := { name := "tonesChroma", fn := fun _ => fun
  | [d] => { results := [.lit (.bool false)], args := [d] }
  | _ => none }
def TonesChromaWrongFalsely : Prop := tonesChromaRow.holds Try.pinned (OpenSpec.ofChange tonesChromaWrong)

/-- 'darkroomlaw08.TonesNear': WHATEVER THE INPUT: true; the input reads as it did. -/
def tonesNearSpec : ChangeSpec := { name := "tonesNear", fn := fun _ => fun
  | [d] => { results := [.lit (.bool true)], args := [d] }
  | _ => none }
def tonesNearRow : OpenClaim := { program := "ytibgjklfbfahfaa", sum := "36bdaac6a08d7c81a425a345345b9f557036078eed9f4adfbe74c66a23bf5aed", func := "darkroom/darkroomlaw08.TonesNear", spec := "tonesNear", apart := false }
def TonesNearSaid : Prop := tonesNearRow.holds Try.pinned (OpenSpec.ofChange tonesNearSpec)

/-- ITS FALSE NEIGHBOUR: 'it returns false'. Refute it at one input. -/
def tonesNearWrong : ChangeSpec := { name := "tonesNear", fn := fun _ => fun
  | [d] => { results := [.lit (.bool false)], args := [d] }
  | _ => none }
def TonesNearWrongFalsely : Prop := tonesNearRow.holds Try.pinned (OpenSpec.ofChange tonesNearWrong)

/-- 'darkroomlaw08.TonesNearest': WHATEVER THE INPUT: true; the input reads as it did. -/
def tonesNearestSpec : ChangeSpec := { name := "tonesNearest", fn := fun _ => fun
  | [d1, d2] => { results := [.lit (.bool true)], args := [d1, d2] }
  | _ => none }
def tonesNearestRow : OpenClaim := { program := "ytibgjklfbfahfaa", sum := "36bdaac6a08d7c81a425a345345b9f557036078eed9f4adfbe74c66a23bf5aed", func := "darkroom/darkroomlaw08.TonesNearest", spec := "tonesNearest", apart := false }
def TonesNearestSaid : Prop := tonesNearestRow.holds Try.pinned (OpenSpec.ofChange tonesNearestSpec)

/-- ITS FALSE NEIGHBOUR: 'it returns false'. Refute it at one input. -/
def tonesNearestWrong : ChangeSpec := { name := "tonesNearest", fn := fun _ => fun
  | [d1, d2] => { results := [.lit (.bool false)], args := [d1, d2] }
  | _ => none }
def TonesNearestWrongFalsely : Prop := tonesNearestRow.holds Try.pinned (OpenSpec.ofChange tonesNearestWrong)

/- THE SECOND FORM. 'bulk': how many values and letters a reading holds, each counted each time it is reached (what is shared counts as often as it is met; a slice's spare places count too). A statement '..UptoSaid' is the law's where the arguments, and the package variables that the reading takes, are together of bulk at most 1048576: NARROWER than '..Said'. Prove '..Said' where nothing that the law and all that it calls make is longer than what came in: it says more and counts as full. Else prove '..UptoSaid'. A law counts once. -/
mutual
def uptoBulk {H : Type} : DataW H → Nat
  | .lit (.string bytes) => bytes.length + 1
  | .lit _ => 1
  | .nil => 1
  | .ptr d => uptoBulk d + 1
  | .slice elems spare => uptoBulkAll elems + uptoBulkAll spare + 1
  | .agg parts => uptoBulkAll parts + 1
  | .iface _ d => uptoBulk d + 1
  | .map entries => uptoBulkEntries entries + 1
  | .held _ => 1
def uptoBulkAll {H : Type} : List (DataW H) → Nat
  | [] => 0
  | d :: r => uptoBulk d + uptoBulkAll r
def uptoBulkEntries {H : Type} : List (Lit × DataW H) → Nat
  | [] => 0
  | x :: r => uptoBulkEntry x + uptoBulkEntries r
def uptoBulkEntry {H : Type} : Lit × DataW H → Nat
  | (.string bytes, d) => bytes.length + uptoBulk d + 1
  | (_, d) => uptoBulk d + 1
 end
def uptoSmall : (H : Type) → List (DataW H) → Bool := fun _ ds => decide (uptoBulkAll ds ≤ 1048576)
def OpenSpec.upto (s : _root_.Go.ChangeSpec) : _root_.Go.OpenSpec := { _root_.Go.OpenSpec.ofChange s with cond := some uptoSmall }

/-- 'darkroomlaw08.TonesScales', WHERE WHAT IT READS IS OF BULK AT MOST 1048576: true; the input reads as it did. -/
def tonesScalesUptoRow : OpenClaim := { program := "ytibgjklfbfahfaa", sum := "36bdaac6a08d7c81a425a345345b9f557036078eed9f4adfbe74c66a23bf5aed", func := "darkroom/darkroomlaw08.TonesScales", spec := "tonesScales", apart := false, narrowed := true }
def TonesScalesUptoSaid : Prop := tonesScalesUptoRow.holds Try.pinned (OpenSpec.upto tonesScalesSpec)

/-- 'darkroomlaw08.TonesBack', WHERE WHAT IT READS IS OF BULK AT MOST 1048576: true; the input reads as it did. -/
def tonesBackUptoRow : OpenClaim := { program := "ytibgjklfbfahfaa", sum := "36bdaac6a08d7c81a425a345345b9f557036078eed9f4adfbe74c66a23bf5aed", func := "darkroom/darkroomlaw08.TonesBack", spec := "tonesBack", apart := false, narrowed := true }
def TonesBackUptoSaid : Prop := tonesBackUptoRow.holds Try.pinned (OpenSpec.upto tonesBackSpec)

/-- 'darkroomlaw08.TonesLuma', WHERE WHAT IT READS IS OF BULK AT MOST 1048576: true; the input reads as it did. -/
def tonesLumaUptoRow : OpenClaim := { program := "ytibgjklfbfahfaa", sum := "36bdaac6a08d7c81a425a345345b9f557036078eed9f4adfbe74c66a23bf5aed", func := "darkroom/darkroomlaw08.TonesLuma", spec := "tonesLuma", apart := false, narrowed := true }
def TonesLumaUptoSaid : Prop := tonesLumaUptoRow.holds Try.pinned (OpenSpec.upto tonesLumaSpec)

/-- 'darkroomlaw08.TonesChroma', WHERE WHAT IT READS IS OF BULK AT MOST 1048576: true; the input reads as it did. -/
def tonesChromaUptoRow : OpenClaim := { program := "ytibgjklfbfahfaa", sum := "36bdaac6a08d7c81a425a345345b9f557036078eed9f4adfbe74c66a23bf5aed", func := "darkroom/darkroomlaw08.TonesChroma", spec := "tonesChroma", apart := false, narrowed := true }
def TonesChromaUptoSaid : Prop := tonesChromaUptoRow.holds Try.pinned (OpenSpec.upto tonesChromaSpec)

/-- 'darkroomlaw08.TonesNear', WHERE WHAT IT READS IS OF BULK AT MOST 1048576: true; the input reads as it did. -/
def tonesNearUptoRow : OpenClaim := { program := "ytibgjklfbfahfaa", sum := "36bdaac6a08d7c81a425a345345b9f557036078eed9f4adfbe74c66a23bf5aed", func := "darkroom/darkroomlaw08.TonesNear", spec := "tonesNear", apart := false, narrowed := true }
def TonesNearUptoSaid : Prop := tonesNearUptoRow.holds Try.pinned (OpenSpec.upto tonesNearSpec)

/-- 'darkroomlaw08.TonesNearest', WHERE WHAT IT READS IS OF BULK AT MOST 1048576: true; the input reads as it did. -/
def tonesNearestUptoRow : OpenClaim := { program := "ytibgjklfbfahfaa", sum := "36bdaac6a08d7c81a425a345345b9f557036078eed9f4adfbe74c66a23bf5aed", func := "darkroom/darkroomlaw08.TonesNearest", spec := "tonesNearest", apart := false, narrowed := true }
def TonesNearestUptoSaid : Prop := tonesNearestUptoRow.holds Try.pinned (OpenSpec.upto tonesNearestSpec)

end Rows
end Go.Proofs.Ytibgjklfbfahfaa
