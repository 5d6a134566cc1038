/-
  No cell of these rows narrows 'for every input' (looked for: loops, veiled, ifaces, maps, wideKeys, modest, calm, conditions, laid).
  DERIVED. THE GIVEN ROWS OF THIS SEAT. 7 by the template 'for every input the law returns true; each argument reads behind the call as it read before'; 0 by the template 'total and deterministic' (their statements: YtpolbnobnilfcaaTotals.lean).
  GIVEN WITH THE SEED: the statements are not yours to turn. If you find one false, say at which input.
  Laid BY PROGRAM, IN A SANDBOX (cutbox-rows.mjs): the forced cells as the released guide's own fill.sh prints them over the translation e7ede0717693364c… (all of the seat's roots in one cut). By AI agents, Wed Nov 11 2026. No macro, syntax, notation, axiom, sorry.
-/
import Derived.Test.YtpolbnobnilfcaaChecked
import GoSem.Claim
import GoSem.ClaimJoined
import GoSem.ClaimMapViews
import Derived.JoinedTies
import Derived.KernelRfl
namespace Go.Proofs.Ytpolbnobnilfcaa
/- THE CELL 'sum', in the pinned program and in every row, IS THE sha256 OF THE DUMP (.gsa) THAT YtpolbnobnilfcaaProg.lean LOADS. Nothing in Lean hashes anything: it is a label: what it is worth is what the hold of that sum in a sandbox is worth. -/
noncomputable def Try.pinned : Pinned := { name := "ytpolbnobnilfcaa", sum := "e7ede0717693364c6a32db7a7922f2af6cb9695a6b8f191b85fbc55c8e2221ea", checked := Try.checked }
namespace Rows
def none {H : Type} : Left H := { results := [], args := [] }

/-- 'darkroomlaw03.PrefixCodes': WHATEVER THE INPUT: true; the input reads as it did. -/
def prefixCodesSpec : ChangeSpec := { name := "prefixCodes", fn := fun _ => fun
  | [d] => { results := [.lit (.bool true)], args := [d] }
  | _ => none }
def prefixCodesRow : OpenClaim := { program := "ytpolbnobnilfcaa", sum := "e7ede0717693364c6a32db7a7922f2af6cb9695a6b8f191b85fbc55c8e2221ea", func := "darkroom/darkroomlaw03.PrefixCodes", spec := "prefixCodes", unfollowed := true, recurses := true, apart := false }
def PrefixCodesSaid : Prop := prefixCodesRow.holds Try.pinned (OpenSpec.ofChange prefixCodesSpec)

/-- ITS FALSE NEIGHBOUR: 'it returns false'. Refute it at one input. -/
def prefixCodesWrong : ChangeSpec := { name := "prefixCodes", fn := fun _ => fun
  | [d] => { results := [.lit (.bool false)], args := [d] }
  | _ => none }
def PrefixCodesWrongFalsely : Prop := prefixCodesRow.holds Try.pinned (OpenSpec.ofChange prefixCodesWrong)

/-- 'darkroomlaw03.PrefixReads': WHATEVER THE INPUT: true; the input reads as it did. -/
def prefixReadsSpec : ChangeSpec := { name := "prefixReads", fn := fun _ => fun
  | [d1, d2, d3] => { results := [.lit (.bool true)], args := [d1, d2, d3] }
  | _ => none }
def prefixReadsRow : OpenClaim := { program := "ytpolbnobnilfcaa", sum := "e7ede0717693364c6a32db7a7922f2af6cb9695a6b8f191b85fbc55c8e2221ea", func := "darkroom/darkroomlaw03.PrefixReads", spec := "prefixReads", unfollowed := true, recurses := true, apart := false }
def PrefixReadsSaid : Prop := prefixReadsRow.holds Try.pinned (OpenSpec.ofChange prefixReadsSpec)

/-- ITS FALSE NEIGHBOUR: 'it returns false'. Refute it at one input. -/
def prefixReadsWrong : ChangeSpec := { name := "prefixReads", fn := fun _ => fun
  | [d1, d2, d3] => { results := [.lit (.bool false)], args := [d1, d2, d3] }
  | _ => none }
def PrefixReadsWrongFalsely : Prop := prefixReadsRow.holds Try.pinned (OpenSpec.ofChange prefixReadsWrong)

/-- 'darkroomlaw03.PrefixBuilds': WHATEVER THE INPUT: true; the input reads as it did. -/
def prefixBuildsSpec : ChangeSpec := { name := "prefixBuilds", fn := fun _ => fun
  | [d1, d2] => { results := [.lit (.bool true)], args := [d1, d2] }
  | _ => none }
def prefixBuildsRow : OpenClaim := { program := "ytpolbnobnilfcaa", sum := "e7ede0717693364c6a32db7a7922f2af6cb9695a6b8f191b85fbc55c8e2221ea", func := "darkroom/darkroomlaw03.PrefixBuilds", spec := "prefixBuilds", unfollowed := true, recurses := true, apart := false }
def PrefixBuildsSaid : Prop := prefixBuildsRow.holds Try.pinned (OpenSpec.ofChange prefixBuildsSpec)

/-- ITS FALSE NEIGHBOUR: 'it returns false'. Refute it at one input. -/
def prefixBuildsWrong : ChangeSpec := { name := "prefixBuilds", fn := fun _ => fun
  | [d1, d2] => { results := [.lit (.bool false)], args := [d1, d2] }
  | _ => none }
def PrefixBuildsWrongFalsely : Prop := prefixBuildsRow.holds Try.pinned (OpenSpec.ofChange prefixBuildsWrong)

/-- 'darkroomlaw03.PrefixBack': WHATEVER THE INPUT: true; the input reads as it did. -/
def prefixBackSpec : ChangeSpec := { name := "prefixBack", fn := fun _ => fun
  | [d1, d2, d3] => { results := [.lit (.bool true)], args := [d1, d2, d3] }
  | _ => none }
def prefixBackRow : OpenClaim := { program := "ytpolbnobnilfcaa", sum := "e7ede0717693364c6a32db7a7922f2af6cb9695a6b8f191b85fbc55c8e2221ea", func := "darkroom/darkroomlaw03.PrefixBack", spec := "prefixBack", unfollowed := true, recurses := true, apart := false }
def PrefixBackSaid : Prop := prefixBackRow.holds Try.pinned (OpenSpec.ofChange prefixBackSpec)

/-- ITS FALSE NEIGHBOUR: 'it returns false'. Refute it at one input. -/
def prefixBackWrong : ChangeSpec := { name := "prefixBack", fn := fun _ => fun
  | [d1, d2, d3] => { results := [.lit (.bool false)], args := [d1, d2, d3] }
  | _ => none }
def PrefixBackWrongFalsely : Prop := prefixBackRow.holds Try.pinned (OpenSpec.ofChange prefixBackWrong)

/-- 'darkroomlaw03.PrefixApart': WHATEVER THE INPUT: true; the input reads as it did. -/
def prefixApartSpec : ChangeSpec := { name := "prefixApart", fn := fun _ => fun
  | [d] => { results := [.lit (.bool true)], args := [d] }
  | _ => none }
def prefixApartRow : OpenClaim := { program := "ytpolbnobnilfcaa", sum := "e7ede0717693364c6a32db7a7922f2af6cb9695a6b8f191b85fbc55c8e2221ea", func := "darkroom/darkroomlaw03.PrefixApart", spec := "prefixApart", unfollowed := true, recurses := true, apart := false }
def PrefixApartSaid : Prop := prefixApartRow.holds Try.pinned (OpenSpec.ofChange prefixApartSpec)

/-- ITS FALSE NEIGHBOUR: 'it returns false'. Refute it at one input. -/
def prefixApartWrong : ChangeSpec := { name := "prefixApart", fn := fun _ => fun
  | [d] => { results := [.lit (.bool false)], args := [d] }
  | _ => none }
def PrefixApartWrongFalsely : Prop := prefixApartRow.holds Try.pinned (OpenSpec.ofChange prefixApartWrong)

/-- 'darkroomlaw03.PrefixOwn': WHATEVER THE INPUT: true; the input reads as it did. -/
def prefixOwnSpec : ChangeSpec := { name := "prefixOwn", fn := fun _ => fun
  | [d1, d2] => { results := [.lit (.bool true)], args := [d1, d2] }
  | _ => none }
def prefixOwnRow : OpenClaim := { program := "ytpolbnobnilfcaa", sum := "e7ede0717693364c6a32db7a7922f2af6cb9695a6b8f191b85fbc55c8e2221ea", func := "darkroom/darkroomlaw03.PrefixOwn", spec := "prefixOwn", unfollowed := true, recurses := true, apart := false }
def PrefixOwnSaid : Prop := prefixOwnRow.holds Try.pinned (OpenSpec.ofChange prefixOwnSpec)

/-- ITS FALSE NEIGHBOUR: 'it returns false'. Refute it at one input. -/
def prefixOwnWrong : ChangeSpec := { name := "prefixOwn", fn := fun _ => fun
  | [d1, d2] => { results := [.lit (.bool false)], args := [d1, d2] }
  | _ => none }
def PrefixOwnWrongFalsely : Prop := prefixOwnRow.holds Try.pinned (OpenSpec.ofChange prefixOwnWrong)

/-- 'darkroomlaw03.PrefixNil': WHATEVER THE INPUT: true; the input reads as it did. -/
def prefixNilSpec : ChangeSpec := { name := "prefixNil", fn := fun _ => fun
  | [d] => { results := [.lit (.bool true)], args := [d] }
  | _ => none }
def prefixNilRow : OpenClaim := { program := "ytpolbnobnilfcaa", sum := "e7ede0717693364c6a32db7a7922f2af6cb9695a6b8f191b85fbc55c8e2221ea", func := "darkroom/darkroomlaw03.PrefixNil", spec := "prefixNil", unfollowed := true, recurses := true, apart := false }
def PrefixNilSaid : Prop := prefixNilRow.holds Try.pinned (OpenSpec.ofChange prefixNilSpec)

/-- ITS FALSE NEIGHBOUR: 'it returns false'. Refute it at one input. -/
def prefixNilWrong : ChangeSpec := { name := "prefixNil", fn := fun _ => fun
  | [d] => { results := [.lit (.bool false)], args := [d] }
  | _ => none }
def PrefixNilWrongFalsely : Prop := prefixNilRow.holds Try.pinned (OpenSpec.ofChange prefixNilWrong)

/- THE SECOND FORM. 'bulk': how many values and letters a reading holds, each counted each time it is reached (what is shared counts as often as it is met; a slice's spare places count too). A statement '..UptoSaid' is the law's where the arguments, and the package variables that the reading takes, are together of bulk at most 1048576: NARROWER than '..Said'. Prove '..Said' where nothing that the law and all that it calls make is longer than what came in: it says more and counts as full. Else prove '..UptoSaid'. A law counts once. -/
mutual
def uptoBulk {H : Type} : DataW H → Nat
  | .lit (.string bytes) => bytes.length + 1
  | .lit _ => 1
  | .nil => 1
  | .ptr d => uptoBulk d + 1
  | .slice elems spare => uptoBulkAll elems + uptoBulkAll spare + 1
  | .agg parts => uptoBulkAll parts + 1
  | .iface _ d => uptoBulk d + 1
  | .map entries => uptoBulkEntries entries + 1
  | .held _ => 1
def uptoBulkAll {H : Type} : List (DataW H) → Nat
  | [] => 0
  | d :: r => uptoBulk d + uptoBulkAll r
def uptoBulkEntries {H : Type} : List (Lit × DataW H) → Nat
  | [] => 0
  | x :: r => uptoBulkEntry x + uptoBulkEntries r
def uptoBulkEntry {H : Type} : Lit × DataW H → Nat
  | (.string bytes, d) => bytes.length + uptoBulk d + 1
  | (_, d) => uptoBulk d + 1
 end
def uptoSmall : (H : Type) → List (DataW H) → Bool := fun _ ds => decide (uptoBulkAll ds ≤ 1048576)
def OpenSpec.upto (s : _root_.Go.ChangeSpec) : _root_.Go.OpenSpec := { _root_.Go.OpenSpec.ofChange s with cond := some uptoSmall }

/-- 'darkroomlaw03.PrefixCodes', WHERE WHAT IT READS IS OF BULK AT MOST 1048576: true; the input reads as it did. -/
def prefixCodesUptoRow : OpenClaim := { program := "ytpolbnobnilfcaa", sum := "e7ede0717693364c6a32db7a7922f2af6cb9695a6b8f191b85fbc55c8e2221ea", func := "darkroom/darkroomlaw03.PrefixCodes", spec := "prefixCodes", unfollowed := true, recurses := true, apart := false, narrowed := true }
def PrefixCodesUptoSaid : Prop := prefixCodesUptoRow.holds Try.pinned (OpenSpec.upto prefixCodesSpec)

/-- 'darkroomlaw03.PrefixReads', WHERE WHAT IT READS IS OF BULK AT MOST 1048576: true; the input reads as it did. -/
def prefixReadsUptoRow : OpenClaim := { program := "ytpolbnobnilfcaa", sum := "e7ede0717693364c6a32db7a7922f2af6cb9695a6b8f191b85fbc55c8e2221ea", func := "darkroom/darkroomlaw03.PrefixReads", spec := "prefixReads", unfollowed := true, recurses := true, apart := false, narrowed := true }
def PrefixReadsUptoSaid : Prop := prefixReadsUptoRow.holds Try.pinned (OpenSpec.upto prefixReadsSpec)

/-- 'darkroomlaw03.PrefixBuilds', WHERE WHAT IT READS IS OF BULK AT MOST 1048576: true; the input reads as it did. -/
def prefixBuildsUptoRow : OpenClaim := { program := "ytpolbnobnilfcaa", sum := "e7ede0717693364c6a32db7a7922f2af6cb9695a6b8f191b85fbc55c8e2221ea", func := "darkroom/darkroomlaw03.PrefixBuilds", spec := "prefixBuilds", unfollowed := true, recurses := true, apart := false, narrowed := true }
def PrefixBuildsUptoSaid : Prop := prefixBuildsUptoRow.holds Try.pinned (OpenSpec.upto prefixBuildsSpec)

/-- 'darkroomlaw03.PrefixBack', WHERE WHAT IT READS IS OF BULK AT MOST 1048576: true; the input reads as it did. -/
def prefixBackUptoRow : OpenClaim := { program := "ytpolbnobnilfcaa", sum := "e7ede0717693364c6a32db7a7922f2af6cb9695a6b8f191b85fbc55c8e2221ea", func := "darkroom/darkroomlaw03.PrefixBack", spec := "prefixBack", unfollowed := true, recurses := true, apart := false, narrowed := true }
def PrefixBackUptoSaid : Prop := prefixBackUptoRow.holds Try.pinned (OpenSpec.upto prefixBackSpec)

/-- 'darkroomlaw03.PrefixApart', WHERE WHAT IT READS IS OF BULK AT MOST 1048576: true; the input reads as it did. -/
def prefixApartUptoRow : OpenClaim := { program := "ytpolbnobnilfcaa", sum := "e7ede0717693364c6a32db7a7922f2af6cb9695a6b8f191b85fbc55c8e2221ea", func := "darkroom/darkroomlaw03.PrefixApart", spec := "prefixApart", unfollowed := true, recurses := true, apart := false, narrowed := true }
def PrefixApartUptoSaid : Prop := prefixApartUptoRow.holds Try.pinned (OpenSpec.upto prefixApartSpec)

/-- 'darkroomlaw03.PrefixOwn', WHERE WHAT IT READS IS OF BULK AT MOST 1048576: true; the input reads as it did. -/
def prefixOwnUptoRow : OpenClaim := { program := "ytpolbnobnilfcaa", sum := "e7ede0717693364c6a32db7a7922f2af6cb9695a6b8f191b85fbc55c8e2221ea", func := "darkroom/darkroomlaw03.PrefixOwn", spec := "prefixOwn", unfollowed := true, recurses := true, apart := false, narrowed := true }
def PrefixOwnUptoSaid : Prop := prefixOwnUptoRow.holds Try.pinned (OpenSpec.upto prefixOwnSpec)

/-- 'darkroomlaw03.PrefixNil', WHERE WHAT IT READS IS OF BULK AT MOST 1048576: true; the input reads as it did. -/
def prefixNilUptoRow : OpenClaim := { program := "ytpolbnobnilfcaa", sum := "e7ede0717693364c6a32db7a7922f2af6cb9695a6b8f191b85fbc55c8e2221ea", func := "darkroom/darkroomlaw03.PrefixNil", spec := "prefixNil", unfollowed := true, recurses := true, apart := false, narrowed := true }
def PrefixNilUptoSaid : Prop := prefixNilUptoRow.holds Try.pinned (OpenSpec.upto prefixNilSpec)

end Rows
end Go.Proofs.Ytpolbnobnilfcaa
