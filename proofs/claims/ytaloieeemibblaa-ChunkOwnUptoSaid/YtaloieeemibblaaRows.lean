/-
  No cell of these rows narrows 'for every input' (looked for: loops, veiled, ifaces, maps, wideKeys, modest, calm, conditions, laid).
  DERIVED. THE GIVEN ROWS OF THIS SEAT. 7 by the template 'for every input the law returns true; each argument reads behind the call as it read before'; 0 by the template 'total and deterministic' (their statements: YtaloieeemibblaaTotals.lean).
  GIVEN WITH THE SEED: the statements are not yours to turn. If you find one false, say at which input.
  Laid BY PROGRAM, IN A SANDBOX (cutbox-rows.mjs): the forced cells as the released guide's own fill.sh prints them over the translation 026dbde3d0c11abb… (all of the seat's roots in one cut). By AI agents, Wed Nov 11 2026. No macro, syntax, notation, axiom, sorry.
-/
import Derived.Test.YtaloieeemibblaaChecked
import GoSem.Claim
import GoSem.ClaimJoined
import GoSem.ClaimMapViews
import Derived.JoinedTies
import Derived.KernelRfl
namespace Go.Proofs.Ytaloieeemibblaa
/- THE CELL 'sum', in the pinned program and in every row, IS THE sha256 OF THE DUMP (.gsa) THAT YtaloieeemibblaaProg.lean LOADS. Nothing in Lean hashes anything: it is a label: what it is worth is what the hold of that sum in a sandbox is worth. -/
noncomputable def Try.pinned : Pinned := { name := "ytaloieeemibblaa", sum := "026dbde3d0c11abbd34b019a766de13bb1ef47d81b7f6522297ab8c38b0df27e", checked := Try.checked }
namespace Rows
def none {H : Type} : Left H := { results := [], args := [] }

/-- 'darkroomlaw12.ChunkSplits': WHATEVER THE INPUT: true; the input reads as it did. -/
def chunkSplitsSpec : ChangeSpec := { name := "chunkSplits", fn := fun _ => fun
  | [d] => { results := [.lit (.bool true)], args := [d] }
  | _ => none }
def chunkSplitsRow : OpenClaim := { program := "ytaloieeemibblaa", sum := "026dbde3d0c11abbd34b019a766de13bb1ef47d81b7f6522297ab8c38b0df27e", func := "darkroom/darkroomlaw12.ChunkSplits", spec := "chunkSplits", unfollowed := true, recurses := true, apart := false }
def ChunkSplitsSaid : Prop := chunkSplitsRow.holds Try.pinned (OpenSpec.ofChange chunkSplitsSpec)

/-- ITS FALSE NEIGHBOUR: 'it returns false'. Refute it at one input. -/
def chunkSplitsWrong : ChangeSpec := { name := "chunkSplits", fn := fun _ => fun
  | [d] => { results := [.lit (.bool false)], args := [d] }
  | _ => none }
def ChunkSplitsWrongFalsely : Prop := chunkSplitsRow.holds Try.pinned (OpenSpec.ofChange chunkSplitsWrong)

/-- 'darkroomlaw12.ChunkJoins': WHATEVER THE INPUT: true; the input reads as it did. -/
def chunkJoinsSpec : ChangeSpec := { name := "chunkJoins", fn := fun _ => fun
  | [d1, d2] => { results := [.lit (.bool true)], args := [d1, d2] }
  | _ => none }
def chunkJoinsRow : OpenClaim := { program := "ytaloieeemibblaa", sum := "026dbde3d0c11abbd34b019a766de13bb1ef47d81b7f6522297ab8c38b0df27e", func := "darkroom/darkroomlaw12.ChunkJoins", spec := "chunkJoins", unfollowed := true, recurses := true, apart := false }
def ChunkJoinsSaid : Prop := chunkJoinsRow.holds Try.pinned (OpenSpec.ofChange chunkJoinsSpec)

/-- ITS FALSE NEIGHBOUR: 'it returns false'. Refute it at one input. -/
def chunkJoinsWrong : ChangeSpec := { name := "chunkJoins", fn := fun _ => fun
  | [d1, d2] => { results := [.lit (.bool false)], args := [d1, d2] }
  | _ => none }
def ChunkJoinsWrongFalsely : Prop := chunkJoinsRow.holds Try.pinned (OpenSpec.ofChange chunkJoinsWrong)

/-- 'darkroomlaw12.ChunkTold': WHATEVER THE INPUT: true; the input reads as it did. -/
def chunkToldSpec : ChangeSpec := { name := "chunkTold", fn := fun _ => fun
  | [d1, d2, d3] => { results := [.lit (.bool true)], args := [d1, d2, d3] }
  | _ => none }
def chunkToldRow : OpenClaim := { program := "ytaloieeemibblaa", sum := "026dbde3d0c11abbd34b019a766de13bb1ef47d81b7f6522297ab8c38b0df27e", func := "darkroom/darkroomlaw12.ChunkTold", spec := "chunkTold", unfollowed := true, recurses := true, apart := false }
def ChunkToldSaid : Prop := chunkToldRow.holds Try.pinned (OpenSpec.ofChange chunkToldSpec)

/-- ITS FALSE NEIGHBOUR: 'it returns false'. Refute it at one input. -/
def chunkToldWrong : ChangeSpec := { name := "chunkTold", fn := fun _ => fun
  | [d1, d2, d3] => { results := [.lit (.bool false)], args := [d1, d2, d3] }
  | _ => none }
def ChunkToldWrongFalsely : Prop := chunkToldRow.holds Try.pinned (OpenSpec.ofChange chunkToldWrong)

/-- 'darkroomlaw12.ChunkFilters': WHATEVER THE INPUT: true; the input reads as it did. -/
def chunkFiltersSpec : ChangeSpec := { name := "chunkFilters", fn := fun _ => fun
  | [d1, d2] => { results := [.lit (.bool true)], args := [d1, d2] }
  | _ => none }
def chunkFiltersRow : OpenClaim := { program := "ytaloieeemibblaa", sum := "026dbde3d0c11abbd34b019a766de13bb1ef47d81b7f6522297ab8c38b0df27e", func := "darkroom/darkroomlaw12.ChunkFilters", spec := "chunkFilters", unfollowed := true, recurses := true, apart := false }
def ChunkFiltersSaid : Prop := chunkFiltersRow.holds Try.pinned (OpenSpec.ofChange chunkFiltersSpec)

/-- ITS FALSE NEIGHBOUR: 'it returns false'. Refute it at one input. -/
def chunkFiltersWrong : ChangeSpec := { name := "chunkFilters", fn := fun _ => fun
  | [d1, d2] => { results := [.lit (.bool false)], args := [d1, d2] }
  | _ => none }
def ChunkFiltersWrongFalsely : Prop := chunkFiltersRow.holds Try.pinned (OpenSpec.ofChange chunkFiltersWrong)

/-- 'darkroomlaw12.ChunkRows': WHATEVER THE INPUT: true; the input reads as it did. -/
def chunkRowsSpec : ChangeSpec := { name := "chunkRows", fn := fun _ => fun
  | [d1, d2, d3] => { results := [.lit (.bool true)], args := [d1, d2, d3] }
  | _ => none }
def chunkRowsRow : OpenClaim := { program := "ytaloieeemibblaa", sum := "026dbde3d0c11abbd34b019a766de13bb1ef47d81b7f6522297ab8c38b0df27e", func := "darkroom/darkroomlaw12.ChunkRows", spec := "chunkRows", unfollowed := true, recurses := true, apart := false }
def ChunkRowsSaid : Prop := chunkRowsRow.holds Try.pinned (OpenSpec.ofChange chunkRowsSpec)

/-- ITS FALSE NEIGHBOUR: 'it returns false'. Refute it at one input. -/
def chunkRowsWrong : ChangeSpec := { name := "chunkRows", fn := fun _ => fun
  | [d1, d2, d3] => { results := [.lit (.bool false)], args := [d1, d2, d3] }
  | _ => none }
def ChunkRowsWrongFalsely : Prop := chunkRowsRow.holds Try.pinned (OpenSpec.ofChange chunkRowsWrong)

/-- 'darkroomlaw12.ChunkPasses': WHATEVER THE INPUT: true; the input reads as it did. -/
def chunkPassesSpec : ChangeSpec := { name := "chunkPasses", fn := fun _ => fun
  | [d1, d2, d3] => { results := [.lit (.bool true)], args := [d1, d2, d3] }
  | _ => none }
def chunkPassesRow : OpenClaim := { program := "ytaloieeemibblaa", sum := "026dbde3d0c11abbd34b019a766de13bb1ef47d81b7f6522297ab8c38b0df27e", func := "darkroom/darkroomlaw12.ChunkPasses", spec := "chunkPasses", unfollowed := true, recurses := true, apart := false }
def ChunkPassesSaid : Prop := chunkPassesRow.holds Try.pinned (OpenSpec.ofChange chunkPassesSpec)

/-- ITS FALSE NEIGHBOUR: 'it returns false'. Refute it at one input. -/
def chunkPassesWrong : ChangeSpec := { name := "chunkPasses", fn := fun _ => fun
  | [d1, d2, d3] => { results := [.lit (.bool false)], args := [d1, d2, d3] }
  | _ => none }
def ChunkPassesWrongFalsely : Prop := chunkPassesRow.holds Try.pinned (OpenSpec.ofChange chunkPassesWrong)

/-- 'darkroomlaw12.ChunkOwn': WHATEVER THE INPUT: true; the input reads as it did. -/
def chunkOwnSpec : ChangeSpec := { name := "chunkOwn", fn := fun _ => fun
  | [d1, d2] => { results := [.lit (.bool true)], args := [d1, d2] }
  | _ => none }
def chunkOwnRow : OpenClaim := { program := "ytaloieeemibblaa", sum := "026dbde3d0c11abbd34b019a766de13bb1ef47d81b7f6522297ab8c38b0df27e", func := "darkroom/darkroomlaw12.ChunkOwn", spec := "chunkOwn", unfollowed := true, recurses := true, apart := false }
def ChunkOwnSaid : Prop := chunkOwnRow.holds Try.pinned (OpenSpec.ofChange chunkOwnSpec)

/-- ITS FALSE NEIGHBOUR: 'it returns false'. Refute it at one input. -/
def chunkOwnWrong : ChangeSpec := { name := "chunkOwn", fn := fun _ => fun
  | [d1, d2] => { results := [.lit (.bool false)], args := [d1, d2] }
  | _ => none }
def ChunkOwnWrongFalsely : Prop := chunkOwnRow.holds Try.pinned (OpenSpec.ofChange chunkOwnWrong)

/- THE SECOND FORM. 'bulk': how many values and letters a reading holds, each counted each time it is reached (what is shared counts as often as it is met; a slice's spare places count too). A statement '..UptoSaid' is the law's where the arguments, and the package variables that the reading takes, are together of bulk at most 1048576: NARROWER than '..Said'. Prove '..Said' where nothing that the law and all that it calls make is longer than what came in: it says more and counts as full. Else prove '..UptoSaid'. A law counts once. -/
mutual
def uptoBulk {H : Type} : DataW H → Nat
  | .lit (.string bytes) => bytes.length + 1
  | .lit _ => 1
  | .nil => 1
  | .ptr d => uptoBulk d + 1
  | .slice elems spare => uptoBulkAll elems + uptoBulkAll spare + 1
  | .agg parts => uptoBulkAll parts + 1
  | .iface _ d => uptoBulk d + 1
  | .map entries => uptoBulkEntries entries + 1
  | .held _ => 1
def uptoBulkAll {H : Type} : List (DataW H) → Nat
  | [] => 0
  | d :: r => uptoBulk d + uptoBulkAll r
def uptoBulkEntries {H : Type} : List (Lit × DataW H) → Nat
  | [] => 0
  | x :: r => uptoBulkEntry x + uptoBulkEntries r
def uptoBulkEntry {H : Type} : Lit × DataW H → Nat
  | (.string bytes, d) => bytes.length + uptoBulk d + 1
  | (_, d) => uptoBulk d + 1
 end
def uptoSmall : (H : Type) → List (DataW H) → Bool := fun _ ds => decide (uptoBulkAll ds ≤ 1048576)
def OpenSpec.upto (s : _root_.Go.ChangeSpec) : _root_.Go.OpenSpec := { _root_.Go.OpenSpec.ofChange s with cond := some uptoSmall }

/-- 'darkroomlaw12.ChunkSplits', WHERE WHAT IT READS IS OF BULK AT MOST 1048576: true; the input reads as it did. -/
def chunkSplitsUptoRow : OpenClaim := { program := "ytaloieeemibblaa", sum := "026dbde3d0c11abbd34b019a766de13bb1ef47d81b7f6522297ab8c38b0df27e", func := "darkroom/darkroomlaw12.ChunkSplits", spec := "chunkSplits", unfollowed := true, recurses := true, apart := false, narrowed := true }
def ChunkSplitsUptoSaid : Prop := chunkSplitsUptoRow.holds Try.pinned (OpenSpec.upto chunkSplitsSpec)

/-- 'darkroomlaw12.ChunkJoins', WHERE WHAT IT READS IS OF BULK AT MOST 1048576: true; the input reads as it did. -/
def chunkJoinsUptoRow : OpenClaim := { program := "ytaloieeemibblaa", sum := "026dbde3d0c11abbd34b019a766de13bb1ef47d81b7f6522297ab8c38b0df27e", func := "darkroom/darkroomlaw12.ChunkJoins", spec := "chunkJoins", unfollowed := true, recurses := true, apart := false, narrowed := true }
def ChunkJoinsUptoSaid : Prop := chunkJoinsUptoRow.holds Try.pinned (OpenSpec.upto chunkJoinsSpec)

/-- 'darkroomlaw12.ChunkTold', WHERE WHAT IT READS IS OF BULK AT MOST 1048576: true; the input reads as it did. -/
def chunkToldUptoRow : OpenClaim := { program := "ytaloieeemibblaa", sum := "026dbde3d0c11abbd34b019a766de13bb1ef47d81b7f6522297ab8c38b0df27e", func := "darkroom/darkroomlaw12.ChunkTold", spec := "chunkTold", unfollowed := true, recurses := true, apart := false, narrowed := true }
def ChunkToldUptoSaid : Prop := chunkToldUptoRow.holds Try.pinned (OpenSpec.upto chunkToldSpec)

/-- 'darkroomlaw12.ChunkFilters', WHERE WHAT IT READS IS OF BULK AT MOST 1048576: true; the input reads as it did. -/
def chunkFiltersUptoRow : OpenClaim := { program := "ytaloieeemibblaa", sum := "026dbde3d0c11abbd34b019a766de13bb1ef47d81b7f6522297ab8c38b0df27e", func := "darkroom/darkroomlaw12.ChunkFilters", spec := "chunkFilters", unfollowed := true, recurses := true, apart := false, narrowed := true }
def ChunkFiltersUptoSaid : Prop := chunkFiltersUptoRow.holds Try.pinned (OpenSpec.upto chunkFiltersSpec)

/-- 'darkroomlaw12.ChunkRows', WHERE WHAT IT READS IS OF BULK AT MOST 1048576: true; the input reads as it did. -/
def chunkRowsUptoRow : OpenClaim := { program := "ytaloieeemibblaa", sum := "026dbde3d0c11abbd34b019a766de13bb1ef47d81b7f6522297ab8c38b0df27e", func := "darkroom/darkroomlaw12.ChunkRows", spec := "chunkRows", unfollowed := true, recurses := true, apart := false, narrowed := true }
def ChunkRowsUptoSaid : Prop := chunkRowsUptoRow.holds Try.pinned (OpenSpec.upto chunkRowsSpec)

/-- 'darkroomlaw12.ChunkPasses', WHERE WHAT IT READS IS OF BULK AT MOST 1048576: true; the input reads as it did. -/
def chunkPassesUptoRow : OpenClaim := { program := "ytaloieeemibblaa", sum := "026dbde3d0c11abbd34b019a766de13bb1ef47d81b7f6522297ab8c38b0df27e", func := "darkroom/darkroomlaw12.ChunkPasses", spec := "chunkPasses", unfollowed := true, recurses := true, apart := false, narrowed := true }
def ChunkPassesUptoSaid : Prop := chunkPassesUptoRow.holds Try.pinned (OpenSpec.upto chunkPassesSpec)

/-- 'darkroomlaw12.ChunkOwn', WHERE WHAT IT READS IS OF BULK AT MOST 1048576: true; the input reads as it did. -/
def chunkOwnUptoRow : OpenClaim := { program := "ytaloieeemibblaa", sum := "026dbde3d0c11abbd34b019a766de13bb1ef47d81b7f6522297ab8c38b0df27e", func := "darkroom/darkroomlaw12.ChunkOwn", spec := "chunkOwn", unfollowed := true, recurses := true, apart := false, narrowed := true }
def ChunkOwnUptoSaid : Prop := chunkOwnUptoRow.holds Try.pinned (OpenSpec.upto chunkOwnSpec)

end Rows
end Go.Proofs.Ytaloieeemibblaa
