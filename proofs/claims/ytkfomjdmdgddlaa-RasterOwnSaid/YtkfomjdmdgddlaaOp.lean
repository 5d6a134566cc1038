/- How an argument that is a list of numbers or of bytes is opened (as wip/prefix Oi; the bytes' room besides); what the second form's bound says of a list's length. -/
import Derived.Test.YtkfomjdmdgddlaaL
import Derived.Test.YtkfomjdmdgddlaaVs
import Derived.Test.YtkfomjdmdgddlaaRows
import Derived.ProofKit
import Derived.OpenShut
import Derived.ChangeOld
import Derived.SizedLaws
import Derived.JoinedCond
namespace Go.Proofs.Ytkfomjdmdgddlaa
open Go.ChangeShapes Go.WideShapes Go.ChangeAt Go.RowKit

theorem prog_own : ownKnob Try.prog.godebug = none := by kernel_rfl
theorem prog_laid : laidOutB Try.prog = true := by kernel_rfl
theorem cells_int : Try.prog.cellsOf 3 = 1 := by kernel_rfl
theorem bytes_int : Try.prog.bytesOf 3 = 8 := by kernel_rfl
theorem cells_u8 : Try.prog.cellsOf 5 = 1 := by kernel_rfl
theorem bytes_u8 : Try.prog.bytesOf 5 = 1 := by kernel_rfl
section
variable {H : Type} {enc : TypeId × Value → H} {W : World} {base : Nat} {v : Value} {d : DataW H} {p : List MemPlace}
end
theorem bulk_pos {H : Type} (d : DataW H) : 0 < Rows.uptoBulk d := by
  cases d with
  | lit l => cases l <;> simp [Rows.uptoBulk]
  | _ => simp [Rows.uptoBulk]
theorem bulk_len {H : Type} : ∀ l : List (DataW H), l.length ≤ Rows.uptoBulkAll l
  | [] => by simp [Rows.uptoBulkAll]
  | d :: r => by have h1 := bulk_pos d; have h2 := bulk_len r; simp only [Rows.uptoBulkAll, List.length_cons]; omega
theorem bulk_slice {H : Type} (e s : List (DataW H)) (rest : List (DataW H)) : e.length + s.length ≤ Rows.uptoBulkAll (.slice e s :: rest) := by
  have h1 := bulk_len e
  have h2 := bulk_len s
  simp only [Rows.uptoBulkAll, Rows.uptoBulk]
  omega
theorem bulk_tail {H : Type} (d : DataW H) (rest : List (DataW H)) : Rows.uptoBulkAll rest ≤ Rows.uptoBulkAll (d :: rest) := by
  simp only [Rows.uptoBulkAll]; omega
theorem bulk_le {H : Type} {l : List (DataW H)} (hk : Rows.uptoSmall H l = true) : Rows.uptoBulkAll l ≤ 1048576 := of_decide_eq_true hk
end Go.Proofs.Ytkfomjdmdgddlaa
