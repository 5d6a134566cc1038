/- What the second form's bound says of the length of a list of bytes that comes in. -/
import Derived.Test.YtlkmhmiaekmkdaaO
namespace Go.Proofs.Ytlkmhmiaekmkdaa

theorem bulk_pos {H : Type} (d : DataW H) : 0 < Rows.uptoBulk d := by
  cases d with
  | lit l => cases l <;> simp [Rows.uptoBulk]
  | _ => simp [Rows.uptoBulk]
theorem bulk_len {H : Type} : ∀ l : List (DataW H), l.length ≤ Rows.uptoBulkAll l
  | [] => by simp [Rows.uptoBulkAll]
  | d :: r => by have h1 := bulk_pos d; have h2 := bulk_len r; simp only [Rows.uptoBulkAll, List.length_cons]; omega
theorem bulk_slice {H : Type} (e s : List (DataW H)) (rest : List (DataW H)) : e.length + s.length ≤ Rows.uptoBulkAll (.slice e s :: rest) := by
  have h1 := bulk_len e
  have h2 := bulk_len s
  simp only [Rows.uptoBulkAll, Rows.uptoBulk]
  omega
theorem bulk_tail {H : Type} (d : DataW H) (rest : List (DataW H)) : Rows.uptoBulkAll rest ≤ Rows.uptoBulkAll (d :: rest) := by
  simp only [Rows.uptoBulkAll]; omega
theorem bulk_le {H : Type} {l : List (DataW H)} (hk : Rows.uptoSmall H l = true) : Rows.uptoBulkAll l ≤ 1048576 := of_decide_eq_true hk
end Go.Proofs.Ytlkmhmiaekmkdaa
