/- Small words that the layers behind prefix want: lists of naturals as numbers, the type int. -/
import Derived.Test.YthbdhpciibjnmaaVs
import Derived.Test.YthbdhpciibjnmaaRc
import Derived.Test.YthbdhpciibjnmaaTl
import Derived.Lib.Hide
import Derived.Outline
import Derived.BigQuiet
import Derived.Deep.QuietTactic
import Derived.Handy
import Derived.ProofKit
import Derived.OpenShut
namespace Go.Proofs.Ythbdhpciibjnmaa
open Go.ChangeShapes Go.WideShapes Go.ChangeAt Go.RowKit

theorem info_int : (Try.prog.info? 3).map (fun i => (i.zero, i.size, i.bytes)) = some (some (.int .i64 0), 1, 8) := by kernel_rfl
theorem below_drewN {B : Nat} {w w' : World} (h : Below B w w') (n : Nat) : Below B w (w'.drewN n) := ⟨h.os, h.tape, h.output, h.size, h.block⟩
def natsI (l : List Nat) : List Int := l.map fun n : Nat => (n : Int)
theorem natsI_length (l : List Nat) : (natsI l).length = l.length := by simp [natsI]
theorem natsI_append (a b : List Nat) : natsI (a ++ b) = natsI a ++ natsI b := by simp [natsI]
theorem natsI_get (l : List Nat) (k : Nat) (h : k < l.length) : (natsI l)[k]'(by rw [natsI_length]; exact h) = ((l[k] : Nat) : Int) := by simp [natsI]
theorem ret_bl {a b : Bool} (h : a = b) : Ending.returned (.bool a) = .returned (.bool b) := by rw [h]
theorem ret_nm {a b : Int} (h : a = b) : Ending.returned (.int .i64 a) = .returned (.int .i64 b) := by rw [h]
theorem vs_lit1 (w : World) (t : TypeId) (u : Value) : Vs (w.alloc (.cells #[u] t)) (w.heap.size + 1) (some ⟨w.heap.size, 0, none⟩) [u] := vs_lit w t [u] (w.heap.size + 1) (by omega)
end Go.Proofs.Ythbdhpciibjnmaa
