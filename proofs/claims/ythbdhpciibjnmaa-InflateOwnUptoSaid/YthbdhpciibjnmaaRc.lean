/- (for later layers) Contract of the document's Codes. -/
import Derived.Test.YthbdhpciibjnmaaRr
import Derived.WalkKit
import Derived.Handy
import Derived.Laws.OwnMore
namespace Go.Proofs.Ythbdhpciibjnmaa
open Go.ChangeShapes Go.WideShapes Go.ChangeAt Go.RowKit

def u32V (l : List Nat) : List Value := l.map fun n : Nat => .int .u32 (n : Int)
theorem u32V_length (l : List Nat) : (u32V l).length = l.length := by simp [u32V]
theorem u32V_set (l : List Nat) (k n : Nat) : (u32V l).set k (.int .u32 (n : Int)) = u32V (l.set k n) := by simp [u32V, List.map_set]
theorem u32V_one (l : List Nat) : ∀ u ∈ u32V l, u.oneCell' = true := by
  intro u hu
  obtain ⟨b, _, rfl⟩ := List.mem_map.mp hu
  rfl
theorem info_u32 : (Try.prog.info? 40).map (fun i => (i.zero, i.size, i.bytes)) = some (some (.int .u32 0), 1, 4) := by kernel_rfl
def codesErr (l : List Int) : Int := if roomErr l = 0 then (if roomOf l < 0 then 30 else 0) else roomErr l
def codesAns (l : List Int) : List Nat := if codesErr l = 0 then codesL l else []
def CodesRes (w : World) (l : List Int) (e : Ending) (w' : World) : Prop :=
  ∃ A' n c', e = .returned (.tuple #[.slice A' n c', .int .i64 (codesErr l)]) ∧ w'.ownsRow w.heap.size 40 1 (.slice A' n c') n (u32V (codesAns l)) ∧ Below w.heap.size w w'
theorem CodesRes.err {w : World} {l : List Int} {x : Int} (h : codesErr l = x) (hx : x ≠ 0) : CodesRes w l (.returned (.tuple #[.slice none 0 0, .int .i64 x])) w := by
  refine ⟨none, 0, 0, by rw [h], ?_, Below.refl _ _⟩
  unfold codesAns
  rw [h, if_neg hx]
  exact World.ownsRow_nil w w.heap.size 40 1
theorem make_u32 (n : Nat) : (madeCells (Value.int .u32 0).cells (n * 1)).toList = u32V (List.replicate n 0) := by
  rw [show (Value.int .u32 0).cells = #[.int .u32 0] from rfl, Nat.mul_one, toList_madeCells_one]
  simp [u32V]
end Go.Proofs.Ythbdhpciibjnmaa
