/- The packer's map: strings by a code and a byte more. -/
import Derived.Test.YthnfnfaiicfenaaZa
import Derived.Test.YthnfnfaiicfenaaP
import Derived.Test.YthnfnfaiicfenaaOp
import Derived.Maps.OwnOps
import Derived.Maps.OwnSet
import Derived.Maps.Views
import Derived.DeepKeys4
namespace Go.Proofs.Ythnfnfaiicfenaa
open Go.ChangeShapes Go.WideShapes Go.ChangeAt Go.RowKit
open Go.Maps (Keyed)

theorem row_longer : (92 : TypeId) < Try.prog.types.size := of_decide_eq_true (by kernel_rfl)
theorem key_law : Keyed Try.prog 92 := Keyed.of_law (deep_law_laid prog_laid (m := 3) (by omega) row_longer (by kernel_rfl) (by rw [Try.underlying92]))
def keyV (c : Nat) (x : UInt8) : Value := .agg #[.int .i64 (c : Int), .int .u8 (x.toNat : Int)]
theorem keyType_longer : Try.prog.keyType 92 = true := by kernel_rfl
theorem cells_longer : Try.prog.cellsOf 92 = 2 := by kernel_rfl
theorem wf_u8 (x : UInt8) : (Lit.int .u8 (x.toNat : Int)).wf = true := by
  have hx := byte_lt x
  simp [Lit.wf, IntKind.min, IntKind.max, IntKind.signed, IntKind.bits]
  omega
theorem key_of (c : Nat) (x : UInt8) (hc : c < 65536) : ∃ l, keyOf Try.prog 92 (keyV c x) = some l := by
  have hx := byte_lt x
  have h1 : (Lit.int .i64 (c : Int)).wf = true := WalkArith.wf_i64 (by omega)
  have h2 : (Lit.int .u8 (x.toNat : Int)).wf = true := wf_u8 x
  have hf : (keyV c x).formed Try.prog 92 = true := by
    unfold keyV
    simp [Value.formed, Try.underlying92, cells_longer]
  have hrow : (92 : Nat) < Try.prog.types.size := row_longer
  have hk : ∃ m, Try.prog.types.size + 1 = m + 2 := ⟨Try.prog.types.size - 1, by omega⟩
  obtain ⟨m, hm⟩ := hk
  have hl : Try.prog.keyLits (Try.prog.types.size + 1) 92 (keyV c x).cells.toList = some [.int .i64 (c : Int), .int .u8 (x.toNat : Int)] := by
    rw [hm]
    unfold keyV
    unfold Program.keyLits
    rw [Try.underlying92]
    simp [Value.cells, cells_longer, cells_int, cells_u8, Program.keyLits, Try.underlying3, Try.underlying5, h1, h2]
  unfold keyOf
  rw [Try.underlying92]
  simp only [keyType_longer, hf, hl, Bool.and_self, if_true, Option.map_some]
  exact ⟨_, rfl⟩
/-- The map's own law: all strings are forgotten. -/
theorem run_clear {P : Program} (w : World) (t ty k e : TypeId) (ht : P.underlying t = some (.map k e)) (r : Nat) (es : Array MapEntry) (clock : Nat) (h : w.heap[r]? = some (.map es clock)) :
    (Builtin.clear_ #[t] ty #[.map (some r)]).run P w = .ok (.tuple #[]) { w with heap := w.heap.setIfInBounds r (.map #[] clock) } := by
  simp [Builtin.clear_, run_underlying ht, MapKept.run_getObj_map h, MapKept.run_setObj_map _ h, Result.andThen]
end Go.Proofs.Ythnfnfaiicfenaa
