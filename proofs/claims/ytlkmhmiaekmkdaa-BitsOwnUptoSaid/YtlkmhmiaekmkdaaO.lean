/- How the arguments of the statements of layer 1 are opened: bytes, and three numbers. -/
import Derived.Test.YtlkmhmiaekmkdaaL
import Derived.Test.YtlkmhmiaekmkdaaRows
import Derived.ProofKit
import Derived.OpenShut
import Derived.ChangeOld
import Derived.SizedLaws
import Derived.Laws.IdiomArrays
import Derived.Lib.SmallJoins
namespace Go.Proofs.Ytlkmhmiaekmkdaa
open Go.ChangeShapes Go.WideShapes Go.ChangeAt Go.RowKit

theorem prog_own : ownKnob Try.prog.godebug = none := by kernel_rfl
theorem prog_laid : laidOutB Try.prog = true := by kernel_rfl
theorem cells_u8 : Try.prog.cellsOf 5 = 1 := by kernel_rfl
theorem bytes_u8 : Try.prog.bytesOf 5 = 1 := by kernel_rfl
section
variable {H : Type} {enc : TypeId × Value → H} {W : World} {base : Nat} {v : Value} {d : DataW H} {p : List MemPlace}
theorem open_bytes (hv : Value.okWide Try.prog W .any base 22 v) (hj : DataW.Trod enc Try.prog W 0 (fun _ => true) true 22 v d p) :
    ∃ A l c, v = .slice A l.length c ∧ Bs W W.heap.size A l ∧ ((d = .nil ∧ l = []) ∨ ∃ e s, d = .slice e s ∧ l.length ≤ e.length + s.length) := by
  obtain ⟨a0, len0, cap0, rfl⟩ := okWide_slice Try.underlying22 hv
  obtain ⟨fuel, hf⟩ := hj
  rcases open_ints Try.underlying22 Try.underlying5 cells_u8 hf with ⟨hcs, hx⟩ | ⟨x, l, c, zs, hcs, _, hl, hm, hz, hx, hcell, hwz⟩
  · simp [Value.cells] at hcs
    obtain ⟨rfl, rfl, rfl⟩ := hcs
    simp only [Prod.mk.injEq] at hx
    exact ⟨none, [], 0, rfl, Bs.nil_, .inl ⟨hx.1, rfl⟩⟩
  · simp [Value.cells] at hcs
    obtain ⟨rfl, rfl, rfl⟩ := hcs
    simp only [Prod.mk.injEq] at hx
    have hzl : zs.length = cap0 := by simpa using hz
    have hlen : ((zs.take len0).map fun n => UInt8.ofNat n.toNat).length = len0 := by simp; omega
    refine ⟨some x, (zs.take len0).map fun n => UInt8.ofNat n.toNat, cap0, by rw [hlen], ?_, .inr ⟨_, _, hx.1, ?_⟩⟩
    · intro hpos
      rw [hlen] at hpos
      refine ⟨x, rfl, ?_, fun j hj => ?_⟩
      · have h0 := hcell 0 (by omega)
        have := block_lt_of_cell h0
        rwa [block_of_add] at this
      · have hj' : j < len0 := by rw [hlen] at hj; exact hj
        rw [hcell j (by omega)]
        have hjz : j < zs.length := by omega
        have hb := bounds_u8 (hwz zs[j] (List.getElem_mem hjz))
        have e : zs.getD j 0 = zs[j] := by simp [List.getD, hjz]
        rw [e]
        congr 2
        simp only [List.getElem_map, List.getElem_take]
        rw [UInt8.toNat_ofNat']
        omega
    · rw [hlen]
      simp [lits]
      omega
theorem open_three (hv : Value.okWide Try.prog W .any base 59 v) (hj : DataW.Trod enc Try.prog W 0 (fun _ => true) true 59 v d p) :
    ∃ a b c : Int, v = .agg #[.int .i64 a, .int .i64 b, .int .i64 c] ∧ (-9223372036854775808 ≤ a ∧ a ≤ 9223372036854775807) ∧ (-9223372036854775808 ≤ b ∧ b ≤ 9223372036854775807) ∧ (-9223372036854775808 ≤ c ∧ c ≤ 9223372036854775807) := by
  simp only [Value.okWide, Try.underlying59] at hv
  obtain ⟨cs, rfl, hsz, _⟩ := hv
  have h3 : Try.prog.cellsOf 59 = 3 := by kernel_rfl
  obtain ⟨c0, c1, c2, rfl⟩ := Joins.array3 (hsz.trans h3)
  obtain ⟨fuel, hf⟩ := hj
  obtain ⟨y0, y1, y2, n, _, h0, h1, h2⟩ := trod_array3 Try.underlying59 (by kernel_rfl) hf
  obtain ⟨a, e0, _, wa⟩ := DataW.trod_int Try.underlying3 h0
  obtain ⟨b, e1, _, wb⟩ := DataW.trod_int Try.underlying3 h1
  obtain ⟨c, e2, _, wc⟩ := DataW.trod_int Try.underlying3 h2
  simp at e0 e1 e2
  subst e0 e1 e2
  exact ⟨a, b, c, rfl, bounds_i64 wa, bounds_i64 wb, bounds_i64 wc⟩
end
end Go.Proofs.Ytlkmhmiaekmkdaa
