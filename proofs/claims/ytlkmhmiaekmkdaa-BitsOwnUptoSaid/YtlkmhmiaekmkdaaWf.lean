/- The document's writer of bits: put1. -/
import Derived.Test.YtlkmhmiaekmkdaaBk
import Derived.Test.YtlkmhmiaekmkdaaRb
namespace Go.Proofs.Ytlkmhmiaekmkdaa
open Go.ChangeShapes Go.WideShapes Go.ChangeAt Go.RowKit

theorem bit_add : ∀ x, x < 256 → ∀ k, k < 8 → x.testBit k = false → x + 2 ^ k < 256 ∧ ∀ j, j < 8 → (x + 2 ^ k).testBit j = (x.testBit j || decide (j = k)) := by decide +kernel
/-- A bit more, added where nothing was laid yet. -/
theorem put1_byte (high : Bool) (bs : List Bool) (l : List UInt8) (b : Bool) (h : Holds high bs l) (hq : bs.length / 8 < l.length) :
    ∃ y : UInt8, l[bs.length / 8].toNat + b.toNat * 2 ^ pos high (bs.length % 8) = y.toNat ∧ Holds high (bs ++ [b]) (l.set (bs.length / 8) y) := by
  have hx : l[bs.length / 8].toNat < 256 := by have := byte_lt l[bs.length / 8]; omega
  have hk := pos_lt high (bs.length % 8) (by omega)
  have hf := holds_free h hq (bs.length % 8) (Nat.le_refl _) (by omega)
  have hall := fun r (h1 : bs.length % 8 ≤ r) (h2 : r < 8) => holds_free h hq r h1 h2
  obtain ⟨hlt, hbits⟩ := bit_add _ hx _ hk hf
  have hpos : ∀ r, r < 8 → (pos high r = pos high (bs.length % 8) ↔ r = bs.length % 8) := fun r hr => ⟨fun e => by
    have := congrArg (pos high) e
    rwa [pos_pos high r hr, pos_pos high _ (by omega)] at this, fun e => by rw [e]⟩
  cases b
  · refine ⟨l[bs.length / 8], by simp, holds_put _ h hq (by simp; omega) (fun r hr => ?_)⟩
    by_cases hlr : r < bs.length % 8
    · rw [if_pos hlr]
    · rw [if_neg hlr, hall r (by omega) hr]
      rcases Nat.eq_or_lt_of_le (Nat.le_of_not_lt hlr) with e | e
      · simp [← e]
      · rw [List.getElem?_eq_none (by simp; omega)]; rfl
  · refine ⟨UInt8.ofNat (l[bs.length / 8].toNat + 2 ^ pos high (bs.length % 8)), by rw [UInt8.toNat_ofNat', Nat.mod_eq_of_lt hlt]; simp, holds_put _ h hq (by simp; omega) (fun r hr => ?_)⟩
    rw [UInt8.toNat_ofNat', Nat.mod_eq_of_lt hlt, hbits _ (pos_lt high r hr)]
    by_cases hlr : r < bs.length % 8
    · rw [if_pos hlr]
      have : ¬ pos high r = pos high (bs.length % 8) := fun e => by have := (hpos r hr).1 e; omega
      simp [this]
    · rw [if_neg hlr, hall r (by omega) hr]
      by_cases e : r = bs.length % 8
      · subst e; simp
      · have : ¬ pos high r = pos high (bs.length % 8) := fun e' => e ((hpos r hr).1 e')
        rw [List.getElem?_eq_none (by simp; omega)]
        simp [this]
end Go.Proofs.Ytlkmhmiaekmkdaa
