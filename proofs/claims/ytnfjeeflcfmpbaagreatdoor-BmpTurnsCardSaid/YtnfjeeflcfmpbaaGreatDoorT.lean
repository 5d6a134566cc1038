/- Contract of the reader's Take: the next n bits as their number, in the reader's order. -/
import Derived.Test.YtnfjeeflcfmpbaaGreatDoorU
namespace Go.Proofs.YtnfjeeflcfmpbaaGreatDoor
open Go.ChangeShapes Go.WideShapes Go.ChangeAt Go.RowKit

set_option maxHeartbeats 4000000 in
set_option maxRecDepth 100000 in
theorem take_any (w : World) (base g : Nat) (A : Option Addr) (c : Nat) (l : List UInt8) (high : Bool) (at_ n : Nat) (h : Rdr w base g A c l high at_) (hn : n ≤ 32) (hl : at_ + n ≤ 8 * l.length) :
    Calls Tryz.prog 122 #[.pointer (some ⟨g, 0, none⟩), .int .i64 (n : Int)] w fun e w' =>
      e = .returned (.tuple #[.int .u32 ((num high (fun i => bitAt l high (at_ + i)) n : Nat) : Int), .int .i64 0]) ∧ Rdr w' base g A c l high (at_ + n) ∧ Upd (· = g) w w' := by
  have hb := h.2.2.2
  have d1 : decide ((n : Int) < 0) = false := by simp
  have d2 : decide ((32 : Int) < (n : Int)) = false := by simp; omega
  have d3 : decide (8 * (l.length : Int) - (at_ : Int) < (n : Int)) = false := by simp; omega
  generalize hf : (fun i => bitAt l high (at_ + i)) = f
  have HF := Lib.hid hf; clear hf
  go_enter Tryz.func122, Tryz.ntmps122
  go_wp2_with fail
  refine (left_any _ _ _ _ _ _ _ _ h).mono ?_
  rintro e w1 ⟨rfl, n1, rfl⟩
  go_wp2_with fail
  go_loopw [6, 7] (fun v i wr => ∃ k : Nat, k ≤ n ∧ i = .int .i64 k ∧ v = .int .u32 ((part high f k n : Nat) : Int) ∧ Rdr wr base g A c l high (at_ + k) ∧ Upd (· = g) w wr) (fun _ i _ => n - (intOf i).toNat)
  case atStart => exact ⟨0, by omega, rfl, by simp [part, numHi, numLo], h, (Upd.refl _ _).drewN _⟩
  case round =>
    obtain ⟨k, hk, rfl, rfl, hR, hU⟩ := hrel
    by_cases hlt : k < n
    · have hc0 := hR.data
      have hc1 := hR.place
      have hc2 := hR.shift
      have hfr := hR.free 1
      obtain ⟨ad, hA, _, hcb⟩ := (Bs.of_own hR.2.1).at_ (k := (at_ + k) / 8) (by omega)
      subst hA
      have hx := byte_lt l[(at_ + k) / 8]
      have hi1 : ((at_ : Int) + k) / 8 < (l.length : Int) := by omega
      have hi0 : (0 : Int) ≤ ((at_ : Int) + k) % 8 := by omega
      have hi2 : ((at_ : Int) + k) % 8 < 8 := by omega
      have HB : ∀ m, (at_ + k) % 8 + m < 8 → f (k + m) = l[(at_ + k) / 8].toNat.testBit (if high then 7 - ((at_ + k) % 8 + m) else (at_ + k) % 8 + m) := by
        intro m hm
        rw [← HF.out, ← bitAt_run l high (at_ + k) m hm (by omega), Nat.add_assoc]
      have HBH := Lib.hid HB; clear HB
      have hx2 : l[(at_ + k) / 8].toNat < 256 := UInt8.toNat_lt _
      have HR := Lib.hid hR; clear hR
      by_cases hm : 8 - ((at_ : Int) + k) % 8 ≤ (n : Int) - k
      all_goals
        cases high
        · simp only [ord] at hc2
          go_wp2_with fail
          go_quiet ((go_at_call 125; exact quiet_eq (lowFirst_any _ _ _ _)))
          go_wp2_with (go_at_call 125; refine (lowFirst_any _ _ _ _).mono ?_; rintro e w' ⟨rfl, rfl⟩)
          go_roundw
          case rel =>
            first
            | (have e : ((at_ : Int) + k + (8 - ((at_ : Int) + k) % 8)) = ((at_ + (k + (8 - (at_ + k) % 8)) : Nat) : Int) := by omega
               refine ⟨k + (8 - (at_ + k) % 8), by omega, by go_num, ?_, ?_, ?_⟩
               · rw [part_lo, part_lo, lo_close f _ _ _ _ hx2 (by omega) (by omega) (fun m hm => HBH.out m (by omega))]
               · rw [e]; exact HR.out.set_ _ (by omega)
               · exact (hU.drewN _).setCell (fun _ => rfl) _)
            | (have e : ((at_ : Int) + k + ((n : Int) - k)) = ((at_ + (k + (n - k)) : Nat) : Int) := by omega
               refine ⟨k + (n - k), by omega, by go_num, ?_, ?_, ?_⟩
               · rw [part_lo, part_lo, lo_close f _ _ _ _ hx2 (by omega) (by omega) (fun m hm => HBH.out m (by omega))]
               · rw [e]; exact HR.out.set_ _ (by omega)
               · exact (hU.drewN _).setCell (fun _ => rfl) _)
          case measure => simp [intOf]; omega
        · simp only [ord] at hc2
          go_wp2_with fail
          go_quiet ((go_at_call 124; exact quiet_eq (highFirst_any _ _ _ _ (by omega) (by omega) (by omega) (by omega) (by omega) (by omega))))
          go_wp2_with (go_at_call 124; refine (highFirst_any _ _ _ _ (by omega) (by omega) (by omega) (by omega) (by omega) (by omega)).mono ?_; rintro e w' ⟨rfl, rfl⟩)
          go_roundw
          case rel =>
            first
            | (have e : ((at_ : Int) + k + (8 - ((at_ : Int) + k) % 8)) = ((at_ + (k + (8 - (at_ + k) % 8)) : Nat) : Int) := by omega
               refine ⟨k + (8 - (at_ + k) % 8), by omega, by go_num, ?_, ?_, ?_⟩
               · rw [part_hi, part_hi, hi_close_a f _ _ _ _ hx2 (by omega) (by omega) hn (fun m hm => HBH.out m (by omega))]
               · rw [e]; exact HR.out.set_ _ (by omega)
               · exact (hU.drewN _).setCell (fun _ => rfl) _)
            | (have e : ((at_ : Int) + k + ((n : Int) - k)) = ((at_ + (k + (n - k)) : Nat) : Int) := by omega
               refine ⟨k + (n - k), by omega, by go_num, ?_, ?_, ?_⟩
               · rw [part_hi, part_hi, hi_close_b f _ _ _ _ hx2 (by omega) (by omega) hn (fun m hm => HBH.out m (by omega))]
               · rw [e]; exact HR.out.set_ _ (by omega)
               · exact (hU.drewN _).setCell (fun _ => rfl) _)
          case measure => simp [intOf]; omega
    · have hkn : k = n := by omega
      subst hkn
      go_wp2_with fail
      go_ret2
      refine ⟨?_, hR, hU⟩
      cases high <;> simp [part, num]
end Go.Proofs.YtnfjeeflcfmpbaaGreatDoor
