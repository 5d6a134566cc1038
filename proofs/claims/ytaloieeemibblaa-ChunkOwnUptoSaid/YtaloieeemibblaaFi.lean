/- Joined texts (a claim has at most 60 files). -/
import Derived.Test.YtaloieeemibblaaEs
import Derived.Test.YtaloieeemibblaaFg
/- The document's first eight bytes, a number's four bytes, four letters. -/
set_option linter.unusedVariables false
set_option linter.unusedSimpArgs false
namespace Go.Proofs.Ytaloieeemibblaa
open Go.ChangeShapes Go.WideShapes Go.ChangeAt Go.RowKit

set_option maxHeartbeats 400000 in
theorem sign_any (w : World) : Calls Try.prog 30 #[] w fun e w' => e = .returned (.slice (some ⟨w.heap.size, 0, none⟩) 8 8) ∧ w' = w.alloc (.cells (bytesV mkL).toArray 5) := by
  go_enter Try.func30, Try.ntmps30
  go_wp2_with fail
  go_ret
  exact ⟨rfl, rfl⟩
set_option maxHeartbeats 400000 in
theorem four_any (v : Nat) (hv : v < 4294967296) (w : World) : Calls Try.prog 37 #[.int .u32 (v : Nat)] w fun e w' => e = .returned (.slice (some ⟨w.heap.size, 0, none⟩) 4 4) ∧ w' = w.alloc (.cells (bytesV (beB v)).toArray 5) := by
  go_enter Try.func37, Try.ntmps37
  go_wp2_with fail
  go_ret
  have h1 : (v : Int) / (16777216 : Int) = ((UInt8.ofNat (v >>> 24)).toNat : Int) := by rw [UInt8.toNat_ofNat', Nat.shiftRight_eq_div_pow]; omega
  have h2 : (v : Int) / (65536 : Int) % (256 : Int) = ((UInt8.ofNat (v >>> 16)).toNat : Int) := by rw [UInt8.toNat_ofNat', Nat.shiftRight_eq_div_pow]; omega
  have h3 : (v : Int) / (256 : Int) % (256 : Int) = ((UInt8.ofNat (v >>> 8)).toNat : Int) := by rw [UInt8.toNat_ofNat', Nat.shiftRight_eq_div_pow]; omega
  have h4 : (v : Int) % (256 : Int) = ((UInt8.ofNat v).toNat : Int) := by rw [UInt8.toNat_ofNat']; omega
  rw [h1, h2, h3, h4]
  exact ⟨rfl, rfl⟩
end Go.Proofs.Ytaloieeemibblaa

/- Four letters, the document's. -/
set_option linter.unusedVariables false
set_option linter.unusedSimpArgs false
namespace Go.Proofs.Ytaloieeemibblaa
open Go.ChangeShapes Go.WideShapes Go.ChangeAt Go.RowKit

set_option maxRecDepth 100000 in
set_option maxHeartbeats 1000000 in
theorem letters_any (s : ByteArray) (n : Nat) (hn : s.size = n) (hm : n ≤ 140737488355328) (w : World) :
    Calls Try.prog 32 #[.string s] w fun e w' => e = .returned (.bool (tyB (sb s))) ∧ w' = w := by
  have hlen := sb_len s
  rw [hn] at hlen
  go_enter Try.func32, Try.ntmps32
  go_wp2_with fail
  go_loopw [3] (fun i wr => ∃ k : Nat, k ≤ n ∧ i = .int .i64 (k : Int) ∧ ((sb s).take k).all letB = true ∧ wr = w) (fun i _ => n - (intOf i).toNat)
  case atStart => exact ⟨0, Nat.zero_le _, rfl, by simp, rfl⟩
  case round =>
    obtain ⟨k, hk, rfl, hall, rfl⟩ := hrel
    have HALL := Lib.hid hall
    clear hall
    by_cases hlt : k < n
    · have hkl : k < (sb s).length := by omega
      have hks : k < s.size := by omega
      have hx : s[k].toNat = (sb s)[k].toNat := rfl
      have hb := (sb s)[k].toNat_lt
      have HNX : Hid (letB (sb s)[k] = true → ((sb s).take (k + 1)).all letB = true) := Lib.hid (fun h => all_take_next HALL.out hkl h)
      have HLB : Hid (letB (sb s)[k] = (capB (sb s)[k].toNat || smaB (sb s)[k].toNat)) := Lib.hid rfl
      have HBAD : Hid (letB (sb s)[k] = false → tyB (sb s) = false) := Lib.hid (fun h => by
        have : (sb s).all letB = false := by
          rw [List.all_eq_false]
          exact ⟨_, List.getElem_mem _, by rw [h]; simp⟩
        unfold tyB
        rw [this]
        rfl)
      generalize letB (sb s)[k] = lb at *
      generalize (sb s)[k].toNat = x at *
      have hcs : x < 65 ∨ (65 ≤ x ∧ x ≤ 90) ∨ (90 < x ∧ x < 97) ∨ (97 ≤ x ∧ x ≤ 122) ∨ 122 < x := by omega
      have HL : Hid (lb = (decide (65 ≤ x ∧ x ≤ 90) || decide (97 ≤ x ∧ x ≤ 122))) := HLB
      clear HLB
      rcases hcs with h | ⟨h1, h2⟩ | ⟨h1, h2⟩ | ⟨h1, h2⟩ | h
      · have HB := Lib.hid (HBAD.out (by rw [HL.out]; simp; omega))
        clear HNX HBAD HL
        have q1 : 90 < x → decide ((x : Int) ≤ 90) = false := fun h => by simp; omega
        have q2 : 122 < x → decide ((x : Int) ≤ 122) = false := fun h => by simp; omega
        have q1 := q1
        first | (have q3 := q1 (by omega)) | skip
        first | (have q4 := q2 (by omega)) | skip
        clear q1 q2
        go_wp2_with fail
        go_ret
        exact ⟨ret_bool HB.out.symm, rfl⟩
      · have HN := Lib.hid (HNX.out (by rw [HL.out]; simp; omega))
        clear HNX HBAD HL
        have q1 : 90 < x → decide ((x : Int) ≤ 90) = false := fun h => by simp; omega
        have q2 : x ≤ 90 → decide ((x : Int) ≤ 90) = true := fun h => by simp; omega
        have q5 : x ≤ 122 → decide ((x : Int) ≤ 122) = true := fun h => by simp; omega
        first | (have q3 := q1 (by omega)) | (have q3 := q2 (by omega)) | skip
        first | (have q4 := q5 (by omega)) | skip
        clear q1 q2 q5
        go_wp2_with fail
        go_roundw
        case rel => exact ⟨k + 1, by omega, by go_num, HN.out, trivial⟩
        case measure => simp [intOf]; omega
      · have HB := Lib.hid (HBAD.out (by rw [HL.out]; simp; omega))
        clear HNX HBAD HL
        have q1 : 90 < x → decide ((x : Int) ≤ 90) = false := fun h => by simp; omega
        have q2 : 122 < x → decide ((x : Int) ≤ 122) = false := fun h => by simp; omega
        have q1 := q1
        first | (have q3 := q1 (by omega)) | skip
        first | (have q4 := q2 (by omega)) | skip
        clear q1 q2
        go_wp2_with fail
        go_ret
        exact ⟨ret_bool HB.out.symm, rfl⟩
      · have HN := Lib.hid (HNX.out (by rw [HL.out]; simp; omega))
        clear HNX HBAD HL
        have q1 : 90 < x → decide ((x : Int) ≤ 90) = false := fun h => by simp; omega
        have q2 : x ≤ 90 → decide ((x : Int) ≤ 90) = true := fun h => by simp; omega
        have q5 : x ≤ 122 → decide ((x : Int) ≤ 122) = true := fun h => by simp; omega
        first | (have q3 := q1 (by omega)) | (have q3 := q2 (by omega)) | skip
        first | (have q4 := q5 (by omega)) | skip
        clear q1 q2 q5
        go_wp2_with fail
        go_roundw
        case rel => exact ⟨k + 1, by omega, by go_num, HN.out, trivial⟩
        case measure => simp [intOf]; omega
      · have HB := Lib.hid (HBAD.out (by rw [HL.out]; simp; omega))
        clear HNX HBAD HL
        have q1 : 90 < x → decide ((x : Int) ≤ 90) = false := fun h => by simp; omega
        have q2 : 122 < x → decide ((x : Int) ≤ 122) = false := fun h => by simp; omega
        have q1 := q1
        first | (have q3 := q1 (by omega)) | skip
        first | (have q4 := q2 (by omega)) | skip
        clear q1 q2
        go_wp2_with fail
        go_ret
        exact ⟨ret_bool HB.out.symm, rfl⟩
    · obtain rfl : k = n := by omega
      have HT : Hid (tyB (sb s) = decide ((k : Int) = 4)) := Lib.hid (by
        have := HALL.out
        rw [List.take_of_length_le (by omega)] at this
        unfold tyB
        rw [this, Bool.true_and, Bool.eq_iff_iff]
        simp only [beq_iff_eq, decide_eq_true_eq]
        omega)
      have hk4 : (k : Int) = 4 ∨ ¬ (k : Int) = 4 := by omega
      go_wp2_with fail
      go_ret
      exact ⟨ret_bool (by rw [HT.out]; first | rfl | (rw [Bool.eq_iff_iff]; simp)), rfl⟩
end Go.Proofs.Ytaloieeemibblaa
