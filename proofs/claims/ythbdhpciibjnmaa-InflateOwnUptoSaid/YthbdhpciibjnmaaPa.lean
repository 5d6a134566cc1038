/- Contracts of the program's prefix codes: the faults of lengths, Room. -/
import Derived.Test.YthbdhpciibjnmaaRc
namespace Go.Proofs.Ythbdhpciibjnmaa
open Go.ChangeShapes Go.WideShapes Go.ChangeAt Go.RowKit

theorem ret_int1 {a b : Int} (h : a = b) : Ending.returned (.int .i64 a) = .returned (.int .i64 b) := by rw [h]
set_option maxHeartbeats 400000 in
theorem lengthsFault_any (A : Option Addr) (c : Nat) (l : List Int) (B : Nat) (w : World) (hbs : Is w B A l) (hl : l.length ≤ maxLen) :
    Calls Try.prog 86 #[.slice A l.length c] w fun e w' => e = .returned (.int .i64 (roomErr l)) ∧ w = w' := by
  unfold maxLen at hl
  by_cases h4 : 4096 < l.length
  · have HE := Lib.hid (roomErr_long l h4)
    have d1 : decide ((4096 : Int) < l.length) = true := by simp; omega
    go_enter Try.func86, Try.ntmps86
    go_wp2_with fail
    go_ret
    exact ⟨ret_int1 HE.out.symm, rfl⟩
  · have d1 : decide ((4096 : Int) < l.length) = false := by simp; omega
    go_enter Try.func86, Try.ntmps86
    go_wp2_with fail
    go_loop [10] (fun i => ∃ k : Nat, k ≤ l.length ∧ i = .int .i64 k ∧ (l.take k).any badLen = false) (fun i => l.length - (intOf i).toNat)
    case atStart => exact ⟨0, by omega, rfl, by simp⟩
    case round =>
      obtain ⟨k, hk, rfl, hg⟩ := hrel
      have HG := Lib.hid hg; clear hg
      by_cases hlt : k < l.length
      · obtain ⟨ad, rfl, _, hcb⟩ := hbs.at_ hlt
        have HA := Lib.hid (any_take l k hlt HG.out)
        have HB := Lib.hid (any_at l k hlt)
        generalize l[k] = x at *
        by_cases hx : x < 0 ∨ 16 < x
        · have HE := Lib.hid (roomErr_bad l (by omega) (HB.out (by unfold badLen; simp; omega)))
          by_cases hx0 : x < 0
          · have e1 : decide (x < 0) = true := by simp; omega
            clear hx
            go_wp2_with fail
            go_ret
            exact ⟨ret_int1 HE.out.symm, rfl⟩
          · have e1 : decide (x < 0) = false := by simp; omega
            have e2 : decide (16 < x) = true := by simp; omega
            clear hx
            go_wp2_with fail
            go_ret
            exact ⟨ret_int1 HE.out.symm, rfl⟩
        · have e1 : decide (x < 0) = false := by simp; omega
          have e2 : decide (16 < x) = false := by simp; omega
          have HA2 := Lib.hid (HA.out (by unfold badLen; rw [e1, e2]; rfl))
          clear hx
          go_wp2_with fail
          go_round
          case rel => exact ⟨k + 1, by omega, by go_num, HA2.out⟩
          case measure => simp [intOf]; omega
      · have hkn : k = l.length := by omega
        subst hkn
        have HE := Lib.hid (roomErr_ok l (by omega) (by have := HG.out; rwa [List.take_length] at this))
        go_wp2_with fail
        go_ret
        exact ⟨ret_int1 HE.out.symm, rfl⟩
theorem space_shift (x : Int) (h : 0 < x) (h16 : x ≤ 16) : (65536 : Int) / 2 ^ x.toNat = cost x := by
  rw [cost_pos x h]
  obtain ⟨n, rfl⟩ : ∃ n : Nat, x = n := ⟨x.toNat, by omega⟩
  have hn : n ≤ 16 := by omega
  rw [show ((n : Int)).toNat = n from by omega, show (16 - (n : Int)).toNat = 16 - n from by omega]
  have e : (65536 : Int) = 2 ^ (16 - n) * 2 ^ n := by rw [← Int.pow_add, show 16 - n + n = 16 from by omega]; rfl
  rw [e, Int.mul_ediv_cancel _ (by have : (0 : Int) < 2 ^ n := Int.pow_pos (by omega); omega)]
  simp
theorem roomErr_zero {l : List Int} (h : roomErr l = 0) : l.length ≤ 4096 ∧ l.any badLen = false := by
  unfold roomErr at h
  split at h
  · omega
  · split at h
    · omega
    · rename_i h1 h2
      exact ⟨by omega, by simpa using h2⟩

set_option maxHeartbeats 400000 in
theorem room_any (A : Option Addr) (c : Nat) (l : List Int) (B : Nat) (w : World) (hbs : Is w B A l) (hl : l.length ≤ maxLen) :
    Calls Try.prog 85 #[.slice A l.length c] w fun e w' => e = .returned (.tuple #[.int .i64 (roomAns l), .int .i64 (roomErr l)]) ∧ w = w' := by
  have HF := Lib.hid (lengthsFault_any A c l B w hbs hl)
  unfold maxLen at hl
  by_cases h0 : roomErr l = 0
  · obtain ⟨h4, hg⟩ := roomErr_zero h0
    have HG := Lib.hid hg; clear hg
    have HE := Lib.hid h0
    rw [h0] at HF
    clear h0
    go_enter Try.func85, Try.ntmps85
    go_wp2_with fail
    refine HF.out.mono ?_
    rintro e w1 ⟨rfl, rfl⟩
    go_wp2_with fail
    go_loop [5, 15] (fun r i => ∃ k : Nat, k ≤ l.length ∧ i = .int .i64 k ∧ r = .int .i64 (65536 - taken (l.take k))) (fun _ i => l.length - (intOf i).toNat)
    case atStart => exact ⟨0, by omega, rfl, by simp [taken]⟩
    case round =>
      obtain ⟨k, hk, rfl, rfl⟩ := hrel
      obtain ⟨tb1, tb2⟩ := taken_take_bd l k h4
      by_cases hlt : k < l.length
      · obtain ⟨ad, rfl, _, hcb⟩ := hbs.at_ hlt
        have HT := Lib.hid (taken_take l k hlt)
        have hb := good_len l HG.out k hlt
        generalize l[k] = x at *
        obtain ⟨b0, b1⟩ := hb
        by_cases hx0 : 0 < x
        · have hs := space_shift x hx0 b1
          have c0 := cost_nonneg x
          have c1 := cost_le x
          have e3 : decide (0 < x) = true := by simp; omega
          go_wp2_with fail
          go_round
          case rel => exact ⟨k + 1, by omega, by go_num, by rw [HT.out]; congr 1; omega⟩
          case measure => simp [intOf]; omega
        · have HC := Lib.hid (cost_none x hx0)
          have e3 : decide (0 < x) = false := by simp; omega
          go_wp2_with fail
          go_round
          case rel => exact ⟨k + 1, by omega, by go_num, by rw [HT.out, HC.out]; simp⟩
          case measure => simp [intOf]; omega
      · have hkn : k = l.length := by omega
        subst hkn
        go_wp2_with fail
        go_ret2
        exact ⟨ret_ii (by unfold roomAns; rw [if_pos HE.out]; simp [roomOf]) HE.out.symm, rfl⟩
  · have d1 : (roomErr l != 0) = true := by simpa using h0
    have HA : Hid (roomAns l = 0) := Lib.hid (by unfold roomAns; rw [if_neg h0])
    generalize roomErr l = x at *
    go_enter Try.func85, Try.ntmps85
    go_wp2_with fail
    refine HF.out.mono ?_
    rintro e w1 ⟨rfl, rfl⟩
    go_wp2_with fail
    go_ret2
    exact ⟨ret_ii HA.out.symm rfl, rfl⟩
theorem codesFault_any (A : Option Addr) (c : Nat) (l : List Int) (B : Nat) (w : World) (hbs : Is w B A l) (hl : l.length ≤ maxLen) :
    Calls Try.prog 82 #[.slice A l.length c] w fun e w' => e = .returned (.int .i64 (codesErr l)) ∧ w = w' := by
  have HF := Lib.hid (room_any A c l B w hbs hl)
  unfold maxLen at hl
  by_cases h0 : roomErr l = 0
  · have e1 : roomAns l = roomOf l := by unfold roomAns; rw [if_pos h0]
    have hE : codesErr l = if roomOf l < 0 then 30 else 0 := by unfold codesErr; rw [if_pos h0]
    rw [h0, e1] at HF
    clear e1 h0
    by_cases hr : roomOf l < 0
    · rw [if_pos hr] at hE
      have HE := Lib.hid hE; clear hE
      have d1 : decide (roomOf l < 0) = true := by simp; omega
      go_enter Try.func82, Try.ntmps82
      go_wp2_with fail
      refine HF.out.mono ?_
      rintro e w1 ⟨rfl, rfl⟩
      go_wp2_with fail
      go_ret
      exact ⟨ret_int1 HE.out.symm, rfl⟩
    · rw [if_neg hr] at hE
      have HE := Lib.hid hE; clear hE
      have d1 : decide (roomOf l < 0) = false := by simp; omega
      go_enter Try.func82, Try.ntmps82
      go_wp2_with fail
      refine HF.out.mono ?_
      rintro e w1 ⟨rfl, rfl⟩
      go_wp2_with fail
      go_ret
      exact ⟨ret_int1 HE.out.symm, rfl⟩
  · have HE : Hid (codesErr l = roomErr l) := Lib.hid (by unfold codesErr; rw [if_neg h0])
    have d1 : (roomErr l != 0) = true := by simpa using h0
    generalize roomErr l = x at *
    go_enter Try.func82, Try.ntmps82
    go_wp2_with fail
    refine HF.out.mono ?_
    rintro e w1 ⟨rfl, rfl⟩
    go_wp2_with fail
    go_ret
    exact ⟨ret_int1 HE.out.symm, rfl⟩
end Go.Proofs.Ythbdhpciibjnmaa
