/- Contracts of the document's prefix codes: Room, Codes. -/
import Derived.Test.YthbdhpciibjnmaaVs
import Derived.Test.YthbdhpciibjnmaaCm
import Derived.Test.YthbdhpciibjnmaaRows
import Derived.WalkKit
import Derived.ProofKit
import Derived.OpenShut
import Derived.ChangeOld
import Derived.Below
import Derived.Lib.Hide
import Derived.Outline
import Derived.BigQuiet
import Derived.Deep.QuietTactic
namespace Go.Proofs.Ythbdhpciibjnmaa
open Go.ChangeShapes Go.WideShapes Go.ChangeAt Go.RowKit

theorem ret_ii {a b c d : Int} (h : a = b) (k : c = d) : Ending.returned (.tuple #[.int .i64 a, .int .i64 c]) = .returned (.tuple #[.int .i64 b, .int .i64 d]) := by rw [h, k]

theorem room_step (T x : Int) (h : 0 < x) (h1 : 0 ≤ T) (h2 : T ≤ 134217728) : wrap64 (65536 - T - wrap64 (2 ^ (16 - x).toNat)) = 65536 - (T + cost x) := by
  have hp := pow_le16 x h
  have e : ((2 : Int) ^ (16 - x).toNat) = ((2 ^ (16 - x).toNat : Nat) : Int) := by simp
  rw [cost_pos x h, e]
  generalize 2 ^ (16 - x).toNat = q at *
  have e2 : wrap64 (q : Int) = q := IntWalk.wrap64_in _ (by omega)
  rw [e2, IntWalk.wrap64_in _ (by omega)]
  omega
set_option maxHeartbeats 400000 in
theorem refRoom_any (A : Option Addr) (c : Nat) (l : List Int) (B : Nat) (w : World) (hbs : Is w B A l) (hl : l.length ≤ maxLen) :
    Calls Try.prog 70 #[.slice A l.length c] w fun e w' => e = .returned (.tuple #[.int .i64 (roomAns l), .int .i64 (roomErr l)]) ∧ w = w' := by
  unfold maxLen at hl
  by_cases h4 : 4096 < l.length
  · have HE := Lib.hid (roomErr_long l h4)
    have d1 : decide ((4096 : Int) < l.length) = true := by simp; omega
    go_enter Try.func70, Try.ntmps70
    go_wp2_with fail
    go_ret2
    exact ⟨ret_ii (by unfold roomAns; rw [HE.out]; rfl) HE.out.symm, rfl⟩
  · have d1 : decide ((4096 : Int) < l.length) = false := by simp; omega
    go_enter Try.func70, Try.ntmps70
    go_wp2_with fail
    go_loop [4, 5] (fun r i => ∃ k : Nat, k ≤ l.length ∧ i = .int .i64 k ∧ r = .int .i64 (65536 - taken (l.take k)) ∧ (l.take k).any badLen = false) (fun _ i => l.length - (intOf i).toNat)
    case atStart => exact ⟨0, by omega, rfl, by simp [taken], by simp⟩
    case round =>
      obtain ⟨k, hk, rfl, rfl, hg⟩ := hrel
      have HG := Lib.hid hg; clear hg
      obtain ⟨tb1, tb2⟩ := taken_take_bd l k (by omega)
      by_cases hlt : k < l.length
      · obtain ⟨ad, rfl, _, hcb⟩ := hbs.at_ hlt
        have HT := Lib.hid (taken_take l k hlt)
        have HA := Lib.hid (any_take l k hlt HG.out)
        have HB := Lib.hid (any_at l k hlt)
        generalize l[k] = x at *
        by_cases hx : x < 0 ∨ 16 < x
        · have HE := Lib.hid (roomErr_bad l (by omega) (HB.out (by unfold badLen; simp; omega)))
          by_cases hx0 : x < 0
          · have e1 : decide (x < 0) = true := by simp; omega
            clear hx
            go_wp2_with fail
            go_ret2
            exact ⟨ret_ii (by unfold roomAns; rw [HE.out]; rfl) HE.out.symm, rfl⟩
          · have e1 : decide (x < 0) = false := by simp; omega
            have e2 : decide (16 < x) = true := by simp; omega
            clear hx
            go_wp2_with fail
            go_ret2
            exact ⟨ret_ii (by unfold roomAns; rw [HE.out]; rfl) HE.out.symm, rfl⟩
        · have e1 : decide (x < 0) = false := by simp; omega
          have e2 : decide (16 < x) = false := by simp; omega
          have HA2 := Lib.hid (HA.out (by unfold badLen; rw [e1, e2]; rfl))
          by_cases hx0 : 0 < x
          · have HC := Lib.hid (cost_pos x hx0)
            have hx16 : x ≤ 16 := by omega
            have HS := Lib.hid (room_step _ x hx0 tb1 tb2)
            go_wp2_with fail
            go_round
            case rel => exact ⟨k + 1, by omega, by go_num, by rw [HS.out, HT.out], HA2.out⟩
            case measure => simp [intOf]; omega
          · have HC := Lib.hid (cost_none x hx0)
            have e3 : decide (0 < x) = false := by simp; omega
            go_wp2_with fail
            go_round
            case rel => exact ⟨k + 1, by omega, by go_num, by rw [HT.out, HC.out]; simp, HA2.out⟩
            case measure => simp [intOf]; omega
      · have hkn : k = l.length := by omega
        subst hkn
        have HE := Lib.hid (roomErr_ok l (by omega) (by have := HG.out; rwa [List.take_length] at this))
        go_wp2_with fail
        go_ret2
        exact ⟨ret_ii (by unfold roomAns; rw [if_pos HE.out]; simp [roomOf]) HE.out.symm, rfl⟩
end Go.Proofs.Ythbdhpciibjnmaa
