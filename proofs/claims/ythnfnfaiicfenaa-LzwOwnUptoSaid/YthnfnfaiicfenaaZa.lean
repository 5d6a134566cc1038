/- What a kind of LZW does otherwise than another: its signs, its widths. -/
import Derived.Test.YthnfnfaiicfenaaZm
import Derived.Test.YthnfnfaiicfenaaRf
import Derived.Test.YthnfnfaiicfenaaAs
import Derived.Test.YthnfnfaiicfenaaVs
import Derived.Lib.Walk
import Derived.Lib.Strings
import Derived.Lib.Slices
import Derived.Lib.Small
namespace Go.Proofs.Ythnfnfaiicfenaa
open Go.ChangeShapes Go.WideShapes Go.ChangeAt Go.RowKit

theorem bitLen16 (x : Nat) (h : x < 65536) : Lib.bitLen x ≤ 16 ∧ (256 ≤ x → Lib.bitLen x = 8 + Lib.bitLen (x / 256)) := by
  by_cases h1 : 256 ≤ x
  · have e := Lib.bitLen_shift8 x h1 (by omega)
    have l := Lib.bitLen_le8 ⟨x / 256, by omega⟩
    simp only at l
    exact ⟨by omega, fun _ => e⟩
  · have l := Lib.bitLen_le8 ⟨x, by omega⟩
    simp only at l
    exact ⟨by omega, fun h => by omega⟩
theorem tab_len (i : Nat) (h : i < Lib.len8tab.size) : ((Lib.len8tab[i].toNat : Nat) : Int) = (Lib.bitLen i : Int) := by
  rw [Lib.len8tab_size] at h
  have e := Lib.len8_of (i : Int) (by omega) (by omega)
  unfold Lib.len8 at e
  simp only [Int.toNat_natCast] at e
  rw [← e, getElem?_pos _ _ (by rw [Lib.len8tab_size]; exact h)]
  rfl
theorem tab_lenI (x : Int) (h0 : 0 ≤ x) (h : x.toNat < Lib.len8tab.size) (h1 : x < 256) : wrap64 ((Lib.len8tab[x.toNat].toNat : Nat) : Int) = (Lib.bitLen x.toNat : Int) := by
  rw [tab_len _ h]
  have l := Lib.bitLen_le8 ⟨x.toNat, by omega⟩
  simp only at l
  exact IntWalk.wrap64_in _ ⟨by omega, by omega⟩
theorem ret_i64 {a b : Int} (h : a = b) : Ending.returned (.int .i64 a) = .returned (.int .i64 b) := by rw [h]
set_option maxHeartbeats 4000000 in
set_option maxRecDepth 100000 in
theorem len64_any (x : Int) (w : World) (h0 : 0 ≤ x) (h1 : x < 65536) :
    Calls Try.prog 72 #[.int .u64 x] w fun e w' => e = .returned (.int .i64 (Lib.bitLen x.toNat : Nat)) ∧ w = w' := by
  have z0 : x % 256 < (Lib.len8tab.size : Int) := by rw [Lib.len8tab_size]; omega
  have z1 : x / 256 % 256 < (Lib.len8tab.size : Int) := by rw [Lib.len8tab_size]; omega
  go_enter Try.func72, Try.ntmps72
  by_cases hx : x < 256
  · have z2 : x < (Lib.len8tab.size : Int) := by rw [Lib.len8tab_size]; omega
    go_wp2
    go_ret
    refine ⟨ret_i64 ?_, rfl⟩
    rw [tab_lenI x h0 _ hx]
    have l := (bitLen16 x.toNat (by omega)).1
    exact IntWalk.wrap64_in _ ⟨by omega, by omega⟩
  · have z2 : x / 256 < (Lib.len8tab.size : Int) := by rw [Lib.len8tab_size]; omega
    go_wp2
    go_ret
    refine ⟨ret_i64 ?_, rfl⟩
    rw [tab_lenI (x / 256) (by omega) _ (by omega)]
    have l := Lib.bitLen_le8 ⟨x.toNat / 256, by omega⟩
    simp only at l
    have s := (bitLen16 x.toNat (by omega)).2 (by omega)
    have e : (x / 256).toNat = x.toNat / 256 := by omega
    rw [e, s]
    exact IntWalk.wrap64_in _ ⟨by omega, by omega⟩
set_option maxHeartbeats 4000000 in
theorem len_any (x : Int) (w : World) (h0 : 0 ≤ x) (h1 : x < 65536) :
    Calls Try.prog 60 #[.int .u64 x] w fun e w' => e = .returned (.int .i64 (Lib.bitLen x.toNat : Nat)) ∧ w = w' := by
  go_enter Try.func60, Try.ntmps60
  go_wp2_with ((with_reducible refine (len64_any _ _ h0 h1).mono ?_); rintro e w' ⟨rfl, rfl⟩)
  go_ret
  exact ⟨rfl, rfl⟩

def clr (size : Nat) : Nat := 2 ^ size
theorem clr_le {size : Nat} (h1 : 2 ≤ size) (h2 : size ≤ 8) : 4 ≤ clr size ∧ clr size ≤ 256 := by
  unfold clr
  have a := Nat.pow_le_pow_right (n := 2) (by omega) h1
  have b := Nat.pow_le_pow_right (n := 2) (by omega) h2
  exact ⟨a, b⟩
def AnswersB (n : Int) (w : World) (e : Ending) (w' : World) : Prop := e = .returned (.int .i64 n) ∧ Below w.heap.size w w'
set_option maxHeartbeats 4000000 in
theorem clear_any (size : Nat) (high : Bool) (early : Nat) (w : World) (h1 : 2 ≤ size) (h2 : size ≤ 8) :
    Calls Try.prog 32 #[(.agg #[.int .i64 (size : Int), .bool high, .int .i64 (early : Int)])] w (AnswersB (clr size : Nat) w) := by
  go_enter Try.func32, Try.ntmps32
  go_wp2
  go_ret
  refine ⟨ret_i64 ?_, (Below.refl _ _).alloc (Nat.le_refl _) _⟩
  have hc := clr_le h1 h2
  have e : (2 : Int) ^ size = (clr size : Nat) := by unfold clr; exact (Int.natCast_pow 2 size).symm
  rw [e]
  exact IntWalk.wrap64_in _ ⟨by omega, by omega⟩
set_option maxHeartbeats 4000000 in
theorem end_any (size : Nat) (high : Bool) (early : Nat) (w : World) (h1 : 2 ≤ size) (h2 : size ≤ 8) :
    Calls Try.prog 40 #[(.agg #[.int .i64 (size : Int), .bool high, .int .i64 (early : Int)])] w (AnswersB ((clr size : Nat) + 1) w) := by
  have hc := clr_le h1 h2
  go_enter Try.func40, Try.ntmps40
  go_wp2_with ((with_reducible refine (clear_any size high early _ h1 h2).mono ?_); rintro e w1 ⟨rfl, hb1⟩)
  go_ret
  exact ⟨rfl, ((Below.refl _ _).alloc (Nat.le_refl _) _).trans (hb1.mono (by simp))⟩
set_option maxHeartbeats 4000000 in
theorem first_any (size : Nat) (high : Bool) (early : Nat) (w : World) (h1 : 2 ≤ size) (h2 : size ≤ 8) :
    Calls Try.prog 48 #[(.agg #[.int .i64 (size : Int), .bool high, .int .i64 (early : Int)])] w (AnswersB ((clr size : Nat) + 2) w) := by
  have hc := clr_le h1 h2
  go_enter Try.func48, Try.ntmps48
  go_wp2_with ((with_reducible refine (end_any size high early _ h1 h2).mono ?_); rintro e w1 ⟨rfl, hb1⟩)
  go_ret
  exact ⟨ret_i64 (by omega), ((Below.refl _ _).alloc (Nat.le_refl _) _).trans (hb1.mono (by simp))⟩
set_option maxHeartbeats 4000000 in
theorem width_any (size : Nat) (high : Bool) (early n : Nat) (w : World) (hn : n + early < 65536) :
    Calls Try.prog 38 #[(.agg #[.int .i64 (size : Int), .bool high, .int .i64 (early : Int)]), .int .i64 (n : Int)] w (AnswersB (wM early n : Nat) w) := by
  go_enter Try.func38, Try.ntmps38
  go_wp2_with ((with_reducible refine (len_any _ _ (by omega) (by omega)).mono ?_); rintro e w1 ⟨rfl, rfl⟩)
  go_ret
  refine ⟨ret_i64 ?_, (Below.refl _ _).alloc (Nat.le_refl _) _⟩
  unfold wM
  omega
theorem gif_any (size : Nat) (w : World) :
    Calls Try.prog 24 #[.int .i64 (size : Int)] w fun e w' => e = .returned ((.agg #[.int .i64 (size : Int), .bool false, .int .i64 0])) ∧ Below w.heap.size w w' := by
  go_enter Try.func24, Try.ntmps24
  go_wp2
  exact bodyPost_ret (v := .agg #[.int .i64 (size : Int), .bool false, .int .i64 0]) (by simp [results, Try.results24, go_sem]) rfl ⟨rfl, (Below.refl _ _).alloc (Nat.le_refl _) _⟩
theorem tiff_any (w : World) :
    Calls Try.prog 26 #[] w fun e w' => e = .returned ((.agg #[.int .i64 8, .bool true, .int .i64 1])) ∧ Below w.heap.size w w' := by
  go_enter Try.func26, Try.ntmps26
  go_wp2
  exact bodyPost_ret (v := .agg #[.int .i64 8, .bool true, .int .i64 1]) (by simp [results, Try.results26, go_sem]) rfl ⟨rfl, (Below.refl _ _).alloc (Nat.le_refl _) _⟩
end Go.Proofs.Ythnfnfaiicfenaa
