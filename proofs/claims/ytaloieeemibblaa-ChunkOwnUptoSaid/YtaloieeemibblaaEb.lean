/- The nearest of three bytes; what a byte is held against. -/
import Derived.Test.YtaloieeemibblaaEa
import Derived.Test.YtaloieeemibblaaG
import Derived.Deep.CutBlock
set_option linter.unusedVariables false
set_option linter.unusedSimpArgs false
namespace Go.Proofs.Ytaloieeemibblaa
open Go.ChangeShapes Go.WideShapes Go.ChangeAt Go.RowKit

theorem ix2 (a b : Value) (w : World) : (Instr.index 94 (.agg #[a, b]) (.int .i64 0)).run Try.prog w = .ok a w ∧ (Instr.index 94 (.agg #[a, b]) (.int .i64 1)).run Try.prog w = .ok b w := by
  refine ⟨?_, ?_⟩ <;> simp [Instr.index, run_underlying Try.underlying94, asIntOf, go_sem]
theorem dist_any (a b c x : Nat) (ha : a < 256) (hb : b < 256) (hc : c < 256) (hx : x < 256) (P : Int) (hP : P = (a : Int) + b - c) (d : Nat) (hd : d = dst a b c x) (w : World) :
    Calls Try.prog 66 #[.int .i64 (x : Int), .int .i64 P] w fun e w' => e = .returned (.int .i64 (d : Int)) ∧ w' = w :=
  distance_any _ _ d (by rw [hd, hP]; rfl) (by omega) (by omega) w
theorem nr_one (a b c : Nat) : nr a b c 1 = if dst a b c b < dst a b c a then b else a := rfl
theorem nr_more (a b c : Nat) : nr a b c 2 = if dst a b c c < dst a b c (nr a b c 1) then c else nr a b c 1 := rfl
set_option maxRecDepth 100000 in
set_option maxHeartbeats 1000000 in
theorem nearest_any (a b c : Nat) (ha : a < 256) (hb : b < 256) (hc : c < 256) (w : World) :
    Calls Try.prog 56 #[.int .u8 (a : Int), .int .u8 (b : Int), .int .u8 (c : Int)] w fun e w' => e = .returned (.int .u8 (pae a b c : Nat)) ∧ w' = w := by
  rw [← nr_two]
  have hn1 := nr_lt ha hb hc 1
  obtain ⟨q0, q1⟩ := ix2 (.int .u8 (b : Int)) (.int .u8 (c : Int)) w
  obtain ⟨P, hP⟩ : ∃ P, P = (a : Int) + b - c := ⟨_, rfl⟩
  have HP := Lib.hid hP
  go_enter Try.func56, Try.ntmps56
  go_wp2_with fail
  rw [← hP]
  clear hP
  go_loopw [8, 23] (fun v i wr => ∃ k : Nat, k ≤ 2 ∧ i = .int .i64 (k : Int) ∧ v = .int .u8 (nr a b c k : Nat) ∧ wr = w) (fun _ i _ => 2 - (intOf i).toNat)
  case atStart => exact ⟨0, by omega, rfl, rfl, rfl⟩
  case round =>
    obtain ⟨k, hk, rfl, rfl, rfl⟩ := hrel
    by_cases h2 : k = 2
    · subst h2
      go_wp2_with fail
      go_ret
      exact ⟨rfl, rfl⟩
    · have hk2 : k = 0 ∨ k = 1 := by omega
      rcases hk2 with rfl | rfl
      · obtain ⟨d1, hd1⟩ : ∃ d, d = dst a b c b := ⟨_, rfl⟩
        obtain ⟨d2, hd2⟩ : ∃ d, d = dst a b c a := ⟨_, rfl⟩
        have HD1 := Lib.hid hd1; have HD2 := Lib.hid hd2
        have HN := Lib.hid (nr_one a b c)
        rw [show nr a b c 0 = a from rfl]
        clear hd1 hd2
        by_cases hlt : d1 < d2
        · go_wp2_with fail
          refine (dist_any a b c b ha hb hc hb P HP.out d1 HD1.out _).mono ?_
          rintro e w' ⟨rfl, rfl⟩
          go_wp2_with fail
          refine (dist_any a b c a ha hb hc ha P HP.out d2 HD2.out _).mono ?_
          rintro e w' ⟨rfl, rfl⟩
          go_wp2_with fail
          go_roundw
          case rel => exact ⟨1, by omega, by go_num, by rw [HN.out, ← HD1.out, ← HD2.out, if_pos hlt], by trivial⟩
          case measure => simp [intOf]
        · go_wp2_with fail
          refine (dist_any a b c b ha hb hc hb P HP.out d1 HD1.out _).mono ?_
          rintro e w' ⟨rfl, rfl⟩
          go_wp2_with fail
          refine (dist_any a b c a ha hb hc ha P HP.out d2 HD2.out _).mono ?_
          rintro e w' ⟨rfl, rfl⟩
          go_wp2_with fail
          go_roundw
          case rel => exact ⟨1, by omega, by go_num, by rw [HN.out, ← HD1.out, ← HD2.out, if_neg hlt], by trivial⟩
          case measure => simp [intOf]
      · obtain ⟨m, hm⟩ : ∃ m, m = nr a b c 1 := ⟨_, rfl⟩
        have HM := Lib.hid hm
        have hm2 : m < 256 := by omega
        rw [← hm]
        obtain ⟨d1, hd1⟩ : ∃ d, d = dst a b c c := ⟨_, rfl⟩
        obtain ⟨d2, hd2⟩ : ∃ d, d = dst a b c m := ⟨_, rfl⟩
        have HD1 := Lib.hid hd1; have HD2 := Lib.hid hd2
        have HN := Lib.hid (nr_more a b c)
        clear hd1 hd2 hm hn1
        by_cases hlt : d1 < d2
        · go_wp2_with fail
          refine (dist_any a b c c ha hb hc hc P HP.out d1 HD1.out _).mono ?_
          rintro e w' ⟨rfl, rfl⟩
          go_wp2_with fail
          refine (dist_any a b c m ha hb hc hm2 P HP.out d2 HD2.out _).mono ?_
          rintro e w' ⟨rfl, rfl⟩
          go_wp2_with fail
          go_roundw
          case rel => exact ⟨2, by omega, by go_num, by rw [HN.out, ← HM.out, ← HD1.out, ← HD2.out, if_pos hlt], by trivial⟩
          case measure => simp [intOf]
        · go_wp2_with fail
          refine (dist_any a b c c ha hb hc hc P HP.out d1 HD1.out _).mono ?_
          rintro e w' ⟨rfl, rfl⟩
          go_wp2_with fail
          refine (dist_any a b c m ha hb hc hm2 P HP.out d2 HD2.out _).mono ?_
          rintro e w' ⟨rfl, rfl⟩
          go_wp2_with fail
          go_roundw
          case rel => exact ⟨2, by omega, by go_num, by rw [HN.out, ← HM.out, ← HD1.out, ← HD2.out, if_neg hlt], by trivial⟩
          case measure => simp [intOf]
/-- What byte i of a row is held against. -/
def gsB (kind bpp i : Nat) (r ab : List UInt8) : Nat := gsN kind (if bpp ≤ i then byteAt r (i - bpp) else 0) (byteAt ab i) (if bpp ≤ i then byteAt ab (i - bpp) else 0)
theorem gsB_lt (kind bpp i : Nat) (r ab : List UInt8) : gsB kind bpp i r ab < 256 := by
  have h := fun l k => byteAt_lt l k
  unfold gsB
  refine gsN_lt kind ?_ (h _ _) ?_ <;> split <;> first | exact h _ _ | omega
end Go.Proofs.Ytaloieeemibblaa
