/- Contracts of Get, the program's and the document's. -/
import Derived.Test.YtaloieeemibblaaG
import Derived.Deep.LoopGhost
namespace Go.Proofs.Ytaloieeemibblaa
open Go.ChangeShapes Go.WideShapes Go.ChangeAt Go.RowKit

def pnum (big : Bool) (f : Nat → Nat) (k s : Nat) : Nat := if big then beNum f k <<< (8 * (s - k)) else leNum f k
theorem pnum_be (f : Nat → Nat) (k s : Nat) : pnum true f k s = beNum f k <<< (8 * (s - k)) := rfl
theorem pnum_le (f : Nat → Nat) (k s : Nat) : pnum false f k s = leNum f k := rfl
set_option maxHeartbeats 1000000 in
set_option maxRecDepth 100000 in
theorem get_ok (A : Option Addr) (c : Nat) (l : List UInt8) (at_ s : Nat) (big : Bool) (B : Nat) (w : World) (h : Bs w B A l) (hl : l.length ≤ 140737488355328) (hs : 1 ≤ s) (hs4 : s ≤ 4) (ha : at_ + s ≤ l.length) :
    Calls Try.prog 59 #[.slice A l.length c, .int .i64 (at_ : Int), .int .i64 (s : Int), .bool big] w fun e w' =>
      e = .returned (.tuple #[.int .u32 ((numB big (fun i => byteAt l (at_ + i)) s : Nat) : Int), .int .i64 0]) ∧ ∃ n, w' = w.drewN n := by
  have HE := Lib.hid (spanErr_ok (len := l.length) (at_ := (at_ : Int)) (size := (s : Int)) (by omega) (by omega))
  generalize hf : (fun i => byteAt l (at_ + i)) = f
  have hf256 : ∀ i, f i < 256 := fun i => by rw [← hf]; exact byteAt_lt _ _
  have HF := Lib.hid hf; clear hf
  have H256 := Lib.hid hf256; clear hf256
  go_enter Try.func59, Try.ntmps59
  go_wp2_with (go_at_call 62; refine (spanFault_any _ _ _ _ _ _ hl).mono ?_; rintro e w1 ⟨rfl, rfl⟩; rw [HE.out])
  go_loopw [11, 21] (fun v i wr => ∃ k : Nat, k ≤ s ∧ i = .int .i64 k ∧ v = .int .u32 ((pnum big f k s : Nat) : Int) ∧ ∃ n, wr = w.drewN n) (fun _ i _ => s - (intOf i).toNat)
  case atStart => exact ⟨0, by omega, rfl, by cases big <;> simp [pnum, beNum, leNum], 0, rfl⟩
  case round =>
    obtain ⟨k, hk, rfl, rfl, hw⟩ := hrel
    have hBw : Bs wr B A l := by obtain ⟨m, rfl⟩ := hw; exact h.drewN m
    have HW := Lib.hid hw; clear hw
    by_cases hlt : k < s
    · obtain ⟨ad, rfl, _, hcb⟩ := hBw.at_ (k := at_ + k) (by omega)
      have hfk : l[at_ + k].toNat = f k := by rw [byteAt_get, ← HF.out]
      rw [hfk] at hcb
      have HFK := Lib.hid hfk; clear hfk
      have hx := H256.out k
      have hx2 : ((f k : Nat) : Int) < 256 := by omega
      have b0 : (0 : Int) ≤ (k : Int) := by omega
      have b1 : (k : Int) < (s : Int) := by omega
      have b2 : (s : Int) ≤ 4 := by omega
      have q1 : IntKind.i64.wrap ((at_ : Int) + k) = (at_ : Int) + k := IntWalk.i64_in _ (by omega)
      have q2 : ((at_ : Int) + k).toNat = at_ + k := by omega
      have q3 : ((at_ : Int) + k) < (l.length : Int) := by omega
      have q4 : 0 ≤ ((at_ : Int) + k) := by omega
      cases big
      · go_wp2_with fail
        go_quiet ((go_at_call 64; exact quiet_eq (byteShift_low _ _ _ b0 b1 b2)))
        clear q1 q2
        go_wp2_with fail
        go_roundw
        case rel => exact ⟨k + 1, by omega, by go_num, by rw [pnum_le, pnum_le, le_step f H256.out k (by omega)], by obtain ⟨m, rfl⟩ := HW.out; exact ⟨m + nq, by simp⟩⟩
        case measure => simp [intOf]; omega
      · go_wp2_with fail
        go_quiet ((go_at_call 64; exact quiet_eq (byteShift_big _ _ _ b0 b1 b2)))
        clear q1 q2
        go_wp2_with fail
        go_roundw
        case rel => exact ⟨k + 1, by omega, by go_num, by rw [pnum_be, pnum_be, be_step f H256.out k s (by omega) hlt], by obtain ⟨m, rfl⟩ := HW.out; exact ⟨m + nq, by simp⟩⟩
        case measure => simp [intOf]; omega
    · have hkn : k = s := by omega
      subst hkn
      go_wp2_with fail
      go_ret2
      refine ⟨?_, HW.out⟩
      cases big <;> simp [pnum, numB]
set_option maxHeartbeats 400000 in
theorem get_err (A : Option Addr) (len c : Nat) (at_ size : Int) (big : Bool) (w : World) (hl : len ≤ 140737488355328) (he : spanErr len at_ size ≠ 0) :
    Calls Try.prog 59 #[.slice A len c, .int .i64 at_, .int .i64 size, .bool big] w fun e w' => e = .returned (.tuple #[.int .u32 0, .int .i64 (spanErr len at_ size)]) ∧ w = w' := by
  generalize hE : spanErr len at_ size = E at *
  have HE := Lib.hid hE; clear hE
  have hne : (E != 0) = true := by simpa using he
  go_enter Try.func59, Try.ntmps59
  go_wp2_with (go_at_call 62; refine (spanFault_any _ _ _ _ _ _ hl).mono ?_; rintro e w1 ⟨rfl, rfl⟩; rw [HE.out])
  go_ret2
  exact ⟨rfl, rfl⟩
end Go.Proofs.Ytaloieeemibblaa
