/- Contracts of Set, the program's and the document's. -/
import Derived.Test.YtaloieeemibblaaI
namespace Go.Proofs.Ytaloieeemibblaa
open Go.ChangeShapes Go.WideShapes Go.ChangeAt Go.RowKit

def shB (big : Bool) (s i : Nat) : Nat := if big then 8 * (s - 1 - i) else 8 * i
def setB (l : List UInt8) (at_ s : Nat) (big : Bool) (v : Nat) : Nat → List UInt8
  | 0 => l
  | k + 1 => (setB l at_ s big v k).set (at_ + k) (UInt8.ofNat (v >>> shB big s k))
theorem setB_length (l : List UInt8) (at_ s : Nat) (big : Bool) (v k : Nat) : (setB l at_ s big v k).length = l.length := by
  induction k with
  | zero => rfl
  | succ k ih => rw [setB, List.length_set, ih]
theorem setB_get (l : List UInt8) (at_ s : Nat) (big : Bool) (v k i : Nat) (hi : i < k) (hl : at_ + k ≤ l.length) : byteAt (setB l at_ s big v k) (at_ + i) = (v >>> shB big s i) % 256 := by
  induction k with
  | zero => omega
  | succ k ih =>
    unfold byteAt at *
    rw [setB]
    by_cases h : i = k
    · subst h
      rw [List.getElem?_set_self (by rw [setB_length]; omega)]
      simp
    · rw [List.getElem?_set_ne (by omega)]
      exact ih (by omega) (by omega)
theorem leNum_of (v : Nat) (f : Nat → Nat) (n : Nat) (hf : ∀ i, i < n → f i = (v >>> (8 * i)) % 256) : leNum f n = v % 2 ^ (8 * n) := by
  induction n with
  | zero => simp [leNum, Nat.mod_one]
  | succ n ih =>
    rw [leNum, ih (fun i hi => hf i (by omega)), hf n (by omega), show 8 * (n + 1) = 8 * n + 8 from by omega, Nat.pow_add, Nat.mod_mul, Nat.shiftRight_eq_div_pow, Nat.mul_comm (v / 2 ^ (8 * n) % 256)]
theorem beNum_of (v s : Nat) (f : Nat → Nat) (n : Nat) (hn : n ≤ s) (hf : ∀ i, i < n → f i = (v >>> (8 * (s - 1 - i))) % 256) : beNum f n = (v >>> (8 * (s - n))) % 2 ^ (8 * n) := by
  induction n with
  | zero => simp [beNum, Nat.mod_one]
  | succ n ih =>
    rw [beNum, ih (by omega) (fun i hi => hf i (by omega)), hf n (by omega), show s - 1 - n = s - (n + 1) from by omega, show 8 * (n + 1) = 8 + 8 * n from by omega, Nat.pow_add, Nat.mod_mul]
    have e : v >>> (8 * (s - n)) = v >>> (8 * (s - (n + 1))) / 2 ^ 8 := by
      rw [← Nat.shiftRight_eq_div_pow, ← Nat.shiftRight_add]; congr 1; omega
    rw [e]; omega
/-- What was set is got. -/
theorem numB_setB (l : List UInt8) (at_ s : Nat) (big : Bool) (v : Nat) (hl : at_ + s ≤ l.length) : numB big (fun i => byteAt (setB l at_ s big v s) (at_ + i)) s = v % 2 ^ (8 * s) := by
  unfold numB
  cases big
  · rw [if_neg (by simp)]
    exact leNum_of v _ s (fun i hi => by rw [setB_get _ _ _ _ _ _ _ hi hl]; rfl)
  · rw [if_pos rfl, beNum_of v s _ s (Nat.le_refl _) (fun i hi => by rw [setB_get _ _ _ _ _ _ _ hi hl]; rfl)]
    simp
theorem set_val (v sh : Nat) : ((v : Int) / 2 ^ sh) % 256 = ((UInt8.ofNat (v >>> sh)).toNat : Int) := by
  rw [UInt8.toNat_ofNat', Nat.shiftRight_eq_div_pow]
  simp

def SetRes (w : World) (l l' : List UInt8) (e : Ending) (w' : World) : Prop :=
  ∃ A' c', e = .returned (.tuple #[.slice A' l.length c', .int .i64 0]) ∧ w'.ownsRow w.heap.size 5 1 (.slice A' l.length c') l.length (bytesV l') ∧ Below w.heap.size w w'
theorem own_set {w : World} {base gd n c : Nat} {l : List UInt8} (h : w.ownsRow base 5 1 (.slice (some ⟨gd, 0, none⟩) n c) n (bytesV l)) (q : Nat) (x : UInt8) :
    (w.setCell ⟨gd, q, none⟩ (.int .u8 (x.toNat : Int))).ownsRow base 5 1 (.slice (some ⟨gd, 0, none⟩) n c) n (bytesV (l.set q x)) := by
  have e : bytesV (l.set q x) = (bytesV l).set q (.int .u8 (x.toNat : Int)) := by simp [bytesV, bv, List.map_set]
  rw [e]
  exact (h.stored q _).1

set_option maxHeartbeats 1000000 in
set_option maxRecDepth 100000 in
theorem set_ok (A : Option Addr) (c : Nat) (l : List UInt8) (at_ s v : Nat) (big : Bool) (B : Nat) (w : World) (h : Bs w B A l) (hB : B ≤ w.heap.size) (hl : l.length ≤ 140737488355328) (hs : 1 ≤ s) (hs4 : s ≤ 4) (ha : at_ + s ≤ l.length) :
    Calls Try.prog 53 #[.slice A l.length c, .int .i64 (at_ : Int), .int .i64 (s : Int), .bool big, .int .u32 (v : Int)] w (SetRes w l (setB l at_ s big v s)) := by
  have HE := Lib.hid (spanErr_ok (len := l.length) (at_ := (at_ : Int)) (size := (s : Int)) (by omega) (by omega))
  go_enter Try.func53, Try.ntmps53
  go_wp2_with (first | (go_at_call 62; refine (spanFault_any _ _ _ _ _ _ hl).mono ?_; rintro e w1 ⟨rfl, rfl⟩; rw [HE.out]) | (go_at_call 63; refine (copyOf_any _ _ _ _ _ h hB hl).mono ?_; rintro e w1 ⟨A1, c1, rfl, hown1, hb1⟩))
  obtain ⟨gd, cap, hv1, hgd, _⟩ := hown1.form (by omega)
  injection hv1 with hA1 _ hc1
  subst hA1
  subst hc1
  have HO := Lib.hid hown1; clear hown1
  have HB := Lib.hid hb1; clear hb1
  go_loopw [25] (fun i wr => ∃ k : Nat, k ≤ s ∧ i = .int .i64 k ∧ wr.ownsRow w.heap.size 5 1 (.slice (some ⟨gd, 0, none⟩) l.length c1) l.length (bytesV (setB l at_ s big v k)) ∧ Below w.heap.size w wr) (fun i _ => s - (intOf i).toNat)
  case atStart => exact ⟨0, by omega, rfl, HO.out, HB.out⟩
  case round =>
    obtain ⟨k, hk, rfl, hO, hBl⟩ := hrel
    have hf := hO.frozenAt (at_ + k)
    have HO2 := Lib.hid hO
    have HB2 := Lib.hid hBl; clear hBl
    have hgd2 : w.heap.size ≤ gd := (hO.lt gd rfl).1
    by_cases hlt : k < s
    · have hcell : wr.cell? ⟨gd, at_ + k, none⟩ = some (.int .u8 (((setB l at_ s big v k)[at_ + k]'(by rw [setB_length]; omega)).toNat : Int)) := by
        rw [hO.cellAt _ (by omega)]; exact bytesV_get _ _ _
      clear hO
      have HH : Hid (Below w.heap.size w (wr.setCell ⟨gd, at_ + k, none⟩ (.int .u8 ((UInt8.ofNat (v >>> shB big s k)).toNat : Int)))) := Lib.hid (HB2.out.setCell hgd2 _)
      cases big
      · go_wp2_with (go_at_call 64; refine (byteShift_low _ _ _ (by omega) (by omega) (by omega)).mono ?_; rintro e w2 ⟨rfl, rfl⟩)
        go_roundw
        case rel => exact ⟨k + 1, by omega, by go_num, by rw [set_val]; exact own_set HO2.out _ _, by rw [set_val]; exact HH.out⟩
        case measure => simp [intOf]; omega
      · go_wp2_with (go_at_call 64; refine (byteShift_big _ _ _ (by omega) (by omega) (by omega)).mono ?_; rintro e w2 ⟨rfl, rfl⟩)
        go_roundw
        case rel => exact ⟨k + 1, by omega, by go_num, by rw [set_val]; exact own_set HO2.out _ _, by rw [set_val]; exact HH.out⟩
        case measure => simp [intOf]; omega
    · have hkn : k = s := by omega
      subst hkn
      clear hO
      go_wp2_with fail
      go_ret2
      exact ⟨_, _, rfl, HO2.out, HB2.out⟩
set_option maxHeartbeats 400000 in
theorem set_err (A : Option Addr) (len c : Nat) (at_ size v : Int) (big : Bool) (w : World) (hl : len ≤ 140737488355328) (he : spanErr len at_ size ≠ 0) :
    Calls Try.prog 53 #[.slice A len c, .int .i64 at_, .int .i64 size, .bool big, .int .u32 v] w fun e w' => e = .returned (.tuple #[.slice none 0 0, .int .i64 (spanErr len at_ size)]) ∧ w = w' := by
  generalize hE : spanErr len at_ size = E at *
  have HE := Lib.hid hE; clear hE
  have hne : (E != 0) = true := by simpa using he
  go_enter Try.func53, Try.ntmps53
  go_wp2_with (go_at_call 62; refine (spanFault_any _ _ _ _ _ _ hl).mono ?_; rintro e w1 ⟨rfl, rfl⟩; rw [HE.out])
  go_ret2
  exact ⟨rfl, rfl⟩
end Go.Proofs.Ytaloieeemibblaa
