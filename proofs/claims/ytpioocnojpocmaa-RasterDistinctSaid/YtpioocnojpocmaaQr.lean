/- Distinct, the document's. -/
import Derived.Test.YtpioocnojpocmaaQq
namespace Go.Proofs.Ytpioocnojpocmaa
open Go.ChangeShapes Go.WideShapes Go.ChangeAt Go.RowKit

set_option maxRecDepth 100000 in
set_option maxHeartbeats 2000000 in
theorem place_any (A : Option Addr) (n c : Nat) (L : List Col) (hn : L.length = n) (hl : n ≤ 1048576) (x : Col) (B : Nat) (w : World) (h : Cs w B A L) (hB : B ≤ w.heap.size) :
    Calls Try.prog 52 #[.slice A n c, colV x] w fun e w' => ∃ z : Int, e = .returned (.int .i64 z) ∧ (z < 0 ↔ x ∉ L) ∧ -1 ≤ z ∧ z ≤ 1048576 ∧ Below w.heap.size w w' := by
  have hbx := (Below.refl w.heap.size w).alloc (Nat.le_refl _) (.cells #[.int .u16 x.r, .int .u16 x.g, .int .u16 x.b, .int .u16 x.a] 30)
  have hcx := CB.of (x := x) (Blk.new w 30 #[.int .u16 x.r, .int .u16 x.g, .int .u16 x.b, .int .u16 x.a])
  obtain ⟨w1, hw1⟩ : ∃ w1, w.alloc (.cells #[.int .u16 x.r, .int .u16 x.g, .int .u16 x.b, .int .u16 x.a] 30) = w1 := ⟨_, rfl⟩
  rw [hw1] at hbx hcx
  have HW1 := Lib.hid hw1
  have HB := Lib.hid hbx
  have h1 := h.below (hbx.mono hB)
  obtain ⟨_, x0, x1, x2, x3, _, _, _, _⟩ := hcx
  clear hw1 hbx h
  go_enter Try.func52, Try.ntmps52
  go_upto_region 1 with (fail)
  rw [HW1.out]
  clear HW1
  go_wp2_with fail
  go_loopw [5] (fun i wr => ∃ k : Nat, k ≤ n ∧ i = .int .i64 (k : Int) ∧ Hid (∀ j, (hj : j < L.length) → j < k → L[j] ≠ x) ∧ ∃ m, wr = w1.drewN m) (fun i _ => n - (intOf i).toNat)
  case atStart => exact ⟨0, Nat.zero_le _, rfl, Lib.hid (fun j _ h => by omega), 0, rfl⟩
  case round =>
    obtain ⟨k, hk, rfl, HK, m, rfl⟩ := hrel
    by_cases hlt : k < n
    · have hkl : k < L.length := by omega
      obtain ⟨b, off, rfl, _, c0, c1, c2, c3⟩ := h1.at_ hkl
      obtain ⟨y, hy⟩ : ∃ y, L[k] = y := ⟨_, rfl⟩
      rw [hy] at c0 c1 c2 c3
      have HY := Lib.hid hy
      clear hy
      have hq : ∀ w' : World, (binOp .eql 30 (colV y) (colV x)).run Try.prog w' = .ok (.bool (decide (y = x))) w' := fun w' => eql_col y x w'
      by_cases hyx : y = x
      · have HE : Hid (x ∈ L) := Lib.hid (by rw [← hyx, ← HY.out]; exact List.getElem_mem hkl)
        have hd : decide (y = x) = true := decide_eq_true hyx
        clear hyx
        rw [hd] at hq
        go_wp2_with fail
        go_quiet (fail)
        go_wp2_with fail
        go_ret
        exact ⟨(k : Int), rfl, ⟨fun h => by omega, fun h => absurd HE.out h⟩, by omega, by omega, below_drewN (below_drewN HB.out m) nq⟩
      · have HNX : Hid (∀ j, (hj : j < L.length) → j < k + 1 → L[j] ≠ x) := Lib.hid (fun j hj hjk => by
          rcases Nat.lt_or_ge j k with h | h
          · exact HK.out j hj h
          · obtain rfl : j = k := by omega
            rw [HY.out]; exact hyx)
        have hd : decide (y = x) = false := decide_eq_false hyx
        clear hyx
        rw [hd] at hq
        go_wp2_with fail
        go_quiet (fail)
        go_wp2_with fail
        go_roundw
        case rel => exact ⟨k + 1, by omega, by go_num, HNX, m + nq, rfl⟩
        case measure => simp [intOf]; omega
    · obtain rfl : k = n := by omega
      go_wp2_with fail
      go_ret
      refine ⟨-1, rfl, ⟨fun _ hx => ?_, fun _ => by omega⟩, by omega, by omega, below_drewN HB.out m⟩
      obtain ⟨j, hj, hj2⟩ := List.getElem_of_mem hx
      exact HK.out j hj (by omega) hj2
set_option maxHeartbeats 1000000 in
set_option maxRecDepth 100000 in
theorem sameColors_n (A1 A2 : Option Addr) (n1 n2 c1 c2 : Nat) (a : List Col) (hn1 : a.length = n1) (hn2 : n2 = n1) (B : Nat) (w : World) (h1 : Cs w B A1 a) (h2 : Cs w B A2 a) (hl : n1 ≤ 1048576) :
    Calls Try.prog 30 #[.slice A1 n1 c1, .slice A2 n2 c2] w fun e w' => e = .returned (.bool true) ∧ ∃ n, w' = w.drewN n := by
  subst hn2
  go_enter Try.func30, Try.ntmps30
  go_wp2_with fail
  go_loopw [5] (fun i wr => ∃ k : Nat, k ≤ n2 ∧ i = .int .i64 k ∧ ∃ n, wr = w.drewN n) (fun i _ => n2 - (intOf i).toNat)
  case atStart => exact ⟨0, by omega, rfl, 0, rfl⟩
  case round =>
    obtain ⟨k, hk, rfl, m, rfl⟩ := hrel
    by_cases hlt : k < n2
    · have hkl : k < a.length := by omega
      obtain ⟨b, off, rfl, _, c0, c1, c2, c3⟩ := h1.at_ hkl
      obtain ⟨b', off', rfl, _, d0, d1, d2, d3⟩ := h2.at_ hkl
      generalize a[k] = y at c0 c1 c2 c3 d0 d1 d2 d3

      go_wp2_with fail
      go_quiet (fail)
      go_wp2_with fail
      go_roundw
      case rel => exact ⟨k + 1, by omega, by go_num, m + nq, rfl⟩
      case measure => simp [intOf]; omega
    · obtain rfl : k = n2 := by omega
      go_wp2_with fail
      go_ret
      exact ⟨rfl, m, rfl⟩
end Go.Proofs.Ytpioocnojpocmaa
