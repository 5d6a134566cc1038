/- Contract of the program's Zlib. -/
import Derived.Test.YthbdhpciibjnmaaIp
import Derived.Test.YthbdhpciibjnmaaH
import Derived.Test.YthbdhpciibjnmaaAd
namespace Go.Proofs.Ythbdhpciibjnmaa
open Go.ChangeShapes Go.WideShapes Go.ChangeAt Go.RowKit

/-- The head's fault, or 0. -/
def headM (b : List UInt8) : Nat :=
  if b.length < 2 then 5
  else if byteAt b 0 % 16 ≠ 8 ∨ 7 < byteAt b 0 / 16 then 43
  else if (256 * byteAt b 0 + byteAt b 1) % 31 ≠ 0 ∨ byteAt b 1 / 32 % 2 ≠ 0 then 43 else 0
theorem and32 : ∀ y : Nat, y < 256 → bits .and .i64 (y : Int) 32 = ((y / 32 % 2 * 32 : Nat) : Int) := by decide +kernel

set_option maxHeartbeats 1000000 in
theorem headFault_any (w : World) (A : Option Addr) (c : Nat) (b : List UInt8) (B : Nat) (hbs : Bs w B A b) (hl : b.length ≤ 140737488355328) :
    Calls Try.prog 27 #[.slice A b.length c] w fun e w' => e = .returned (.int .i64 ((headM b : Nat) : Int)) ∧ ∃ n, w' = w.drewN n := by
  by_cases h2 : b.length < 2
  · have HM : Hid (headM b = 5) := Lib.hid (if_pos h2)
    have d1 : decide ((b.length : Int) < 2) = true := by simp; omega
    go_enter Try.func27, Try.ntmps27
    go_wp2_with fail
    go_ret
    exact ⟨by rw [HM.out]; rfl, 0, rfl⟩
  · obtain ⟨a0, ha0, hadb0, hcb0⟩ := hbs.at_ (k := 0) (by omega)
    obtain ⟨a1, ha1, hadb1, hcb1⟩ := hbs.at_ (k := 1) (by omega)
    have e1 := ha0.symm.trans ha1
    cases e1
    subst ha0
    obtain ⟨ab, ao, as_⟩ := a0
    have hspot : as_ = none := by
      have := World.cell?_spot hcb0
      simpa [Addr.add] using this
    subst hspot
    rw [Addr.add_lit] at hcb0 hcb1
    rw [byteAt_get] at hcb0 hcb1
    obtain ⟨x, hx⟩ : ∃ x, x = byteAt b 0 := ⟨_, rfl⟩
    obtain ⟨y, hy⟩ : ∃ y, y = byteAt b 1 := ⟨_, rfl⟩
    have hx2 : x < 256 := by rw [hx]; exact byteAt_lt _ _
    have hy2 : y < 256 := by rw [hy]; exact byteAt_lt _ _
    have HA := and32 y hy2
    have HM : Hid (headM b = if x % 16 ≠ 8 ∨ 7 < x / 16 then 43 else if (256 * x + y) % 31 ≠ 0 ∨ y / 32 % 2 ≠ 0 then 43 else 0) := Lib.hid (by rw [hx, hy]; exact if_neg h2)
    rw [← hx] at hcb0
    rw [← hy] at hcb1
    rw [Nat.add_zero] at hcb0
    clear hx hy
    have d1 : decide ((b.length : Int) < 2) = false := by simp; omega
    by_cases c1 : x % 16 = 8
    · have k1 : ((x : Int) % 16 == 8) = true := by simp; omega
      by_cases c2 : 7 < x / 16
      · have k2 : decide ((7 : Int) < (x : Int) / 16) = true := by simp; omega
        have HM2 : Hid (headM b = 43) := Lib.hid (by rw [HM.out, if_pos (.inr c2)])
        go_enter Try.func27, Try.ntmps27
        go_wp2_with fail
        go_quiet (fail)
        go_wp2_with fail
        go_ret
        exact ⟨by rw [HM2.out]; rfl, _, rfl⟩
      · have k2 : decide ((7 : Int) < (x : Int) / 16) = false := by simp; omega
        by_cases c3 : (256 * x + y) % 31 = 0
        · have k3 : ((256 * (x : Int) + (y : Int)) % 31 == 0) = true := by simp; omega
          by_cases c4 : y / 32 % 2 = 0
          · have k4 : bits .and .i64 (y : Int) 32 = 0 := by rw [HA, c4]; rfl
            have HM2 : Hid (headM b = 0) := Lib.hid (by rw [HM.out, if_neg (by omega), if_neg (by omega)])
            clear HA
            go_enter Try.func27, Try.ntmps27
            go_wp2_with fail
            go_quiet (fail)
            go_wp2_with fail
            go_ret
            exact ⟨by rw [HM2.out]; rfl, _, rfl⟩
          · have k4 : bits .and .i64 (y : Int) 32 = 32 := by rw [HA]; omega
            have HM2 : Hid (headM b = 43) := Lib.hid (by rw [HM.out, if_neg (by omega), if_pos (.inr c4)])
            clear HA
            go_enter Try.func27, Try.ntmps27
            go_wp2_with fail
            go_quiet (fail)
            go_wp2_with fail
            go_ret
            exact ⟨by rw [HM2.out]; rfl, _, rfl⟩
        · have k3 : ((256 * (x : Int) + (y : Int)) % 31 == 0) = false := by simp; omega
          have HM2 : Hid (headM b = 43) := Lib.hid (by rw [HM.out, if_neg (by omega), if_pos (.inl c3)])
          go_enter Try.func27, Try.ntmps27
          go_wp2_with fail
          go_quiet (fail)
          go_wp2_with fail
          go_ret
          exact ⟨by rw [HM2.out]; rfl, _, rfl⟩
    · have k1 : ((x : Int) % 16 == 8) = false := by simp; omega
      have HM2 : Hid (headM b = 43) := Lib.hid (by rw [HM.out, if_pos (.inl c1)])
      go_enter Try.func27, Try.ntmps27
      go_wp2_with fail
      go_quiet (fail)
      go_wp2_with fail
      go_ret
      exact ⟨by rw [HM2.out]; rfl, _, rfl⟩
end Go.Proofs.Ythbdhpciibjnmaa
