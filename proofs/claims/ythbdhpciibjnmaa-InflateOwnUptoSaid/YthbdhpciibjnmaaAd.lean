/- Contracts of Adler-32 alone, for seats that call no CRC-32 (as wip/sums Sc and Se, cut). -/
import Derived.Test.YthbdhpciibjnmaaL
import Derived.Test.YthbdhpciibjnmaaSm
import Derived.Test.YthbdhpciibjnmaaRows
import Derived.WalkKit
import Derived.ProofKit
import Derived.OpenShut
import Derived.ChangeOld
import Derived.Below
import Derived.Lib.Hide
import Derived.Outline
import Derived.BigQuiet
import Derived.Deep.QuietTactic
import Derived.Laws.Rows
import Derived.Laws.CopyOwn
namespace Go.Proofs.Ythbdhpciibjnmaa
open Go.ChangeShapes Go.WideShapes Go.ChangeAt Go.RowKit

theorem ret_ad32 {a b : Int} (h : a = b) : Ending.returned (.int .u32 a) = .returned (.int .u32 b) := by rw [h]
set_option maxHeartbeats 400000 in
theorem below_any (n : Nat) (w : World) (hn : n < 131042) :
    Calls Try.prog 71 #[.int .u32 (n : Int)] w fun e w' => e = .returned (.int .u32 ((n % 65521 : Nat) : Int)) ∧ w = w' := by
  by_cases h : n < 65521
  · have d1 : decide ((65521 : Int) ≤ n) = false := by simp; omega
    go_enter Try.func71, Try.ntmps71
    go_wp2_with fail
    go_ret
    exact ⟨ret_ad32 (by omega), rfl⟩
  · have d1 : decide ((65521 : Int) ≤ n) = true := by simp; omega
    go_enter Try.func71, Try.ntmps71
    go_wp2_with fail
    go_ret
    exact ⟨ret_ad32 (by omega), rfl⟩

theorem below_i (x : Int) (n m : Nat) (w : World) (hx : x = (n : Int)) (hn : n < 131042) (hm : m = n % 65521) :
    Calls Try.prog 71 #[.int .u32 x] w fun e w' => e = .returned (.int .u32 (m : Int)) ∧ w = w' := by
  rw [hx, hm]
  exact below_any n w hn
def AdAt (s : Nat) (l : List UInt8) (k : Nat) (u v : Value) : Prop := ∃ a b : Nat, u = .int .u32 (a : Int) ∧ v = .int .u32 (b : Int) ∧ (a, b) = adGo (adAt s) (l.take k)
theorem ad_lt {s : Nat} {l : List UInt8} {a b : Nat} (h : (a, b) = adGo (adAt s) l) : a < 65521 ∧ b < 65521 := by
  have h2 := adGo_lt (adAt s) l (adAt_lt s)
  rw [← h] at h2
  exact h2
theorem ad_ret {s : Nat} {l : List UInt8} {a b : Nat} (h : (a, b) = adGo (adAt s) (l.take l.length)) : (65536 * (b : Int) + (a : Int)) = ((adOn s l : Nat) : Int) := by
  rw [List.take_length] at h
  unfold adOn
  rw [← h]
  simp

set_option maxHeartbeats 1000000 in
set_option maxRecDepth 100000 in
theorem adlerOn_any (s : Nat) (A : Option Addr) (c : Nat) (l : List UInt8) (B : Nat) (w : World) (hbs : Bs w B A l) (hs : s < 4294967296) (hl : l.length ≤ maxLen) :
    Calls Try.prog 48 #[.int .u32 (s : Int), .slice A l.length c] w fun e w' => e = .returned (.int .u32 ((adOn s l : Nat) : Int)) ∧ w = w' := by
  unfold maxLen at hl
  go_enter Try.func48, Try.ntmps48
  go_wp2_with fail
  go_loop [5, 6, 17] (fun u v i => ∃ k : Nat, k ≤ l.length ∧ i = .int .i64 k ∧ AdAt s l k u v) (fun _ _ i => l.length - (intOf i).toNat)
  case atStart => exact ⟨0, by omega, rfl, s % 65536 % 65521, s / 65536 % 65521, by simp, by simp, rfl⟩
  case round =>
    obtain ⟨k, hk, rfl, a, b, rfl, rfl, hp⟩ := hrel
    obtain ⟨ha, hb⟩ := ad_lt hp
    have HP := Lib.hid hp; clear hp
    by_cases hlt : k < l.length
    · obtain ⟨ad, rfl, hadb, hcb⟩ := hbs.at_ hlt
      have hx := byte_lt l[k]
      have HT := Lib.hid (adGo_take (adAt s) l k hlt)
      obtain ⟨x, hxe⟩ : ∃ x, x = l[k].toNat := ⟨_, rfl⟩
      have hx2 : x < 256 := by omega
      rw [← hxe] at hcb
      obtain ⟨a1, ha1⟩ : ∃ a1, a1 = (a + x) % 65521 := ⟨_, rfl⟩
      obtain ⟨b1, hb1⟩ : ∃ b1, b1 = (b + a1) % 65521 := ⟨_, rfl⟩
      have hla1 : a1 < 65521 := by omega
      have HN : Hid ((a1, b1) = adByte (a, b) l[k]) := Lib.hid (by rw [hb1, ha1, hxe]; rfl)
      have HA1 := Lib.hid ha1
      have HB1 := Lib.hid hb1
      clear ha1 hb1 hxe hx
      go_wp2_with fail
      refine (below_i _ (a + x) a1 w (by simp) (by omega) HA1.out).mono ?_
      rintro e w' ⟨rfl, rfl⟩
      go_wp2_with fail
      refine (below_i _ (b + a1) b1 w (by simp) (by omega) HB1.out).mono ?_
      rintro e w' ⟨rfl, rfl⟩
      go_wp2_with fail
      go_round
      case rel => exact ⟨k + 1, by omega, by go_num, a1, b1, rfl, rfl, by rw [HN.out, HT.out, HP.out]⟩
      case measure => simp [intOf]; omega
    · have hkn : k = l.length := by omega
      subst hkn
      have HE := Lib.hid (ad_ret HP.out)
      go_wp2_with fail
      go_ret
      exact ⟨ret_ad32 HE.out, rfl⟩

set_option maxHeartbeats 1000000 in
set_option maxRecDepth 100000 in
theorem refAdlerOn_any (s : Nat) (A : Option Addr) (c : Nat) (l : List UInt8) (B : Nat) (w : World) (hbs : Bs w B A l) (hs : s < 4294967296) (hl : l.length ≤ maxLen) :
    Calls Try.prog 31 #[.int .u32 (s : Int), .slice A l.length c] w fun e w' => e = .returned (.int .u32 ((adOn s l : Nat) : Int)) ∧ w = w' := by
  unfold maxLen at hl
  go_enter Try.func31, Try.ntmps31
  go_wp2_with fail
  go_loop [5, 6, 7] (fun u v i => ∃ k : Nat, k ≤ l.length ∧ i = .int .i64 k ∧ AdAt s l k u v) (fun _ _ i => l.length - (intOf i).toNat)
  case atStart => exact ⟨0, by omega, rfl, s % 65536 % 65521, s / 65536 % 65521, by simp, by simp, rfl⟩
  case round =>
    obtain ⟨k, hk, rfl, a, b, rfl, rfl, hp⟩ := hrel
    obtain ⟨ha, hb⟩ := ad_lt hp
    have HP := Lib.hid hp; clear hp
    by_cases hlt : k < l.length
    · obtain ⟨ad, rfl, hadb, hcb⟩ := hbs.at_ hlt
      have hx := byte_lt l[k]
      have HT := Lib.hid (adGo_take (adAt s) l k hlt)
      obtain ⟨x, hxe⟩ : ∃ x, x = l[k].toNat := ⟨_, rfl⟩
      have hx2 : x < 256 := by omega
      rw [← hxe] at hcb
      have HN : Hid (((a + x) % 65521, (b + (a + x) % 65521) % 65521) = adByte (a, b) l[k]) := Lib.hid (by rw [hxe]; rfl)
      clear hxe hx
      go_wp2_with fail
      go_round
      case rel => exact ⟨k + 1, by omega, by go_num, (a + x) % 65521, (b + (a + x) % 65521) % 65521, by simp, by simp, by rw [HT.out, ← HP.out, ← HN.out]⟩
      case measure => simp [intOf]; omega
    · have hkn : k = l.length := by omega
      subst hkn
      have HE := Lib.hid (ad_ret HP.out)
      go_wp2_with fail
      go_ret
      exact ⟨ret_ad32 HE.out, rfl⟩
set_option maxHeartbeats 400000 in
theorem adler_any (A : Option Addr) (c : Nat) (l : List UInt8) (B : Nat) (w : World) (hbs : Bs w B A l) (hl : l.length ≤ maxLen) :
    Calls Try.prog 29 #[.slice A l.length c] w fun e w' => e = .returned (.int .u32 ((adOn 1 l : Nat) : Int)) ∧ w = w' := by
  go_enter Try.func29, Try.ntmps29
  go_wp2_with fail
  refine (adlerOn_any 1 A c l B w hbs (by omega) hl).mono ?_
  rintro e w1 ⟨rfl, rfl⟩
  go_wp2_with fail
  go_ret
  exact ⟨rfl, rfl⟩
set_option maxHeartbeats 400000 in
theorem refAdler_any (A : Option Addr) (c : Nat) (l : List UInt8) (B : Nat) (w : World) (hbs : Bs w B A l) (hl : l.length ≤ maxLen) :
    Calls Try.prog 16 #[.slice A l.length c] w fun e w' => e = .returned (.int .u32 ((adOn 1 l : Nat) : Int)) ∧ w = w' := by
  go_enter Try.func16, Try.ntmps16
  go_wp2_with fail
  refine (refAdlerOn_any 1 A c l B w hbs (by omega) hl).mono ?_
  rintro e w1 ⟨rfl, rfl⟩
  go_wp2_with fail
  go_ret
  exact ⟨rfl, rfl⟩

/-- Likewise a constant's bytes, whose row is marked behind its end. -/
theorem bs_litm (w : World) (t : TypeId) (l : List UInt8) (fz : Nat × Nat) (B : Nat) (hB : w.heap.size < B) : Bs (w.alloc (.cells (bytesV l).toArray t fz)) B (some ⟨w.heap.size, 0, none⟩) l := fun _ => by
  refine ⟨_, rfl, hB, fun j hj => ?_⟩
  have e : (⟨w.heap.size, 0, none⟩ : Addr).add j = ⟨w.heap.size, j, none⟩ := by unfold Addr.add; split <;> simp_all
  rw [e, cell_of_row _ w.heap.size j (bytesV l).toArray t fz (heap_alloc_new w _)]
  simpa using bytesV_get l j hj
end Go.Proofs.Ythbdhpciibjnmaa
