/- Contracts of the sums from nothing, of Adler-32, of the copy that each statement hands in, and of its small trial. -/
import Derived.Test.YthkhibhaejbgbaaSd
import Derived.Lib.SlBytesConst
namespace Go.Proofs.Ythkhibhaejbgbaa
open Go.ChangeShapes Go.WideShapes Go.ChangeAt Go.RowKit

set_option maxHeartbeats 400000 in
theorem crc_any (A : Option Addr) (c : Nat) (l : List UInt8) (B : Nat) (w : World) (hbs : Bs w B A l) (hB : B ≤ w.heap.size) (hl : l.length ≤ maxLen) :
    Calls Try.prog 9 #[.slice A l.length c] w fun e w' => e = .returned (.int .u32 ((crcOn 0 l : Nat) : Int)) ∧ Below w.heap.size w w' := by
  go_enter Try.func9, Try.ntmps9
  go_wp2_with fail
  refine (crcOn_any 0 A c l B w hbs hB (by omega) hl).mono ?_
  rintro e w1 ⟨rfl, hb1⟩
  go_wp2_with fail
  go_ret
  exact ⟨rfl, hb1⟩
set_option maxHeartbeats 400000 in
theorem refCrc_any (A : Option Addr) (c : Nat) (l : List UInt8) (B : Nat) (w : World) (hbs : Bs w B A l) (hl : l.length ≤ maxLen) :
    Calls Try.prog 11 #[.slice A l.length c] w fun e w' => e = .returned (.int .u32 ((crcOn 0 l : Nat) : Int)) ∧ w = w' := by
  go_enter Try.func11, Try.ntmps11
  go_wp2_with fail
  refine (refCrcOn_any 0 A c l B w hbs (by omega) hl).mono ?_
  rintro e w1 ⟨rfl, rfl⟩
  go_wp2_with fail
  go_ret
  exact ⟨rfl, rfl⟩

theorem below_i (x : Int) (n m : Nat) (w : World) (hx : x = (n : Int)) (hn : n < 131042) (hm : m = n % 65521) :
    Calls Try.prog 19 #[.int .u32 x] w fun e w' => e = .returned (.int .u32 (m : Int)) ∧ w = w' := by
  rw [hx, hm]
  exact below_any n w hn
def AdAt (s : Nat) (l : List UInt8) (k : Nat) (u v : Value) : Prop := ∃ a b : Nat, u = .int .u32 (a : Int) ∧ v = .int .u32 (b : Int) ∧ (a, b) = adGo (adAt s) (l.take k)
theorem ad_lt {s : Nat} {l : List UInt8} {a b : Nat} (h : (a, b) = adGo (adAt s) l) : a < 65521 ∧ b < 65521 := by
  have h2 := adGo_lt (adAt s) l (adAt_lt s)
  rw [← h] at h2
  exact h2
theorem ad_ret {s : Nat} {l : List UInt8} {a b : Nat} (h : (a, b) = adGo (adAt s) (l.take l.length)) : (65536 * (b : Int) + (a : Int)) = ((adOn s l : Nat) : Int) := by
  rw [List.take_length] at h
  unfold adOn
  rw [← h]
  simp

set_option maxHeartbeats 1000000 in
set_option maxRecDepth 100000 in
theorem adlerOn_any (s : Nat) (A : Option Addr) (c : Nat) (l : List UInt8) (B : Nat) (w : World) (hbs : Bs w B A l) (hs : s < 4294967296) (hl : l.length ≤ maxLen) :
    Calls Try.prog 16 #[.int .u32 (s : Int), .slice A l.length c] w fun e w' => e = .returned (.int .u32 ((adOn s l : Nat) : Int)) ∧ w = w' := by
  unfold maxLen at hl
  go_enter Try.func16, Try.ntmps16
  go_wp2_with fail
  go_loop [5, 6, 17] (fun u v i => ∃ k : Nat, k ≤ l.length ∧ i = .int .i64 k ∧ AdAt s l k u v) (fun _ _ i => l.length - (intOf i).toNat)
  case atStart => exact ⟨0, by omega, rfl, s % 65536 % 65521, s / 65536 % 65521, by simp, by simp, rfl⟩
  case round =>
    obtain ⟨k, hk, rfl, a, b, rfl, rfl, hp⟩ := hrel
    obtain ⟨ha, hb⟩ := ad_lt hp
    have HP := Lib.hid hp; clear hp
    by_cases hlt : k < l.length
    · obtain ⟨ad, rfl, hadb, hcb⟩ := hbs.at_ hlt
      have hx := byte_lt l[k]
      have HT := Lib.hid (adGo_take (adAt s) l k hlt)
      obtain ⟨x, hxe⟩ : ∃ x, x = l[k].toNat := ⟨_, rfl⟩
      have hx2 : x < 256 := by omega
      rw [← hxe] at hcb
      obtain ⟨a1, ha1⟩ : ∃ a1, a1 = (a + x) % 65521 := ⟨_, rfl⟩
      obtain ⟨b1, hb1⟩ : ∃ b1, b1 = (b + a1) % 65521 := ⟨_, rfl⟩
      have hla1 : a1 < 65521 := by omega
      have HN : Hid ((a1, b1) = adByte (a, b) l[k]) := Lib.hid (by rw [hb1, ha1, hxe]; rfl)
      have HA1 := Lib.hid ha1
      have HB1 := Lib.hid hb1
      clear ha1 hb1 hxe hx
      go_wp2_with fail
      refine (below_i _ (a + x) a1 w (by simp) (by omega) HA1.out).mono ?_
      rintro e w' ⟨rfl, rfl⟩
      go_wp2_with fail
      refine (below_i _ (b + a1) b1 w (by simp) (by omega) HB1.out).mono ?_
      rintro e w' ⟨rfl, rfl⟩
      go_wp2_with fail
      go_round
      case rel => exact ⟨k + 1, by omega, by go_num, a1, b1, rfl, rfl, by rw [HN.out, HT.out, HP.out]⟩
      case measure => simp [intOf]; omega
    · have hkn : k = l.length := by omega
      subst hkn
      have HE := Lib.hid (ad_ret HP.out)
      go_wp2_with fail
      go_ret
      exact ⟨ret_u32 HE.out, rfl⟩

set_option maxHeartbeats 1000000 in
set_option maxRecDepth 100000 in
theorem refAdlerOn_any (s : Nat) (A : Option Addr) (c : Nat) (l : List UInt8) (B : Nat) (w : World) (hbs : Bs w B A l) (hs : s < 4294967296) (hl : l.length ≤ maxLen) :
    Calls Try.prog 17 #[.int .u32 (s : Int), .slice A l.length c] w fun e w' => e = .returned (.int .u32 ((adOn s l : Nat) : Int)) ∧ w = w' := by
  unfold maxLen at hl
  go_enter Try.func17, Try.ntmps17
  go_wp2_with fail
  go_loop [5, 6, 7] (fun u v i => ∃ k : Nat, k ≤ l.length ∧ i = .int .i64 k ∧ AdAt s l k u v) (fun _ _ i => l.length - (intOf i).toNat)
  case atStart => exact ⟨0, by omega, rfl, s % 65536 % 65521, s / 65536 % 65521, by simp, by simp, rfl⟩
  case round =>
    obtain ⟨k, hk, rfl, a, b, rfl, rfl, hp⟩ := hrel
    obtain ⟨ha, hb⟩ := ad_lt hp
    have HP := Lib.hid hp; clear hp
    by_cases hlt : k < l.length
    · obtain ⟨ad, rfl, hadb, hcb⟩ := hbs.at_ hlt
      have hx := byte_lt l[k]
      have HT := Lib.hid (adGo_take (adAt s) l k hlt)
      obtain ⟨x, hxe⟩ : ∃ x, x = l[k].toNat := ⟨_, rfl⟩
      have hx2 : x < 256 := by omega
      rw [← hxe] at hcb
      have HN : Hid (((a + x) % 65521, (b + (a + x) % 65521) % 65521) = adByte (a, b) l[k]) := Lib.hid (by rw [hxe]; rfl)
      clear hxe hx
      go_wp2_with fail
      go_round
      case rel => exact ⟨k + 1, by omega, by go_num, (a + x) % 65521, (b + (a + x) % 65521) % 65521, by simp, by simp, by rw [HT.out, ← HP.out, ← HN.out]⟩
      case measure => simp [intOf]; omega
    · have hkn : k = l.length := by omega
      subst hkn
      have HE := Lib.hid (ad_ret HP.out)
      go_wp2_with fail
      go_ret
      exact ⟨ret_u32 HE.out, rfl⟩
set_option maxHeartbeats 400000 in
theorem adler_any (A : Option Addr) (c : Nat) (l : List UInt8) (B : Nat) (w : World) (hbs : Bs w B A l) (hl : l.length ≤ maxLen) :
    Calls Try.prog 14 #[.slice A l.length c] w fun e w' => e = .returned (.int .u32 ((adOn 1 l : Nat) : Int)) ∧ w = w' := by
  go_enter Try.func14, Try.ntmps14
  go_wp2_with fail
  refine (adlerOn_any 1 A c l B w hbs (by omega) hl).mono ?_
  rintro e w1 ⟨rfl, rfl⟩
  go_wp2_with fail
  go_ret
  exact ⟨rfl, rfl⟩
set_option maxHeartbeats 400000 in
theorem refAdler_any (A : Option Addr) (c : Nat) (l : List UInt8) (B : Nat) (w : World) (hbs : Bs w B A l) (hl : l.length ≤ maxLen) :
    Calls Try.prog 15 #[.slice A l.length c] w fun e w' => e = .returned (.int .u32 ((adOn 1 l : Nat) : Int)) ∧ w = w' := by
  go_enter Try.func15, Try.ntmps15
  go_wp2_with fail
  refine (refAdlerOn_any 1 A c l B w hbs (by omega) hl).mono ?_
  rintro e w1 ⟨rfl, rfl⟩
  go_wp2_with fail
  go_ret
  exact ⟨rfl, rfl⟩

theorem info_u8 : (Try.prog.info? 5).map (fun i => (i.zero, i.size, i.bytes)) = some (some (.int .u8 0), 1, 1) := by kernel_rfl
set_option maxHeartbeats 400000 in
theorem own_any (A : Option Addr) (c : Nat) (l : List UInt8) (B : Nat) (w : World) (h : Bs w B A l) (hB : B ≤ w.heap.size) (hl : l.length ≤ 140737488355328) :
    Calls Try.prog 10 #[.slice A l.length c] w fun e w' => ∃ A' c', e = .returned (.slice A' l.length c') ∧
      w'.ownsRow w.heap.size 5 1 (.slice A' l.length c') l.length (bytesV l) ∧ Below w.heap.size w w' := by
  obtain ⟨i0, hi, hz0, hz1, hz2⟩ := info_parts info_u8
  go_enter Try.func10, Try.ntmps10
  go_wp2_with (at_builtin; refine wpList_append_bs _ rfl (.tmp 3) (.tmp 4) _ rfl w.heap.size 5 i0 Try.underlying22 hi hz0 hz1 hz2 (.slice (some ⟨w.heap.size, 0, none⟩) 0 0) 0 [] rfl (World.ownsRow_made w #[] 0 (Nat.le_refl _) (by omega) rfl) B A c l rfl (h.alloc hB _) (by omega) (by simp) ?_; intro A1 c1 w1 hown1 hg1 hat1; simp only [Nat.zero_add, List.nil_append] at hown1 hat1 ⊢)
  go_ret
  exact ⟨A1, c1, rfl, hown1, ((Below.refl _ _).alloc (Nat.le_refl _) _).grown hg1 (by simp) (by simp [Value.ownBlock])⟩
/-- A composite literal of bytes is a row of the call's own. -/
theorem bs_lit (w : World) (t : TypeId) (l : List UInt8) (B : Nat) (hB : w.heap.size < B) : Bs (w.alloc (.cells (bytesV l).toArray t)) B (some ⟨w.heap.size, 0, none⟩) l := fun _ => by
  refine ⟨_, rfl, hB, fun j hj => ?_⟩
  have e : (⟨w.heap.size, 0, none⟩ : Addr).add j = ⟨w.heap.size, j, none⟩ := by unfold Addr.add; split <;> simp_all
  rw [e, (Blk.new w t _).cell j]
  simpa using bytesV_get l j hj
theorem wk_crc : crcOn 0 [49, 50, 51, 52, 53, 54, 55, 56, 57] = 3421780262 := by decide +kernel
theorem wk_adler : adOn 1 [87, 105, 107, 105, 112, 101, 100, 105, 97] = 300286872 := by decide +kernel
theorem wk_none : adOn 1 [] = 1 := by decide +kernel

/-- Likewise a constant's bytes, whose row is marked behind its end. -/
theorem bs_litm (w : World) (t : TypeId) (l : List UInt8) (fz : Nat × Nat) (B : Nat) (hB : w.heap.size < B) : Bs (w.alloc (.cells (bytesV l).toArray t fz)) B (some ⟨w.heap.size, 0, none⟩) l := fun _ => by
  refine ⟨_, rfl, hB, fun j hj => ?_⟩
  have e : (⟨w.heap.size, 0, none⟩ : Addr).add j = ⟨w.heap.size, j, none⟩ := by unfold Addr.add; split <;> simp_all
  rw [e, cell_of_row _ w.heap.size j (bytesV l).toArray t fz (heap_alloc_new w _)]
  simpa using bytesV_get l j hj
set_option maxHeartbeats 4000000 in
set_option maxRecDepth 100000 in
theorem wakes_any (w : World) : Calls Try.prog 8 #[] w fun e w' => e = .returned (.bool true) ∧ Below w.heap.size w w' := by
  go_enter Try.func8, Try.ntmps8
  have kc := fun (w : World) (C : Array Value) (n c : Nat) => Lib.run_convert_bytes_const (P := Try.prog) w 22 5 C n c Try.underlying22 Try.underlying5
  go_wp2_with fail
  refine (crc_any (some ⟨w.heap.size, 0, none⟩) 9 [49, 50, 51, 52, 53, 54, 55, 56, 57] (w.heap.size + 1) _ (bs_litm w 5 [49, 50, 51, 52, 53, 54, 55, 56, 57] (9, 10) (w.heap.size + 1) (by omega)) (by simp) (by simp [maxLen])).mono ?_
  rw [wk_crc]
  rintro e w1 ⟨rfl, hb1⟩
  go_wp2_with fail
  refine (adler_any (some ⟨w1.heap.size, 0, none⟩) 9 [87, 105, 107, 105, 112, 101, 100, 105, 97] (w1.heap.size + 1) _ (bs_litm w1 5 [87, 105, 107, 105, 112, 101, 100, 105, 97] (9, 10) (w1.heap.size + 1) (by omega)) (by simp [maxLen])).mono ?_
  rw [wk_adler]
  rintro e w2 ⟨rfl, hw2⟩
  obtain rfl := hw2
  go_wp2_with fail
  refine (adler_any none 0 [] 0 _ Bs.nil_ (by simp [maxLen])).mono ?_
  rw [wk_none]
  rintro e w3 ⟨rfl, hw3⟩
  obtain rfl := hw3
  go_wp2_with fail
  go_ret
  have hz : w.heap.size ≤ w1.heap.size := by have := hb1.size; simp at this; omega
  exact ⟨rfl, ((((Below.refl _ _).alloc (Nat.le_refl _) _).trans (hb1.mono (by simp))).alloc hz _)⟩
section
variable (A : Option Addr) (c n : Nat) (l : List UInt8) (hn : l.length = n) (B : Nat) (w : World) (hbs : Bs w B A l) (hl : n ≤ 140737488355328)
include hn hbs hl
theorem own_n (hB : B ≤ w.heap.size) : Calls Try.prog 10 #[.slice A n c] w fun e w' => ∃ A' c', e = .returned (.slice A' n c') ∧
    w'.ownsRow w.heap.size 5 1 (.slice A' n c') n (bytesV l) ∧ Below w.heap.size w w' := by
  subst hn
  exact own_any A c l B w hbs hB hl
theorem crc_n (hB : B ≤ w.heap.size) : Calls Try.prog 9 #[.slice A n c] w fun e w' => e = .returned (.int .u32 ((crcOn 0 l : Nat) : Int)) ∧ Below w.heap.size w w' := by
  subst hn
  exact crc_any A c l B w hbs hB (by unfold maxLen; omega)
theorem crcOn_n (s : Nat) (hs : s < 4294967296) (hB : B ≤ w.heap.size) : Calls Try.prog 12 #[.int .u32 (s : Int), .slice A n c] w fun e w' => e = .returned (.int .u32 ((crcOn s l : Nat) : Int)) ∧ Below w.heap.size w w' := by
  subst hn
  exact crcOn_any s A c l B w hbs hB hs (by unfold maxLen; omega)
theorem refCrc_n : Calls Try.prog 11 #[.slice A n c] w fun e w' => e = .returned (.int .u32 ((crcOn 0 l : Nat) : Int)) ∧ w = w' := by
  subst hn
  exact refCrc_any A c l B w hbs (by unfold maxLen; omega)
theorem adler_n : Calls Try.prog 14 #[.slice A n c] w fun e w' => e = .returned (.int .u32 ((adOn 1 l : Nat) : Int)) ∧ w = w' := by
  subst hn
  exact adler_any A c l B w hbs (by unfold maxLen; omega)
theorem adlerOn_n (s : Nat) (hs : s < 4294967296) : Calls Try.prog 16 #[.int .u32 (s : Int), .slice A n c] w fun e w' => e = .returned (.int .u32 ((adOn s l : Nat) : Int)) ∧ w = w' := by
  subst hn
  exact adlerOn_any s A c l B w hbs hs (by unfold maxLen; omega)
theorem refAdler_n : Calls Try.prog 15 #[.slice A n c] w fun e w' => e = .returned (.int .u32 ((adOn 1 l : Nat) : Int)) ∧ w = w' := by
  subst hn
  exact refAdler_any A c l B w hbs (by unfold maxLen; omega)
end
theorem own_len {w : World} {base : Nat} {e : TypeId} {A : Option Addr} {n c : Nat} {l : List UInt8} (h : w.ownsRow base e 1 (.slice A n c) n (bytesV l)) : l.length = n := by
  have := h.1; rw [bytesV_length] at this; omega
theorem own_bs {w : World} {base : Nat} {e : TypeId} {A : Option Addr} {n c : Nat} {l : List UInt8} (h : w.ownsRow base e 1 (.slice A n c) n (bytesV l)) : Bs w w.heap.size A l := by
  have hn := own_len h
  subst hn
  exact Bs.of_own h
end Go.Proofs.Ythkhibhaejbgbaa
