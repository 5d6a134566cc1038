/- Contracts of CRC-32: the program's and the document's. -/
import Derived.Test.YtaloieeemibblaaSc
import Derived.Deep.WholeRow
namespace Go.Proofs.Ytaloieeemibblaa
open Go.ChangeShapes Go.WideShapes Go.ChangeAt Go.RowKit

theorem start_crc (s : Nat) (hs : s < 4294967296) : bits .xor .u32 (s : Int) 4294967295 = ((s ^^^ ones : Nat) : Int) := xor_u32 s ones hs (by unfold ones; omega)
theorem not_crc (c : Nat) (hs : c < 4294967296) : bits .xor .u32 IntKind.u32.max (c : Int) = ((c ^^^ ones : Nat) : Int) := by
  have e : IntKind.u32.max = ((ones : Nat) : Int) := by decide
  rw [Nat.xor_comm, e]; exact xor_u32 ones c (by unfold ones; omega) hs
theorem tab_step (c : Nat) (hc : c < 4294967296) (d : Nat) (hd : d = stepN 4 c) : bits .xor .u32 ((c : Int) / 16) ((stepN 4 (c % 16) : Nat) : Int) = (d : Int) := by
  rw [hd, ← half c]
  exact xor_u32 (c / 16) (stepN 4 (c % 16)) (by omega) (stepN_lt (by omega) 4)
theorem tab_cell {w : World} {g : Nat} (h : Blk w g 92 (tabL 16).toArray) (c : Nat) : w.cell? ⟨g, c % 16, none⟩ = some (.int .u32 ((stepN 4 (c % 16) : Nat) : Int)) := by
  rw [h.cell]
  have e := tabL_get 16 (c % 16) (Nat.mod_lt _ (by omega))
  rw [if_pos (Nat.mod_lt _ (by omega))] at e
  simpa using e
def CrcAt (s : Nat) (l : List UInt8) (k : Nat) (v : Value) : Prop := ∃ c : Nat, v = .int .u32 (c : Int) ∧ c = crcGo (s ^^^ ones) (l.take k)

set_option maxHeartbeats 1000000 in
set_option maxRecDepth 100000 in
theorem crcOn_any (s : Nat) (A : Option Addr) (c : Nat) (l : List UInt8) (B : Nat) (w : World) (hbs : Bs w B A l) (hB : B ≤ w.heap.size) (hs : s < 4294967296) (hl : l.length ≤ maxLen) :
    Calls Try.prog 54 #[.int .u32 (s : Int), .slice A l.length c] w fun e w' => e = .returned (.int .u32 ((crcOn s l : Nat) : Int)) ∧ Below w.heap.size w w' := by
  unfold maxLen at hl
  have hsz : (Try.prog.info? 92).map (·.size) = some (tabL 16).toArray.size := tab_info
  have h0 : s ^^^ ones < 4294967296 := xor_lt hs (by unfold ones; omega)
  have HS := Lib.hid (not_crc s hs)
  go_enter Try.func54, Try.ntmps54
  go_wp2_with fail
  refine (crcTable_any w).mono ?_
  rintro e w1 ⟨rfl, hb1⟩
  go_wp2_with (refine wpList_store_row rfl 92 (.tmp 5) (.tmp 9) rfl w1.heap.size (tabL 16).toArray rfl rfl 92 (tabL 0).toArray (Blk.new _ _ _) hsz rfl (tabL_one 16) ?_; rw [World.setRow_alloc_new])
  go_loop [6, 14] (fun c i => ∃ k : Nat, k ≤ l.length ∧ i = .int .i64 k ∧ CrcAt s l k c) (fun _ i => l.length - (intOf i).toNat)
  case atStart => exact ⟨0, by omega, rfl, s ^^^ ones, by rw [HS.out], rfl⟩
  case round =>
    obtain ⟨k, hk, rfl, c0, rfl, hc0⟩ := hrel
    have hlc : c0 < 4294967296 := by rw [hc0]; exact crcGo_lt h0 _
    have HC := Lib.hid hc0; clear hc0
    by_cases hlt : k < l.length
    · obtain ⟨ad, rfl, hadb, hcb⟩ := (((hbs.more hB).below hb1).alloc hb1.size (.cells (tabL 16).toArray 92)).at_ hlt
      have hx := byte_lt l[k]
      have HT := Lib.hid (crcGo_take (s ^^^ ones) l k hlt)
      have hx1 := xor_u32 c0 l[k].toNat hlc (by omega)
      obtain ⟨c1, hc1⟩ : ∃ c1, c1 = c0 ^^^ l[k].toNat := ⟨_, rfl⟩
      have hlc1 : c1 < 4294967296 := by rw [hc1]; exact xor_lt hlc (by omega)
      rw [← hc1] at hx1
      obtain ⟨c2, hc2⟩ : ∃ c2, c2 = stepN 4 c1 := ⟨_, rfl⟩
      have hlc2 : c2 < 4294967296 := by rw [hc2]; exact stepN_lt hlc1 4
      have hx2 := tab_step c1 hlc1 c2 hc2
      obtain ⟨c3, hc3⟩ : ∃ c3, c3 = stepN 4 c2 := ⟨_, rfl⟩
      have hx3 := tab_step c2 hlc2 c3 hc3
      have t1 := tab_cell (Blk.new w1 92 (tabL 16).toArray) c1
      have t2 := tab_cell (Blk.new w1 92 (tabL 16).toArray) c2
      have HN := Lib.hid (show c3 = crcByte c0 l[k] by rw [hc3, hc2, hc1, ← stepN_add]; rfl)
      clear hc1 hc2 hc3
      go_wp2_with fail
      go_round
      case rel => exact ⟨k + 1, by omega, by go_num, c3, rfl, by rw [HN.out, HT.out, HC.out]⟩
      case measure => simp [intOf]; omega
    · have hkn : k = l.length := by omega
      subst hkn
      have HE := Lib.hid (not_crc c0 hlc)
      go_wp2_with fail
      go_ret
      refine ⟨ret_u32 (HE.out.trans ?_), hb1.alloc hb1.size _⟩
      rw [HC.out, List.take_length]
      rfl

set_option maxHeartbeats 1000000 in
set_option maxRecDepth 100000 in
theorem refCrcOn_any (s : Nat) (A : Option Addr) (c : Nat) (l : List UInt8) (B : Nat) (w : World) (hbs : Bs w B A l) (hs : s < 4294967296) (hl : l.length ≤ maxLen) :
    Calls Try.prog 51 #[.int .u32 (s : Int), .slice A l.length c] w fun e w' => e = .returned (.int .u32 ((crcOn s l : Nat) : Int)) ∧ w = w' := by
  unfold maxLen at hl
  have h0 : s ^^^ ones < 4294967296 := xor_lt hs (by unfold ones; omega)
  have HS := Lib.hid (start_crc s hs)
  go_enter Try.func51, Try.ntmps51
  go_wp2_with fail
  go_loop [5, 6] (fun c i => ∃ k : Nat, k ≤ l.length ∧ i = .int .i64 k ∧ CrcAt s l k c) (fun _ i => l.length - (intOf i).toNat)
  case atStart => exact ⟨0, by omega, rfl, s ^^^ ones, by rw [HS.out], rfl⟩
  case round =>
    obtain ⟨k, hk, rfl, c0, rfl, hc0⟩ := hrel
    have hlc : c0 < 4294967296 := by rw [hc0]; exact crcGo_lt h0 _
    have HC := Lib.hid hc0; clear hc0
    by_cases hlt : k < l.length
    · obtain ⟨ad, rfl, hadb, hcb⟩ := hbs.at_ hlt
      have hx := byte_lt l[k]
      have HT := Lib.hid (crcGo_take (s ^^^ ones) l k hlt)
      have hx1 := xor_u32 c0 l[k].toNat hlc (by omega)
      obtain ⟨c1, hc1⟩ : ∃ c1, c1 = c0 ^^^ l[k].toNat := ⟨_, rfl⟩
      have hlc1 : c1 < 4294967296 := by rw [hc1]; exact xor_lt hlc (by omega)
      rw [← hc1] at hx1
      have HC1 := Lib.hid hc1; clear hc1
      go_wp2_with fail
      go_loop [5, 7] (fun c i => ∃ m : Nat, m ≤ 8 ∧ i = .int .i64 m ∧ c = .int .u32 ((stepN m c1 : Nat) : Int)) (fun _ i => 8 - (intOf i).toNat)
      case atStart => exact ⟨0, by omega, rfl, rfl⟩
      case round =>
        obtain ⟨m, hm, rfl, rfl⟩ := hrel
        have hls := stepN_lt hlc1 m
        by_cases hmt : m < 8
        · obtain ⟨d, hd⟩ : ∃ d, d = stepN m c1 := ⟨_, rfl⟩
          rw [← hd] at hls ⊢
          have HD := Lib.hid hd; clear hd
          by_cases ho : d % 2 = 1
          · have HX := Lib.hid (xor_u32 (d / 2) poly (by omega) (by unfold poly; omega))
            have HO := Lib.hid (step1_odd ho)
            have d1 : ((d : Int) % 2 == 1) = true := by simp; omega
            clear ho
            go_wp2_with fail
            go_round
            case rel => exact ⟨m + 1, by omega, by go_num, by rw [show stepN (m + 1) c1 = step1 (stepN m c1) from rfl, ← HD.out, HO.out]; exact congrArg _ HX.out⟩
            case measure => simp [intOf]; omega
          · have HO := Lib.hid (step1_even ho)
            have d1 : ((d : Int) % 2 == 1) = false := by simp; omega
            clear ho
            go_wp2_with fail
            go_round
            case rel => exact ⟨m + 1, by omega, by go_num, by rw [show stepN (m + 1) c1 = step1 (stepN m c1) from rfl, ← HD.out, HO.out]; rfl⟩
            case measure => simp [intOf]; omega
        · obtain rfl : m = 8 := by omega
          go_wp2_with fail
          go_round
          case rel => exact ⟨k + 1, by omega, by go_num, stepN 8 c1, rfl, by rw [HT.out, ← HC.out, HC1.out]; rfl⟩
          case measure => simp [intOf]; omega
    · have hkn : k = l.length := by omega
      subst hkn
      have HE := Lib.hid (start_crc c0 hlc)
      go_wp2_with fail
      go_ret
      refine ⟨ret_u32 (HE.out.trans ?_), rfl⟩
      rw [HC.out, List.take_length]
      rfl
end Go.Proofs.Ytaloieeemibblaa
