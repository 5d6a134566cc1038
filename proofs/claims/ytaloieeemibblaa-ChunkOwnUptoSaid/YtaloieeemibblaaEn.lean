/- Types of chunks; a string's bytes. -/
import Derived.Test.YtaloieeemibblaaEh
import Derived.Lib.ConvBytes
import Derived.Lib.SlBytesConst
set_option linter.unusedVariables false
set_option linter.unusedSimpArgs false
namespace Go.Proofs.Ytaloieeemibblaa
open Go.ChangeShapes Go.WideShapes Go.ChangeAt Go.RowKit

/-- A string's bytes. -/
abbrev sb (s : ByteArray) : List UInt8 := s.data.toList
theorem sb_len (s : ByteArray) : (sb s).length = s.size := by simp
def capB (x : Nat) : Bool := decide (65 ≤ x ∧ x ≤ 90)
def smaB (x : Nat) : Bool := decide (97 ≤ x ∧ x ≤ 122)
def letB (x : UInt8) : Bool := capB x.toNat || smaB x.toNat
/-- May a chunk have this type? -/
def tyB (l : List UInt8) : Bool := l.all letB && l.length == 4
theorem bw_below (w : World) (e : TypeId) (s : ByteArray) : Below w.heap.size w (Lib.bytesWorld w e s) :=
  ⟨by simp [Lib.bytesWorld, World.freeze, World.alloc, World.drew, -World.alloc_eq, -World.drew_eq], by simp [Lib.bytesWorld, World.freeze, World.alloc, World.drew, -World.alloc_eq, -World.drew_eq], by simp [Lib.bytesWorld, World.freeze, World.alloc, World.drew, -World.alloc_eq, -World.drew_eq], by rw [Lib.bytesWorld_size]; omega, fun k hk => Lib.bytesWorld_at_old w e s k hk⟩
theorem bw_bs (w : World) (e : TypeId) (s : ByteArray) : Bs (Lib.bytesWorld w e s) (w.heap.size + 1) (some ⟨w.heap.size, 0, none⟩) (sb s) := fun h => by
  refine ⟨_, rfl, Nat.lt_succ_self _, fun j hj => ?_⟩
  have e0 : (⟨w.heap.size, 0, none⟩ : Addr).add j = ⟨w.heap.size, j, none⟩ := by unfold Addr.add; split <;> simp_all
  rw [e0, Lib.bytesWorld_cell w e s j (by rw [sb_len] at hj; exact hj)]
  have : (sb s).getD j 0 = (sb s)[j] := by simp [List.getD, List.getElem?_eq_getElem hj]
  show some (Value.int .u8 (((sb s).getD j 0).toNat : Int)) = _
  rw [this]
theorem all_take_next {l : List UInt8} {k : Nat} (h : (l.take k).all letB = true) (hk : k < l.length) (hx : letB l[k] = true) : (l.take (k + 1)).all letB = true := by
  rw [List.take_succ_eq_append_getElem hk, List.all_append, h]
  simp [hx]
set_option maxRecDepth 100000 in
set_option maxHeartbeats 2000000 in
theorem isType_any (s : ByteArray) (n : Nat) (hn : s.size = n) (hm : n ≤ 140737488355328) (w : World) :
    Calls Try.prog 52 #[.string s] w fun e w' => e = .returned (.bool (tyB (sb s))) ∧ Below w.heap.size w w' := by
  have hq := Lib.run_convert_string_bytes (P := Try.prog) w 9 22 5 s Try.underlying9 Try.underlying22 Try.underlying5
  have hb := bw_below w 5 s
  have hbs := bw_bs w 5 s
  have hlen := sb_len s
  rw [hn] at hq hlen
  have HB := Lib.hid hb
  clear hb
  generalize Lib.bytesWorld w 5 s = w1 at *
  generalize grownCap w n 0 5 = cp at *
  have HN := Lib.hid hn
  clear hn
  go_enter Try.func52, Try.ntmps52
  go_wp2_with fail
  clear hq
  go_loopw [8] (fun i wr => ∃ k : Nat, k ≤ n ∧ i = .int .i64 (k : Int) ∧ ((sb s).take k).all letB = true ∧ wr = w1) (fun i _ => n - (intOf i).toNat)
  case atStart => exact ⟨0, Nat.zero_le _, rfl, by simp, rfl⟩
  case round =>
    obtain ⟨k, hk, rfl, hall, rfl⟩ := hrel
    have HALL := Lib.hid hall
    clear hall
    by_cases hlt : k < n
    · obtain ⟨ad, e, _, hc⟩ := hbs.at_ (k := k) (by omega)
      injection e with e
      subst e
      have e0 : (⟨w.heap.size, 0, none⟩ : Addr).add k = ⟨w.heap.size, k, none⟩ := by unfold Addr.add; split <;> simp_all
      rw [e0] at hc
      have hx := (sb s)[k].toNat_lt
      have hkl : k < (sb s).length := by omega
      have HNX : Hid (letB (sb s)[k] = true → ((sb s).take (k + 1)).all letB = true) := Lib.hid (fun h => all_take_next HALL.out hkl h)
      have HLB : Hid (letB (sb s)[k] = (capB (sb s)[k].toNat || smaB (sb s)[k].toNat)) := Lib.hid rfl
      have HBAD : Hid (letB (sb s)[k] = false → tyB (sb s) = false) := Lib.hid (fun h => by
        have : (sb s).all letB = false := by
          rw [List.all_eq_false]
          exact ⟨_, List.getElem_mem _, by rw [h]; simp⟩
        unfold tyB
        rw [this]
        rfl)
      generalize letB (sb s)[k] = lb at *
      generalize (sb s)[k].toNat = x at *
      have HC := Lib.hid (isCapital_any x (by omega) wr)
      have HS := Lib.hid (isSmall_any x (by omega) wr)
      rw [show decide (65 ≤ x ∧ x ≤ 90) = capB x from rfl] at HC
      rw [show decide (97 ≤ x ∧ x ≤ 122) = smaB x from rfl] at HS
      cases hc1 : capB x with
      | true =>
        rw [hc1] at HC HLB
        clear e0
        go_wp2_with fail
        refine HC.out.mono ?_
        rintro e w' ⟨rfl, rfl⟩
        go_wp2_with fail
        go_roundw
        case rel => exact ⟨k + 1, by omega, by go_num, HNX.out (by rw [HLB.out]; rfl), by trivial⟩
        case measure => simp [intOf]; omega
      | false =>
        rw [hc1] at HC HLB
        cases hs1 : smaB x with
        | true =>
          rw [hs1] at HS HLB
          clear e0
          go_wp2_with fail
          refine HC.out.mono ?_
          rintro e w' ⟨rfl, rfl⟩
          go_wp2_with fail
          refine HS.out.mono ?_
          rintro e w' ⟨rfl, rfl⟩
          go_wp2_with fail
          go_roundw
          case rel => exact ⟨k + 1, by omega, by go_num, HNX.out (by rw [HLB.out]; rfl), by trivial⟩
          case measure => simp [intOf]; omega
        | false =>
          rw [hs1] at HS HLB
          clear e0
          go_wp2_with fail
          refine HC.out.mono ?_
          rintro e w' ⟨rfl, rfl⟩
          go_wp2_with fail
          refine HS.out.mono ?_
          rintro e w' ⟨rfl, rfl⟩
          go_wp2_with fail
          go_ret
          exact ⟨ret_bool (HBAD.out (by rw [HLB.out]; rfl)).symm, HB.out⟩
    · obtain rfl : n = k := by omega
      have hsz : s.size = n := HN.out
      have HT : Hid (tyB (sb s) = decide (n = 4)) := Lib.hid (by
        have h := HALL.out
        rw [List.take_of_length_le (by omega)] at h
        unfold tyB
        rw [h, sb_len, hsz]
        simp only [Bool.true_and]
        rfl)
      go_wp2_with fail
      go_ret
      refine ⟨ret_bool ?_, HB.out⟩
      rw [HT.out]
      try rw [hsz]
      first | rfl | (by_cases h4 : n = 4 <;> simp [h4]; try omega)
end Go.Proofs.Ytaloieeemibblaa
