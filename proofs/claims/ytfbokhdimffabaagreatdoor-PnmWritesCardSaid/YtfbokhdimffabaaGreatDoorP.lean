/- Contract of the writer's Put: the n lowest bits of v are written behind the others, in the writer's order. -/
import Derived.Test.YtfbokhdimffabaaGreatDoorTl
import Derived.Deep.LoopGhost
import Derived.Deep.DeepCutAuto
import Derived.StillTailTactics
namespace Go.Proofs.YtfbokhdimffabaaGreatDoor
open Go.ChangeShapes Go.WideShapes Go.ChangeAt Go.RowKit

theorem ownBlock_slice (A : Option Addr) (n c : Nat) : (Value.slice A n c).ownBlock = A.map (·.block) := by cases A <;> rfl
/-- What was the writer's own row, or is new. -/
def OwnOr (w : World) (A A' : Option Addr) : Prop := ∀ k, A'.map (·.block) = some k → A.map (·.block) = some k ∨ w.heap.size ≤ k
def WS (g : Nat) (A : Option Addr) : Nat → Prop := fun k => k = g ∨ A.map (·.block) = some k
/-- A writer in a loop that began in w with the row A. -/
def PutAt (w : World) (base g : Nat) (A : Option Addr) (high : Bool) (bs : List Bool) (len : Nat) (wr : World) : Prop :=
  ∃ A1 c1 l1, Wraw wr base g A1 c1 l1 high len ∧ len = bs.length ∧ Packed high bs l1 ∧ Upd (WS g A) w wr ∧ OwnOr w A A1
def PutMid (w : World) (base g : Nat) (A : Option Addr) (high : Bool) (bs : List Bool) (len : Nat) (wr : World) : Prop :=
  ∃ gd c1 l1, Wraw wr base g (some ⟨gd, 0, none⟩) c1 l1 high len ∧ len = bs.length ∧ l1.length = len / 8 + 1 ∧ Holds high bs l1 ∧ Upd (WS g A) w wr ∧ OwnOr w A (some ⟨gd, 0, none⟩)

section
variable {w wr w1 : World} {base g : Nat} {A A1 : Option Addr} {c1 : Nat} {l1 : List UInt8} {high : Bool} {bs : List Bool} {len : Nat}
theorem PutMid.grow {gd c2 : Nat} (hW : Wraw wr base g A1 c1 l1 high len) (hlen : len = bs.length) (hP : Packed high bs l1) (hU : Upd (WS g A) w wr) (hO : OwnOr w A A1) (h8 : len % 8 = 0)
    (hB1 : Blk w1 g 139 #[.slice A1 l1.length c1, .int .i64 (len : Int), ord high])
    (hown1 : w1.ownsRow base 5 1 (.slice (some ⟨gd, 0, none⟩) (l1.length + 1) c2) (l1.length + 1) (bytesV l1 ++ [.int .u8 0]))
    (hg1 : (wr.alloc (.cells #[.int .u8 0] 5)).grownBy w1 (Value.slice A1 l1.length c1).ownBlock)
    (hat1 : (Value.slice A1 l1.length c1).ownBlock = some gd ∨ gd = wr.heap.size + 1) :
    PutMid w base g A high bs len (w1.setCell ⟨g, 0, none⟩ (.slice (some ⟨gd, 0, none⟩) (l1.length + 1) c2)) := by
  have hl1 := hP.1
  have eL : (l1 ++ [(0 : UInt8)]).length = l1.length + 1 := by simp
  have hown2 : w1.ownsRow base 5 1 (.slice (some ⟨gd, 0, none⟩) (l1 ++ [(0 : UInt8)]).length c2) (l1 ++ [(0 : UInt8)]).length (bytesV (l1 ++ [0])) := by
    rw [eL, bytesV_append]; exact hown1
  have hW2 := Wraw.setData hB1 hW.2.2 hown2
  rw [eL] at hW2
  rw [ownBlock_slice] at hg1 hat1
  refine ⟨gd, c2, l1 ++ [0], by rw [eL] at *; simpa using hW2, hlen, by rw [eL]; omega, holds_grow hP.2, ?_, ?_⟩
  · refine ((hU.alloc _).then (Upd.of_grown hg1) (fun i hi e => ?_)).setCell (p := ⟨g, 0, none⟩) (fun _ => .inl rfl) _
    rcases hO i e.symm with h | h
    · exact .inr h
    · omega
  · intro k hk
    have hk' : gd = k := by simpa using hk
    subst hk'
    rcases hat1 with h | h
    · exact hO gd h
    · have := hU.size; exact .inr (by omega)
theorem PutMid.stay (hW : Wraw wr base g A1 c1 l1 high len) (hlen : len = bs.length) (hP : Packed high bs l1) (hU : Upd (WS g A) w wr) (hO : OwnOr w A A1) (h8 : ¬ len % 8 = 0) : PutMid w base g A high bs len wr := by
  have hl1 := hP.1
  obtain ⟨gd, cap, hv, _, _⟩ := hW.2.1.form (by omega)
  injection hv with h1 _ _
  subst h1
  exact ⟨gd, c1, l1, hW, hlen, by omega, hP.2, hU, hO⟩
theorem PutAt.round {wc : World} {gd c2 p : Nat} {l2 : List UInt8} {bsk cs : List Bool} (hW : Wraw wc base g (some ⟨gd, 0, none⟩) c2 l2 high p) (hp : p = bsk.length) (hl2 : l2.length = p / 8 + 1) (hU : Upd (WS g A) w wc) (hO : OwnOr w A (some ⟨gd, 0, none⟩))
    (x : UInt8) (hHx : Holds high (bsk ++ cs) (l2.set (p / 8) x)) (h1 : 1 ≤ cs.length) (h8 : p % 8 + cs.length ≤ 8) (m : Nat) :
    PutAt w base g A high (bsk ++ cs) (p + cs.length) (((wc.drewN m).setCell ⟨gd, p / 8, none⟩ (.int .u8 (x.toNat : Int))).setCell ⟨g, 1, none⟩ (.int .i64 ((p + cs.length : Nat) : Int))) := by
  have hW1 : Wraw (wc.drewN m) base g (some ⟨gd, 0, none⟩) c2 l2 high p := hW
  have hW2 := (hW1.setByte (p / 8) x).setLen (p + cs.length)
  refine ⟨some ⟨gd, 0, none⟩, c2, _, hW2, by simp [hp], ⟨by simp [hl2]; omega, hHx⟩, ?_, hO⟩
  refine ((hU.drewN m).setCell (p := ⟨gd, p / 8, none⟩) (fun hlt => ?_) _).setCell (p := ⟨g, 1, none⟩) (fun _ => .inl rfl) _
  rcases hO gd rfl with h | h
  · exact .inr h
  · exact absurd hlt (by simpa using h)
end

set_option maxHeartbeats 4000000 in
set_option maxRecDepth 100000 in
theorem put_any (w : World) (base g : Nat) (A : Option Addr) (c : Nat) (l : List UInt8) (high : Bool) (bs : List Bool) (v n : Nat) (h : Wraw w base g A c l high bs.length) (hp : Packed high bs l)
    (hv : v < 4294967296) (hn : n ≤ 32) (hsz : bs.length + n ≤ 1125899906842000) (hbase : base ≤ w.heap.size) :
    Calls Tryz.prog 60 #[.pointer (some ⟨g, 0, none⟩), .int .u32 (v : Int), .int .i64 (n : Int)] w fun e w' =>
      e = .returned (.int .i64 0) ∧ PutAt w base g A high (bs ++ bitsOf high v n) (bs.length + n) w' := by
  have d1 : decide ((n : Int) < 0) = false := by simp
  have d2 : decide ((32 : Int) < (n : Int)) = false := by simp; omega
  have h0 : PutAt w base g A high (bs ++ (bitsOf high v n).take 0) (bs.length + 0) w := by
    exact ⟨A, c, l, h, by simp, by simpa using hp, Upd.refl _ _, fun k hk => .inl hk⟩
  have H0 := Lib.hid h0
  clear h h0
  obtain ⟨i0, hi, hz0, hz1, hz2⟩ := info_parts info_u8
  go_enter Tryz.func60, Tryz.ntmps60
  go_wp2_with fail
  go_loopg [7] n (fun gk i wr => ∃ k : Nat, k ≤ n ∧ gk = n - k ∧ i = .int .i64 k ∧ PutAt w base g A high (bs ++ (bitsOf high v n).take k) (bs.length + k) wr)
  case atStart => exact ⟨0, by omega, rfl, rfl, H0.out⟩
  case round =>
    obtain ⟨k, hk, rfl, rfl, A1, c1, l1, hW, hlen, hP, hU, hO⟩ := hrel
    have HL := Lib.hid hlen; clear hlen
    have HP := Lib.hid hP; clear hP
    have HU := Lib.hid hU; clear hU
    by_cases hlt : k < n
    · have hc0 := hW.data
      have hc1 := hW.place
      have hc2 := hW.shift
      have hf0 := hW.free 0
      have hf1 := hW.free 1
      go_upto_if 28 with fail
      go_cut [] (fun wx => PutMid w base g A high (bs ++ (bitsOf high v n).take k) (bs.length + k) wx)
      case first =>
        go_wp2_with (at_builtin; refine wpList_append_lies _ rfl (.tmp 33) (.tmp 34) _ rfl base 5 i0 (.int .u8 0) 1 1 Tryz.underlying22 hi hz0 hz1 hz2 rfl (by decide) (.slice A1 l1.length c1) l1.length (bytesV l1) rfl (hW.2.1.alloc _) ⟨wr.heap.size, 0, none⟩ 1 1 [.int .u8 0] rfl rfl (cell_one_new _ _ _) (by simp [Value.oneCell']) (by decide) (by have := HP.out.1; simp at this; unfold maxLen; omega) (by have := HP.out.1; simp at this; omega) (by have := HU.out.size; simp; omega) (wr.heap.size + 1) (by simp) ?_; intro gd c2 w1 hown1 hg1 hat1 hlt1; have hB1 := (hW.1.alloc (.cells #[.int .u8 0] 5)).upd (Upd.of_grown hg1) (fun e => hW.ne e.symm); have hf10 := hB1.frozen 0; have hc10 := (hB1.cell 0).trans rfl)
        · go_meet
          have ha : (((bs.length : Int) + k) % 8 == 0) = true := by assumption
          have ha' : ((bs.length : Int) + k) % 8 = 0 := by simpa using ha
          exact PutMid.grow hW HL.out HP.out HU.out hO (by omega) hB1 hown1 hg1 hat1
        · go_meet
          have ha : (((bs.length : Int) + k) % 8 == 0) = false := by assumption
          have ha' : ¬ ((bs.length : Int) + k) % 8 = 0 := by simpa using ha
          exact PutMid.stay hW HL.out HP.out HU.out hO (by omega)
      case rest =>
        clear hc0 hc1 hc2 hf0 hf1 hW hO HP HU
        obtain ⟨gd, c2, l2, hW, hl3, hl2, hH, hU, hO⟩ := hcut
        clear hl3
        have HH := Lib.hid hH; clear hH
        have hc0 := hW.data
        have hc1 := hW.place
        have hc2 := hW.shift
        have hf1 := hW.free 1
        have hq : (bs.length + k) / 8 < l2.length := by omega
        have hcd : wc.cell? ⟨gd, (bs.length + k) / 8, none⟩ = some (.int .u8 (l2[(bs.length + k) / 8].toNat : Int)) := by
          rw [hW.2.1.cellAt _ (by omega)]; exact bytesV_get l2 _ hq
        have hfd := hW.2.1.frozenAt ((bs.length + k) / 8)
        have hne : gd ≠ g := fun e => hW.ne (by subst e; rfl)
        have hx := byte_lt l2[(bs.length + k) / 8]
        have HL2 := Lib.hid hl2; clear hl2
        have hi1 : ((bs.length : Int) + k) / 8 < (l2.length : Int) := by omega
        have HW := Lib.hid hW; clear hW
        by_cases hm : 8 - ((bs.length : Int) + k) % 8 ≤ (n : Int) - k
        all_goals
          cases high
          · simp only [ord] at hc2
            go_wp2_with fail
            go_quiet ((go_at_call 96; exact quiet_eq (lowFirst_any _ _ _ _)))
            go_wp2_with fail
            refine wp_region_tail 23 (by kernel_rfl) (by kernel_rfl) ?_
            simp only [List.take_succ_cons, List.take_zero, List.drop_succ_cons, List.drop_zero, World.drew_drewN]
            repeat (go_big_quiet_step (fail))
            go_big_quiet_want
            go_big_quiet_op
            refine ⟨_, (lowFirst_any _ _ _ _).mono fun _ _ h => ⟨h.1, h.2.symm⟩, ?_⟩
            go_big_quiet_on
            repeat (go_big_quiet_step (fail))
            refine wpQuiet_nil ?_
            go_wp2_with fail
            first
            | (have hkk : (((bitsOf false v n).drop k).take (8 - (bs.length + k) % 8)).length = 8 - (bs.length + k) % 8 := by rw [List.length_take, List.length_drop, bitsOf_length]; omega
               obtain ⟨x, hx, hHx⟩ := put_round false _ (bs.length + k) HL.out.symm l2 v n k (8 - (bs.length + k) % 8) HH.out hq (by omega) (by omega) hv
               simp only [Bool.false_eq_true, if_false] at hx
               have e : ((bs.length : Int) + k + (8 - ((bs.length : Int) + k) % 8)) = ((bs.length + (k + (8 - (bs.length + k) % 8)) : Nat) : Int) := by omega
               rw [hx, e]
               have R := PutAt.round HW.out HL.out HL2.out hU hO x hHx (by rw [hkk]; omega) (by rw [hkk]; omega) (nq + 1)
               rw [hkk, List.append_assoc, take_step, Nat.add_assoc bs.length] at R
               go_roundg (n - (k + (8 - (bs.length + k) % 8)))
               case measure => omega
               case rel => exact ⟨k + (8 - (bs.length + k) % 8), by omega, rfl, by go_num, R⟩)
            | (have hkk : (((bitsOf false v n).drop k).take (n - k)).length = n - k := by rw [List.length_take, List.length_drop, bitsOf_length]; omega
               obtain ⟨x, hx, hHx⟩ := put_round false _ (bs.length + k) HL.out.symm l2 v n k (n - k) HH.out hq (by omega) (by omega) hv
               simp only [Bool.false_eq_true, if_false] at hx
               have e : ((bs.length : Int) + k + ((n : Int) - k)) = ((bs.length + (k + (n - k)) : Nat) : Int) := by omega
               rw [hx, e]
               have R := PutAt.round HW.out HL.out HL2.out hU hO x hHx (by rw [hkk]; omega) (by rw [hkk]; omega) (nq + 1)
               rw [hkk, List.append_assoc, take_step, Nat.add_assoc bs.length] at R
               go_roundg (n - (k + (n - k)))
               case measure => omega
               case rel => exact ⟨k + (n - k), by omega, rfl, by go_num, R⟩)
          · simp only [ord] at hc2
            go_wp2_with fail
            go_quiet ((go_at_call 95; exact quiet_eq (highFirst_any _ _ _ _ (by omega) (by omega) (by omega) (by omega) (by omega) (by omega))))
            go_wp2_with fail
            refine wp_region_tail 23 (by kernel_rfl) (by kernel_rfl) ?_
            simp only [List.take_succ_cons, List.take_zero, List.drop_succ_cons, List.drop_zero, World.drew_drewN]
            repeat (go_big_quiet_step (fail))
            go_big_quiet_want
            go_big_quiet_op
            refine ⟨_, (highFirst_any _ _ _ _ (by omega) (by omega) (by omega) (by omega) (by omega) (by omega)).mono fun _ _ h => ⟨h.1, h.2.symm⟩, ?_⟩
            go_big_quiet_on
            repeat (go_big_quiet_step (fail))
            refine wpQuiet_nil ?_
            go_wp2_with fail
            first
            | (have hkk : (((bitsOf true v n).drop k).take (8 - (bs.length + k) % 8)).length = 8 - (bs.length + k) % 8 := by rw [List.length_take, List.length_drop, bitsOf_length]; omega
               obtain ⟨x, hx, hHx⟩ := put_round true _ (bs.length + k) HL.out.symm l2 v n k (8 - (bs.length + k) % 8) HH.out hq (by omega) (by omega) hv
               simp only [if_true] at hx
               rw [show 8 - (bs.length + k) % 8 - (8 - (bs.length + k) % 8) = 0 from by omega, Int.pow_zero, Int.mul_one] at hx
               have e : ((bs.length : Int) + k + (8 - ((bs.length : Int) + k) % 8)) = ((bs.length + (k + (8 - (bs.length + k) % 8)) : Nat) : Int) := by omega
               rw [hx, e]
               have R := PutAt.round HW.out HL.out HL2.out hU hO x hHx (by rw [hkk]; omega) (by rw [hkk]; omega) (nq + 1)
               rw [hkk, List.append_assoc, take_step, Nat.add_assoc bs.length] at R
               go_roundg (n - (k + (8 - (bs.length + k) % 8)))
               case measure => omega
               case rel => exact ⟨k + (8 - (bs.length + k) % 8), by omega, rfl, by go_num, R⟩)
            | (have hkk : (((bitsOf true v n).drop k).take (n - k)).length = n - k := by rw [List.length_take, List.length_drop, bitsOf_length]; omega
               obtain ⟨x, hx, hHx⟩ := put_round true _ (bs.length + k) HL.out.symm l2 v n k (n - k) HH.out hq (by omega) (by omega) hv
               simp only [if_true] at hx
               rw [show n - k - (n - k) = 0 from by omega, Int.pow_zero, Int.ediv_one] at hx
               have e : ((bs.length : Int) + k + ((n : Int) - k)) = ((bs.length + (k + (n - k)) : Nat) : Int) := by omega
               rw [hx, e]
               have R := PutAt.round HW.out HL.out HL2.out hU hO x hHx (by rw [hkk]; omega) (by rw [hkk]; omega) (nq + 1)
               rw [hkk, List.append_assoc, take_step, Nat.add_assoc bs.length] at R
               go_roundg (n - (k + (n - k)))
               case measure => omega
               case rel => exact ⟨k + (n - k), by omega, rfl, by go_num, R⟩)
    · have hkn : k = n := by omega
      subst hkn
      have hfull : (bitsOf high v k).take k = bitsOf high v k := List.take_of_length_le (by rw [bitsOf_length]; omega)
      have R : PutAt w base g A high (bs ++ bitsOf high v k) (bs.length + k) wr := ⟨A1, c1, l1, hW, by rw [← hfull]; exact HL.out, by rw [← hfull]; exact HP.out, HU.out, hO⟩
      have HR := Lib.hid R
      clear R hfull
      go_wp2_with fail
      go_ret
      exact ⟨rfl, HR.out⟩
end Go.Proofs.YtfbokhdimffabaaGreatDoor
