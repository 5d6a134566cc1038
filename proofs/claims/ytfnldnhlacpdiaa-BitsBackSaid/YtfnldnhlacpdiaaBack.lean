/- Numbers that are written in an order are read back in it, one by one: for either order and every list of acts: no condition. -/
import Derived.Test.YtfnldnhlacpdiaaBk
namespace Go.Proofs.Ytfnldnhlacpdiaa
open Go.ChangeShapes Go.WideShapes Go.ChangeAt Go.RowKit
namespace BitsBack

set_option maxHeartbeats 4000000 in
set_option maxRecDepth 100000 in
theorem walk (high : Bool) (A : Option Addr) (c : Nat) (acts : List (Int × Int × Nat)) (w : World) (h : Acts w w.heap.size A acts) (hok : ∀ a ∈ acts, ActOk a) (hl : acts.length ≤ 8796093022208) :
    Calls Try.prog 5 #[.bool high, .slice A acts.length c] w fun e w' => e = .returned (.bool true) ∧ Below w.heap.size w w' := by
  go_enter Try.func5, Try.ntmps5
  go_wp2_with fail
  refine (wakes_any w).mono ?_
  rintro e w1 ⟨rfl, hb1⟩
  have u1 := (Up.refl w).fresh hb1
  go_wp2_with fail
  refine (newWriter_any high w1).mono ?_
  rintro e w2 ⟨g, rfl, hW2, hb2, hg⟩
  have u2 := u1.fresh hb2
  have s2 : w1.heap.size ≤ w2.heap.size := hb2.size
  have hA2 : WAt w w1.heap.size g high (allBits high (acts.take 0)) w2 := ⟨none, 0, [], hW2, packed_nil high, u2, u1.size, s2⟩
  have HA2 := Lib.hid hA2
  have hgw : w.heap.size ≤ g := Nat.le_trans u1.size hW2.2.2
  clear hb1 hb2 hW2 u2 hA2
  go_wp2_with fail
  go_loopg [20] acts.length (fun gk i wr => ∃ k : Nat, k ≤ acts.length ∧ gk = acts.length - k ∧ i = .int .i64 k ∧ WAt w w1.heap.size g high (allBits high (acts.take k)) wr)
  case atStart => exact ⟨0, by omega, rfl, rfl, HA2.out⟩
  case round =>
    obtain ⟨k, hk, rfl, rfl, hA⟩ := hrel
    have hU : Up w wr := hA.choose_spec.choose_spec.choose_spec.2.2.1
    have HA := Lib.hid hA; clear hA
    by_cases hlt : k < acts.length
    · obtain ⟨b, off, rfl, hb, hcells⟩ := (h.upd hU (Nat.le_refl _) (fun i hi => by omega)) (by omega)
      obtain ⟨k0, k1, k2⟩ := hcells k hlt
      have hko := hok acts[k] (List.getElem_mem hlt)
      have HT := Lib.hid (allBits_take high acts k hlt)
      have hsz := allBits_len_take high acts k
      clear hcells hU
      generalize acts[k] = a at *
      obtain ⟨a0, a1, a2⟩ := a
      have hv : a2 < 4294967296 := hko.2.2
      go_wp2_with fail
      refine wp_region_tail 11 (by kernel_rfl) (by kernel_rfl) ?_
      simp only [List.take_succ_cons, List.take_zero, List.drop_succ_cons, List.drop_zero]
      repeat (go_big_quiet_step (fail))
      refine wpQuiet_nil ?_
      go_wp2_with fail
      refine (put_act a1 a2 HA.out.drew hv (by omega)).mono ?_
      rintro e w3 ⟨rfl, hA3⟩
      rw [← HT.out] at hA3
      have HA3 := Lib.hid hA3; clear hA3
      go_wp2_with fail
      go_roundg (acts.length - (k + 1))
      case measure => omega
      case rel => exact ⟨k + 1, by omega, rfl, by go_num, HA3.out⟩
    · have hkn : k = acts.length := by omega
      subst hkn
      have hA := HA.out
      rw [List.take_length] at hA
      obtain ⟨A1, c1, l1, hW, hP, hU, hb, hB⟩ := hA
      have hlen := allBits_len high acts
      have hl1 : l1.length ≤ 140737488355328 := by have := hP.1; omega
      clear HA HA2
      have HP := Lib.hid hP; clear hP
      go_wp2_with fail
      refine (wbytes_any wr _ g _ _ _ _ _ hW hl1).mono ?_
      rintro e w3 ⟨A3, c3, rfl, hown3, hb3⟩
      have hW3 := hW.upd (Upd.of_fresh hb3) id (fun _ _ => id)
      have u3 := hU.fresh hb3
      go_wp2_with fail
      refine (newReader_any A3 c3 l1 high _ w3 (Bs.of_own hown3) (Nat.le_refl _) hl1).mono ?_
      rintro e w4 ⟨gR, A4, c4, rfl, hR4, hb4⟩
      have hW4 := hW3.upd (Upd.of_fresh hb4) id (fun _ _ => id)
      have u4 := u3.fresh hb4
      have hne : gR ≠ g := hR4.1.ne_ hW4.1 (by decide)
      have hgR : w.heap.size ≤ gR := Nat.le_trans u3.size hR4.2.2.1
      have HW4 := Lib.hid hW4
      have HR4 := Lib.hid hR4
      have HU4 := Lib.hid u4
      clear hW hU hB hown3 hb3 hW3 u3 hb4 hW4 hR4 u4 hb
      go_wp2_with fail
      go_loopg [42] acts.length (fun gk i wr => ∃ k : Nat, k ≤ acts.length ∧ gk = acts.length - k ∧ i = .int .i64 k ∧ Rdr wr w3.heap.size gR A4 c4 l1 high (allBits high (acts.take k)).length ∧ Upd (· = gR) w4 wr)
      case atStart => exact ⟨0, by omega, rfl, rfl, by simpa [allBits] using HR4.out, Upd.refl _ _⟩
      case round =>
        obtain ⟨k, hk, rfl, rfl, hR, hU⟩ := hrel
        have HR := Lib.hid hR; clear hR
        have HU := Lib.hid hU; clear hU
        have uU : Up w wr := HU4.out.step HU.out (fun i e => by subst e; exact hgR)
        by_cases hlt : k < acts.length
        · obtain ⟨b, off, rfl, hb, hcells⟩ := (h.upd uU (Nat.le_refl _) (fun i hi => by omega)) (by omega)
          obtain ⟨k0, k1, k2⟩ := hcells k hlt
          have hko := hok acts[k] (List.getElem_mem hlt)
          have HT := Lib.hid (allBits_take high acts k hlt)
          have HAt := Lib.hid (fun i hi => allBits_at high acts k i hlt hi)
          have HL := Lib.hid (allBits_len_take high acts (k + 1))
          have HLe := Lib.hid (show (allBits high (acts.take (k + 1))).length ≤ (allBits high acts).length from allBits_mono high acts (k + 1))
          clear hcells uU
          generalize acts[k] = a at *
          obtain ⟨a0, a1, a2⟩ := a
          have hv : a2 < 4294967296 := hko.2.2
          by_cases hr : a1 < 0 ∨ 32 < a1
          · have HO := Lib.hid (actBits_out high a1 a2 hr)
            have HRn : Hid (Rdr wr w3.heap.size gR A4 c4 l1 high (allBits high (acts.take (k + 1))).length) := Lib.hid (by rw [HT.out, HO.out, List.append_nil]; exact HR.out)
            rcases hr with hr | hr
            · have d1 : decide (a1 < 0) = true := by simp; omega
              go_wp2_with fail
              go_roundg (acts.length - (k + 1))
              case measure => omega
              case rel => exact ⟨k + 1, by omega, rfl, by go_num, HRn.out, HU.out⟩
            · have d1 : decide (a1 < 0) = false := by simp; omega
              have d2 : decide (32 < a1) = true := by simp; omega
              go_wp2_with fail
              go_roundg (acts.length - (k + 1))
              case measure => omega
              case rel => exact ⟨k + 1, by omega, rfl, by go_num, HRn.out, HU.out⟩
          · obtain ⟨m, rfl⟩ := Int.eq_ofNat_of_zero_le (show 0 ≤ a1 by omega)
            have hm : m ≤ 32 := by omega
            have hAB := actBits_in high m a2 hm
            have hposl : (allBits high (acts.take k)).length + m ≤ 8 * l1.length := by
              have h1 := HLe.out
              rw [HT.out, hAB, List.length_append, bitsOf_length] at h1
              have h2 := HP.out.1
              omega
            have HN : Hid (num high (fun i => bitAt l1 high ((allBits high (acts.take k)).length + i)) m = a2 % 2 ^ m) := by
              refine Lib.hid (num_of high _ a2 m (fun i hi => ?_))
              rw [HP.out.2, HAt.out i (by rw [hAB, bitsOf_length]; exact hi), hAB, bitsOf_get _ _ _ _ hi]
              rfl
            have HS : Hid ((allBits high (acts.take (k + 1))).length = (allBits high (acts.take k)).length + m) := Lib.hid (by rw [HT.out, hAB, List.length_append, bitsOf_length])
            clear hAB
            have d1 : decide ((m : Int) < 0) = false := by simp
            have d2 : decide (32 < (m : Int)) = false := by simp; omega
            have hz := pow32_ne m hm
            have hq := pow32_eq a2 m hv hm
            go_wp2_with fail
            refine (take_any wr _ gR _ _ _ _ _ m HR.out hm hposl).mono ?_
            rw [HN.out]
            rintro e w5 ⟨rfl, hR5, hu5⟩
            have hbl : b < wr.heap.size := block_lt_of_cell k2
            have k25 := (World.cell?_of_block (a := ⟨b, off + k * 3 + 2, none⟩) (hu5.block b hbl (fun e => by omega))).trans k2
            rw [← HS.out] at hR5
            have HR5 := Lib.hid hR5; clear hR5
            go_wp2_with fail
            go_roundg (acts.length - (k + 1))
            case measure => omega
            case rel => exact ⟨k + 1, by omega, rfl, by go_num, HR5.out, HU.out.trans hu5⟩
        · have hkn : k = acts.length := by omega
          subst hkn
          have hR := HR.out
          rw [List.take_length] at hR
          have hW := HW4.out.upd HU.out (fun e => hne e.symm) (fun i hi e => by subst e; exact own_blk_ne HW4.out.2.1 HR4.out.1 (by decide) hi)
          have hp1 := HP.out.1
          go_wp2_with fail
          refine (left_any wr _ gR _ _ _ _ _ hR).mono ?_
          rintro e w5 ⟨rfl, n5, rfl⟩
          have hR5 : Rdr (wr.drewN n5) _ gR _ _ _ _ _ := hR
          have hW5 : Wraw (wr.drewN n5) _ g _ _ _ _ _ := hW
          have hlt8 : decide (8 * (l1.length : Int) - ((allBits high acts).length : Int) < 8) = true := by simp; omega
          go_wp2_with fail
          refine (place_any _ _ gR _ _ _ _ _ hR5).mono ?_
          rintro e w' ⟨rfl, rfl⟩
          go_wp2_with fail
          refine (wlen_any _ _ g _ _ _ _ _ hW5).mono ?_
          rintro e w' ⟨rfl, rfl⟩
          go_wp2_with fail
          go_ret
          exact ⟨ret_bool (by simp), Up.below (uU.drewN n5)⟩

set_option maxRecDepth 100000 in
theorem lifted (os : Os) (started : os.Started) (H : Type) (enc : TypeId × Value → H) :
    ReturnsInHanded {} Try.checked os 5 .any (Rows.bitsBackSpec.pre6 enc Try.prog Try.f5 Rows.bitsBackRow.domain false) (Rows.bitsBackSpec.post enc Try.prog Try.f5 false true false false) := by
  refine returnsInHanded_of_change_sized (C := Try.checked) prog_own started (by kernel_rfl) Try.func5
    (ChangeSpec.witness6 (enc := enc) (C := Try.checked) false ⟨#[], #[.bool false, .slice none 0 0], []⟩ 8 (by kernel_rfl) (by kernel_rfl) (by kernel_rfl) (by kernel_rfl)) ?_
  intro W base args ds gs before hval0 hW hcnd hsz _
  have hval : ∀ (j : Nat) t v, Try.f5.params[j]? = some t → args[j]? = some v → Value.okWide Try.prog W .any base t v := hval0
  have hW' := hW
  obtain ⟨p, q, hA0, hV, rfl, hfz, hnd⟩ := hW
  have hA : DataW.TrodAll enc Try.prog W 0 (fun _ => true) true Try.f5.params.toList args.toList ds p := hA0
  rw [Try.params5] at hA hval
  obtain ⟨v0, vs0, d0, ds0, p0, q0, hargs, rfl, rfl, h0, r0⟩ := trodAll_cons hA
  obtain ⟨v1, vs1, d1, ds1, p1, q1, rfl, rfl, rfl, h1, r1⟩ := trodAll_cons r0
  obtain ⟨rfl, rfl, rfl⟩ := trodAll_nil r1
  obtain rfl : args = #[v0, v1] := by cases args; simp_all
  obtain ⟨rfl, rfl⟩ := trodVars_none hV
  obtain ⟨high, rfl, rfl, rfl⟩ := open_bool Try.underlying4 (hval 0 4 v0 rfl rfl) h0
  obtain ⟨A1, acts, c1, rfl, ha1, hok1, hd1⟩ := open_acts (hval 1 23 v1 rfl rfl) h1
  have hl1 : acts.length ≤ 5864062014805 := by
    rcases hd1 with ⟨_, rfl⟩ | ⟨e, s, rfl, hle⟩
    · simp
    · have this : (e.length + s.length) * Try.prog.bytesOf 32 ≤ reachBytes := sized_slice hsz (j := 1) (t := 23) (e := 32) rfl rfl Try.underlying23
      rw [bytes_act] at this
      unfold reachBytes at this
      omega
  have lt1 : ∀ x ∈ p1, x.block < W.heap.size := by obtain ⟨m, hm⟩ := h1; exact DataW.trod_lt m _ _ _ hm
  clear hA0 hval0
  refine (walk high A1 c1 acts W ha1 hok1 (by omega)).mono fun e W' ⟨he, bel⟩ => ?_
  subst he
  exact ⟨_, rfl, _, _, _, [], _, [], hW', trodAll_mk1 (shut_bool Try.underlying4 _), (trodAll_cons_mk (shut_bool Try.underlying4 _) (trodAll_cons_mk (Below.trod prog_laid (by kernel_rfl) (of_decide_eq_true (by kernel_rfl)) h1 bel lt1) trodAll_mk0)), rfl, bel.frame _, fun h => by cases h⟩

theorem over : Rows.bitsBackRow.holds Try.pinned (OpenSpec.ofChange Rows.bitsBackSpec) :=
  OpenClaim.holds_of_wide 5 Try.f5 rfl rfl rfl rfl rfl rfl rfl ⟨rfl, rfl, rfl, rfl, rfl⟩ rfl rfl rfl rfl rfl (by kernel_rfl) Try.func5 (by kernel_rfl)
    (of_decide_eq_true (by kernel_rfl)) (by unfold Func.isWrapper; first | (rw [if_pos (by decide +kernel)]; kernel_rfl) | (rw [if_neg (by decide +kernel)]; exact ⟨rfl, rfl⟩))
    (fun os started H enc _ => lifted os started H enc)
end BitsBack

theorem bitsBack_holds : Rows.BitsBackSaid := BitsBack.over
#print axioms bitsBack_holds
end Go.Proofs.Ytfnldnhlacpdiaa
