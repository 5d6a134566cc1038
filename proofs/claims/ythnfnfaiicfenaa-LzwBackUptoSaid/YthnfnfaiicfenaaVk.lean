/- Proved: bytes that are packed as GIF's or TIFF's codes are read back by the document's reader and by the program's, and a byte less room is refused: for every list of bytes and every size whose readings are together of bulk at most 1048576 (the second form). -/
import Derived.Test.YthnfnfaiicfenaaVq
import Derived.Deep.CutBlock
namespace Go.Proofs.Ythnfnfaiicfenaa
open Go.ChangeShapes Go.WideShapes Go.ChangeAt Go.RowKit
namespace LzwBack

theorem ret_tt {a : Bool} (h : a = true) : Ending.returned (.bool a) = .returned (.bool true) := by rw [h]
set_option maxHeartbeats 8000000 in
set_option maxRecDepth 100000 in
theorem walk (A : Option Addr) (c : Nat) (l : List UInt8) (size : Int) (w : World) (hbs : Bs w w.heap.size A l) (_ : l.length ≤ c) (hl : l.length ≤ 1048576) (hsz : -9223372036854775808 ≤ size ∧ size ≤ 9223372036854775807) :
    Calls Try.prog 6 #[.slice A l.length c, .int .i64 size] w fun e w' => e = .returned (.bool true) ∧ Below w.heap.size w w' := by
  obtain ⟨n, hn⟩ : ∃ n, l.length = n := ⟨_, rfl⟩
  rw [hn] at hl ⊢
  have HN := Lib.hid hn
  have HBS := Lib.hid hbs
  have hmx : n ≤ maxLen := by unfold maxLen; omega
  clear hn hbs
  go_enter Try.func6, Try.ntmps6
  go_wp2_with fail
  refine (wakes_any w).mono ?_
  rintro e w1 ⟨rfl, hb1⟩
  have HB1 := Lib.hid hb1
  clear hb1
  go_wp2_with fail
  refine (own_n A c n l HN.out w.heap.size w1 (HBS.out.below HB1.out) (by omega) HB1.out.size).mono ?_
  rintro e w2 ⟨A2, c2, rfl, o2, hb2⟩
  have HB2 := Lib.hid (HB1.out.trans (hb2.mono HB1.out.size))
  have HO2 := Lib.hid (own_bs HN.out o2)
  have hnc : n ≤ c2 := (own_cap o2).1
  clear o2 hb2
  go_wp2_with fail
  refine (tiffPack_any w2 A2 c2 n l HN.out HO2.out hnc hl).mono ?_
  rintro e w3 ⟨lp, A3, c3, hp, rfl, o3, hb3⟩
  have HP := Lib.hid hp
  have hlp := packed_len hp (by rw [HN.out]; exact hl)
  obtain ⟨k, hk⟩ : ∃ k, lp.length = k := ⟨_, rfl⟩
  rw [hk] at hlp o3 ⊢
  have HK := Lib.hid hk
  have HB3 := Lib.hid (HB2.out.trans (hb3.mono HB2.out.size))
  have HP3 := Lib.hid (own_bs hk o3)
  clear o3 hb3 hp hk HO2 hnc
  go_wp2_with fail
  refine (refTiff_any w3 A3 c3 k lp (n : Int) HK.out HP3.out (by rw [HK.out]; exact hlp) (by omega)).mono ?_
  intro e w4 hr
  obtain ⟨A4, c4, rfl, hx4, hb4⟩ := UnpackR.ok_ ((tiff_back HP.out (n : Int)).trans (if_pos (by rw [HN.out, Int.toNat_natCast]; exact Nat.le_refl _))) HN.out hr
  have HB4 := Lib.hid (HB3.out.trans (hb4.mono HB3.out.size))
  have HP4 := Lib.hid ((HP3.out.below hb4).more hb4.size)
  have HX4 := Lib.hid hx4
  clear hr hx4 hb4 HP3
  go_wp2_with fail
  refine (own_n A3 c3 k lp HK.out w4.heap.size w4 HP4.out (by omega) (Nat.le_refl _)).mono ?_
  rintro e w5 ⟨A5, c5, rfl, o5, hb5⟩
  have HB5 := Lib.hid (HB4.out.trans (hb5.mono HB4.out.size))
  have HP5 := Lib.hid ((HP4.out.below hb5).more hb5.size)
  have HX5 := Lib.hid ((HX4.out.below hb5).more hb5.size)
  have HO5 := Lib.hid (own_bs HK.out o5)
  clear o5 hb5 HP4 HX4
  go_wp2_with fail
  refine (tiffUnpack_any w5 A5 c5 k lp (n : Int) HK.out HO5.out (by rw [HK.out]; exact hlp)).mono ?_
  intro e w6 hr
  obtain ⟨A6, c6, rfl, hy6, hb6⟩ := UnpackR.ok_ ((tiff_back HP.out (n : Int)).trans (if_pos (by rw [HN.out, Int.toNat_natCast]; exact Nat.le_refl _))) HN.out hr
  have HB6 := Lib.hid (HB5.out.trans (hb6.mono HB5.out.size))
  have HP6 := Lib.hid ((HP5.out.below hb6).more hb6.size)
  have HX6 := Lib.hid ((HX5.out.below hb6).more hb6.size)
  have HY6 := Lib.hid hy6
  clear hr hy6 hb6 HP5 HX5 HO5
  go_wp2_with fail
  refine (own_n A3 c3 k lp HK.out w6.heap.size w6 HP6.out (by omega) (Nat.le_refl _)).mono ?_
  rintro e w7 ⟨A7, c7, rfl, o7, hb7⟩
  have HB7 := Lib.hid (HB6.out.trans (hb7.mono HB6.out.size))
  have HX7 := Lib.hid ((HX6.out.below hb7).more hb7.size)
  have HY7 := Lib.hid ((HY6.out.below hb7).more hb7.size)
  have HO7 := Lib.hid (own_bs HK.out o7)
  clear o7 hb7 HP6 HX6 HY6
  go_wp2_with fail
  refine (tiffUnpack_any w7 A7 c7 k lp ((n : Int) - 1) HK.out HO7.out (by rw [HK.out]; exact hlp)).mono ?_
  intro e w8 hr
  rw [tiff_back HP.out ((n : Int) - 1)] at hr
  obtain ⟨A8, k8, c8, g8, rfl, hg8, hb8⟩ := UnpackR.any_ HN.out rfl hr
  have HB8 := Lib.hid (HB7.out.trans (hb8.mono HB7.out.size))
  have HX8 := Lib.hid ((HX7.out.below hb8).more hb8.size)
  have HY8 := Lib.hid ((HY7.out.below hb8).more hb8.size)
  have HA8 := Lib.hid ((HBS.out.below HB8.out).more HB8.out.size)
  clear hr hb8 HX7 HY7 HO7
  go_upto_region 7 with (fail)
  go_cut [75] from 49 to 74 (fun v wx => v = .bool false ∧ ∃ m, wx = w8.drewN m)
  case first =>
    have HS1 := Lib.hid (same_tt A4 A c4 c n l HN.out w8.heap.size w8 HX8.out HA8.out hmx)
    have HS2 := Lib.hid (fun m => same_tt A6 A c6 c n l HN.out w8.heap.size (w8.drewN m) HY8.out HA8.out hmx)
    go_wp2_with fail
    refine HS1.out.mono ?_
    rintro e w9 ⟨rfl, m, rfl⟩
    go_wp2_with fail
    refine (HS2.out m).mono ?_
    rintro e w9 ⟨rfl, m', rfl⟩
    rcases hg8 with rfl | rfl
    · go_wp2_with fail
      go_meet
      exact ⟨rfl, m + m', rfl⟩
    · by_cases h3 : g8 = 3
      · subst h3
        go_wp2_with fail
        go_meet
        exact ⟨rfl, m + m', rfl⟩
      · have h4 : (g8 != 3) = true := by simpa using h3
        go_wp2_with fail
        go_meet
        exact ⟨rfl, m + m', rfl⟩
  case rest =>
    obtain ⟨rfl, m8, hm8⟩ := hcut
    have hb9 : Below w8.heap.size w8 wc := by rw [hm8]; exact below_drewN_ (Below.refl _ _) m8
    have HB9 := Lib.hid (HB8.out.trans (hb9.mono HB8.out.size))
    obtain ⟨w9, hw9⟩ : ∃ w9 : World, w9 = wc := ⟨_, rfl⟩
    rw [← hw9] at HB9 ⊢
    clear hw9 hb9 hm8 HX8 HY8 HA8 HB8 HP HK hlp hg8
    go_wp2_with fail
    refine (own_n A c n l HN.out w.heap.size w9 (HBS.out.below HB9.out) (by omega) HB9.out.size).mono ?_
    rintro e w10 ⟨A10, c10, rfl, o10, hb10⟩
    have HB10 := Lib.hid (HB9.out.trans (hb10.mono HB9.out.size))
    have HO10 := Lib.hid (own_bs HN.out o10)
    have hnc : n ≤ c10 := (own_cap o10).1
    clear o10 hb10
    go_wp2_with fail
    refine (gifPack_any w10 A10 c10 n l size HN.out HO10.out hnc hl).mono ?_
    intro e w11 hr
    obtain ⟨Aq, mq, cq, kq, rfl, hb11, hq⟩ := hr.say
    have HQ := Lib.hid hq
    have HB11 := Lib.hid (HB10.out.trans (hb11.mono HB10.out.size))
    clear hr hq hb11 HO10 hnc
    go_upto_region 10 with (fail)
    go_cut [14] from 83 to 88 (fun v wx => v = .bool (decide (2 ≤ size ∧ size ≤ 8)) ∧ wx = w11)
    case first =>
      by_cases h2 : (2 : Int) ≤ size
      · by_cases h8 : size ≤ 8
        · have hd : decide (2 ≤ size ∧ size ≤ 8) = true := decide_eq_true ⟨h2, h8⟩
          go_wp2_with fail
          go_meet
          exact ⟨by rw [hd], rfl⟩
        · have hd : decide (2 ≤ size ∧ size ≤ 8) = false := decide_eq_false (fun h => h8 h.2)
          go_wp2_with fail
          go_meet
          exact ⟨by rw [hd], rfl⟩
      · have hd : decide (2 ≤ size ∧ size ≤ 8) = false := decide_eq_false (fun h => h2 h.1)
        go_wp2_with fail
        go_meet
        exact ⟨by rw [hd], rfl⟩
    case rest =>
      obtain ⟨rfl, hwc⟩ := hcut
      rw [hwc]
      clear hwc
      go_wp2_with fail
      go_loopw [14, 91] (fun v i wr => ∃ (j : Nat) (fb : Bool), j ≤ n ∧ i = .int .i64 (j : Int) ∧ v = .bool fb ∧ Hid (fb = true ↔ (2 ≤ size ∧ size ≤ 8 ∧ ∀ b ∈ l.take j, b.toNat < clr size.toNat)) ∧ Hid (Below w11.heap.size w11 wr)) (fun _ i _ => n - (intOf i).toNat)
      case atStart => exact ⟨0, _, Nat.zero_le _, rfl, rfl, Lib.hid (by simp), Lib.hid (Below.refl _ _)⟩
      case round =>
        obtain ⟨j, fb, hj, rfl, rfl, HF, HW⟩ := hrel
        have HBW := Lib.hid (HB11.out.trans (HW.out.mono HB11.out.size))
        by_cases hlt : j < n
        · have hjl : j < l.length := by rw [HN.out]; exact hlt
          obtain ⟨ad, rfl, _, hc⟩ := (HBS.out.below HBW.out).at_ hjl
          have HT : Hid (l.take (j + 1) = l.take j ++ [l[j]]) := Lib.hid (by rw [List.take_succ_eq_append_getElem hjl])
          generalize l[j] = b at hc HT
          clear hjl
          have hb256 := b.toNat_lt
          cases fb with
          | false =>
            have HF2 : Hid (false = true ↔ (2 ≤ size ∧ size ≤ 8 ∧ ∀ x ∈ l.take (j + 1), x.toNat < clr size.toNat)) := Lib.hid ⟨fun h => (by cases h), fun h => HF.out.2 ⟨h.1, h.2.1, fun x hx => h.2.2 x (by rw [HT.out]; exact List.mem_append_left _ hx)⟩⟩
            go_wp2_with fail
            go_roundw
            case rel => exact ⟨j + 1, false, by omega, by go_num, rfl, HF2, HW⟩
            case measure => simp [intOf]; omega
          | true =>
            obtain ⟨f1, f2, f3⟩ := HF.out.1 rfl
            obtain ⟨s, rfl⟩ : ∃ s : Nat, size = s := ⟨size.toNat, by omega⟩
            have hs1 : 2 ≤ s := by omega
            have hs2 : s ≤ 8 := by omega
            have hcl := clr_le hs1 hs2
            have e1 : wrap64 ((2 : Int) ^ s) = (clr s : Nat) := by
              have e : (2 : Int) ^ s = (clr s : Nat) := by unfold clr; exact (Int.natCast_pow 2 s).symm
              rw [e]
              exact IntWalk.wrap64_in _ ⟨by omega, by omega⟩
            have HF2 : Hid (decide (b.toNat < clr s) = true ↔ (2 ≤ (s : Int) ∧ (s : Int) ≤ 8 ∧ ∀ x ∈ l.take (j + 1), x.toNat < clr (s : Int).toNat)) := Lib.hid (by
              rw [Int.toNat_natCast] at f3 ⊢
              rw [decide_eq_true_iff, HT.out]
              constructor
              · intro h
                refine ⟨f1, f2, fun x hx => ?_⟩
                rcases List.mem_append.1 hx with h3 | h3
                · exact f3 x h3
                · simp only [List.mem_singleton] at h3
                  subst h3
                  exact h
              · intro h
                exact h.2.2 b (List.mem_append_right _ (by simp)))
            clear f3
            go_wp2_with fail
            go_roundw
            case rel => exact ⟨j + 1, _, by omega, by go_num, rfl, by simpa using HF2, HW⟩
            case measure => simp [intOf]; omega
        · obtain rfl : j = n := by omega
          have HFT : Hid (fb = true ↔ Fits l size) := Lib.hid (by
            have h := HF.out
            rw [List.take_of_length_le (by rw [HN.out]; exact Nat.le_refl _)] at h
            exact h)
          clear HF
          rcases HQ.out with ⟨hno, rfl, rfl⟩ | ⟨hyes, rfl, lq, hlq, hpq, hbq⟩
          · obtain rfl : fb = false := by
              cases fb with
              | false => rfl
              | true => exact absurd (HFT.out.1 rfl) hno
            clear hno
            go_wp2_with fail
            go_ret
            exact ⟨ret_tt (by simp), HBW.out⟩
          · obtain rfl : fb = true := HFT.out.2 hyes
            obtain ⟨f1, f2, f3⟩ := hyes
            obtain ⟨s, rfl⟩ : ∃ s : Nat, size = s := ⟨size.toNat, by omega⟩
            rw [Int.toNat_natCast] at hpq f3
            have HG := Lib.hid (gif_back (s := s) (by omega) (by omega) f3 hpq)
            have hlq2 := packed_len hpq (by rw [HN.out]; exact hl)
            have HLQ := Lib.hid hlq
            have HQ12 := Lib.hid ((hbq.below HW.out).more HW.out.size)
            have HL12 := Lib.hid ((HBS.out.below HBW.out).more HBW.out.size)
            clear hpq f3 hbq hlq HQ HFT
            go_wp2_with fail
            refine (refGif_any wr Aq cq mq lq (s : Int) (j : Int) HLQ.out HQ12.out hlq2 (by omega)).mono ?_
            intro e w13 hr
            obtain ⟨A13, c13, rfl, hz13, hb13⟩ := UnpackR.ok_ ((HG.out (j : Int)).trans (if_pos (by rw [HN.out, Int.toNat_natCast]; exact Nat.le_refl _))) HN.out hr
            have HB13 := Lib.hid (HBW.out.trans (hb13.mono HBW.out.size))
            have HQ13 := Lib.hid ((HQ12.out.below hb13).more hb13.size)
            have HL13 := Lib.hid ((HL12.out.below hb13).more hb13.size)
            have HZ13 := Lib.hid hz13
            clear hr hz13 hb13 HQ12 HL12
            go_wp2_with fail
            refine (own_n Aq cq mq lq HLQ.out w13.heap.size w13 HQ13.out (by have := HLQ.out; omega) (Nat.le_refl _)).mono ?_
            rintro e w14 ⟨A14, c14, rfl, o14, hb14⟩
            have HB14 := Lib.hid (HB13.out.trans (hb14.mono HB13.out.size))
            have HL14 := Lib.hid ((HL13.out.below hb14).more hb14.size)
            have HZ14 := Lib.hid ((HZ13.out.below hb14).more hb14.size)
            have HO14 := Lib.hid (own_bs HLQ.out o14)
            clear o14 hb14 HQ13 HL13 HZ13
            go_wp2_with fail
            refine (gifUnpack_any w14 A14 c14 mq lq (s : Int) (j : Int) HLQ.out HO14.out hlq2).mono ?_
            intro e w15 hr
            obtain ⟨A15, c15, rfl, hw15, hb15⟩ := UnpackR.ok_ ((HG.out (j : Int)).trans (if_pos (by rw [HN.out, Int.toNat_natCast]; exact Nat.le_refl _))) HN.out hr
            have HB15 := Lib.hid (HB14.out.trans (hb15.mono HB14.out.size))
            have HL15 := Lib.hid ((HL14.out.below hb15).more hb15.size)
            have HZ15 := Lib.hid ((HZ14.out.below hb15).more hb15.size)
            have HV15 := Lib.hid hw15
            clear hr hw15 hb15 HL14 HZ14 HO14
            have HS1 := Lib.hid (same_tt A13 A c13 c j l HN.out w15.heap.size w15 HZ15.out HL15.out hmx)
            have HS2 := Lib.hid (fun m => same_tt A15 A c15 c j l HN.out w15.heap.size (w15.drewN m) HV15.out HL15.out hmx)
            go_wp2_with fail
            refine HS1.out.mono ?_
            rintro e w16 ⟨rfl, m1, rfl⟩
            go_wp2_with fail
            refine (HS2.out m1).mono ?_
            rintro e w17 ⟨rfl, m2, rfl⟩
            go_wp2_with fail
            go_ret
            exact ⟨ret_tt (by simp), below_drewN_ HB15.out _⟩

set_option maxRecDepth 100000 in
theorem contract (H : Type) (enc : TypeId × Value → H) (W : World) (base : Nat) (args : Array Value) (ds gs : List (DataW H)) (before : List MemPlace)
    (hval : ∀ (j : Nat) t v, Try.f6.params[j]? = some t → args[j]? = some v → Value.okWide Try.prog W .any base t v)
    (hW : DataW.Whole enc Try.prog Try.f6.params.toList Rows.lzwBackSpec.vars false W args.toList ds gs before) (hk : Rows.uptoSmall H (ds ++ gs) = true) :
    Calls Try.prog 6 args W fun e W' => ∃ v, e = .returned v ∧ Rows.lzwBackSpec.post enc Try.prog Try.f6 false true false false W args v W' := by
  have hW' := hW
  obtain ⟨p, q, hA0, hV, rfl, hfz, hnd⟩ := hW
  have hA : DataW.TrodAll enc Try.prog W 0 (fun _ => true) true Try.f6.params.toList args.toList ds p := hA0
  rw [Try.params6] at hA hval
  obtain ⟨v0, vs0, d0, ds0, p0, q0, hargs, rfl, rfl, h0, r0⟩ := trodAll_cons hA
  obtain ⟨v1, vs1, d1, ds1, p1, q1, rfl, rfl, rfl, h1, r1⟩ := trodAll_cons r0
  obtain ⟨rfl, rfl, rfl⟩ := trodAll_nil r1
  obtain rfl : args = #[v0, v1] := by cases args; simp_all
  obtain ⟨rfl, rfl⟩ := trodVars_none hV
  obtain ⟨A0, l0, c0, rfl, hb0, hcp0, hd0⟩ := open_bytes (hval 0 22 v0 rfl rfl) h0
  obtain ⟨a1, rfl, rfl, rfl, w1⟩ := open_int Try.underlying3 (hval 1 3 v1 rfl rfl) h1
  have hl0 : l0.length ≤ 1048576 := by
    rcases hd0 with ⟨_, rfl⟩ | ⟨e, s, rfl, hle⟩
    · simp
    · have h1 := bulk_le hk
      simp only [List.cons_append, List.nil_append] at h1
      have h2 := Nat.le_trans (bulk_slice e s _) h1
      omega
  have lt0 : ∀ x ∈ p0, x.block < W.heap.size := by obtain ⟨m, hm⟩ := h0; exact DataW.trod_lt m _ _ _ hm
  clear hA0
  refine (walk A0 c0 l0 a1 W hb0 hcp0 hl0 (bounds_i64 w1)).mono fun e W' ⟨he, bel⟩ => ?_
  subst he
  exact ⟨_, rfl, _, _, _, [], _, [], hW', trodAll_mk1 (shut_bool Try.underlying4 _), (trodAll_cons_mk (Below.trod prog_laid (by kernel_rfl) (of_decide_eq_true (by kernel_rfl)) h0 bel lt0) (trodAll_cons_mk (shut_int Try.underlying3 w1) trodAll_mk0)), rfl, bel.frame _, fun h => by cases h⟩

set_option maxRecDepth 100000 in
theorem lifted (os : Os) (started : os.Started) (H : Type) (enc : TypeId × Value → H) (F : Stop.Interp) :
    ReturnsInHanded {} Try.checked os 6 .any ((Rows.OpenSpec.upto Rows.lzwBackSpec).pre6 enc Try.prog Try.f6 Rows.lzwBackUptoRow.domain false) (((Rows.OpenSpec.upto Rows.lzwBackSpec).at F).post enc Try.prog Try.f6 false true false false) := by
  refine returnsInHanded_of_cond (C := Try.checked) (s := Rows.OpenSpec.upto Rows.lzwBackSpec) (k := Rows.uptoSmall) rfl prog_own started (by kernel_rfl) Try.func6
    (OpenSpec.witness (enc := enc) (C := Try.checked) (s := Rows.OpenSpec.upto Rows.lzwBackSpec) (k := Rows.uptoSmall) rfl false ⟨#[], #[.slice none 0 0, .int .i64 0], []⟩ 8 (by kernel_rfl) (by kernel_rfl) (by kernel_rfl)
      (x := ([.nil, .lit (.int .i64 0)], [], [])) (by kernel_rfl) rfl (by kernel_rfl)) ?_
  intro W base args ds gs before hval hW _ hk _
  exact contract H enc W base args ds gs before hval hW hk

theorem over : Rows.lzwBackUptoRow.holds Try.pinned (Rows.OpenSpec.upto Rows.lzwBackSpec) :=
  OpenClaim.holds_of_cond 6 Try.f6 rfl rfl rfl rfl rfl rfl rfl ⟨rfl, rfl, rfl, rfl, rfl⟩ rfl rfl rfl rfl rfl (by kernel_rfl) Try.func6 (by kernel_rfl)
    (of_decide_eq_true (by kernel_rfl)) (by unfold Func.isWrapper; first | (rw [if_pos (by decide +kernel)]; kernel_rfl) | (rw [if_neg (by decide +kernel)]; exact ⟨rfl, rfl⟩))
    (fun os started H enc _ F => lifted os started H enc F)
end LzwBack

theorem lzwBack_holds : Rows.LzwBackUptoSaid := LzwBack.over
#print axioms lzwBack_holds
end Go.Proofs.Ythnfnfaiicfenaa
