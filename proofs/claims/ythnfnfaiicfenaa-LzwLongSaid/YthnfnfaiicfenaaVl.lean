/- Proved: many bytes in turn, so that the table of codes is filled, come back as they were: for every seed and every number, no condition. -/
import Derived.Test.YthnfnfaiicfenaaVq
import Derived.Deep.CutBlock
namespace Go.Proofs.Ythnfnfaiicfenaa
open Go.ChangeShapes Go.WideShapes Go.ChangeAt Go.RowKit
namespace LzwLong

theorem ret_tt {a : Bool} (h : a = true) : Ending.returned (.bool a) = .returned (.bool true) := by rw [h]
set_option maxHeartbeats 8000000 in
set_option maxRecDepth 100000 in
theorem walk (sd nn : Int) (w : World) (hsd : 0 ≤ sd ∧ sd ≤ 4294967295) (hnn : -9223372036854775808 ≤ nn ∧ nn ≤ 9223372036854775807) :
    Calls Try.prog 8 #[.int .u32 sd, .int .i64 nn] w fun e w' => e = .returned (.bool true) ∧ Below w.heap.size w w' := by
  go_enter Try.func8, Try.ntmps8
  go_wp2_with fail
  refine (wakes_any w).mono ?_
  rintro e w1 ⟨rfl, hb1⟩
  have HB1 := Lib.hid hb1
  clear hb1
  rcases Int.lt_or_le nn 0 with h0 | h0
  · go_wp2_with fail
    go_ret
    exact ⟨rfl, HB1.out⟩
  rcases Int.lt_or_le 12000 nn with h1 | h1
  · go_wp2_with fail
    go_ret
    exact ⟨rfl, HB1.out⟩
  obtain ⟨n, rfl⟩ : ∃ n : Nat, nn = n := ⟨nn.toNat, by omega⟩
  have hn12 : n ≤ 12000 := by omega
  obtain ⟨i0, hi, hz0, hz1, hz2'⟩ := info_parts info_u8
  go_wp2_with fail
  go_loopw [0, 5, 6] (fun s b i wr => ∃ (z : Int) (k c : Nat) (A : Option Addr) (L : List UInt8), s = .int .u32 z ∧ (0 ≤ z ∧ z ≤ 4294967295) ∧ i = .int .i64 (k : Int) ∧ k ≤ n ∧ b = .slice A k c ∧ Hid (L.length = k) ∧ Hid (wr.ownsRow w1.heap.size 5 1 (.slice A k c) k (bytesV L)) ∧ Hid (∀ x ∈ L, x.toNat < clr 4) ∧ Hid (Below w1.heap.size w1 wr)) (fun _ _ i _ => n - (intOf i).toNat)
  case atStart => exact ⟨sd, 0, 0, none, [], rfl, hsd, rfl, Nat.zero_le _, rfl, Lib.hid rfl, Lib.hid (World.ownsRow_nil _ _ _ _), Lib.hid (by simp), Lib.hid (Below.refl _ _)⟩
  case round =>
    obtain ⟨z, k, c, A, L, rfl, hz, rfl, hk, rfl, HL, HO, HX, HB⟩ := hrel
    by_cases hlt : k < n
    · go_upto_region 10 with (fail)
      have hz2 : 0 ≤ (z * 1664525 % 4294967296 + 1013904223) % 4294967296 ∧ (z * 1664525 % 4294967296 + 1013904223) % 4294967296 ≤ 4294967295 := by omega
      generalize (z * 1664525 % 4294967296 + 1013904223) % 4294967296 = y at hz2 ⊢
      clear hz
      obtain ⟨bb, hbb⟩ : ∃ bb : UInt8, (bb.toNat : Int) = y / 16777216 % 16 := ⟨UInt8.ofNat (y / 16777216 % 16).toNat, by rw [UInt8.toNat_ofNat']; omega⟩
      have HLIT : Hid (Bs (wr.alloc (.cells #[.int .u8 (y / 16777216 % 16)] 5)) (wr.heap.size + 1) (some ⟨wr.heap.size, 0, none⟩) [bb]) := Lib.hid (by rw [← hbb]; exact bs_lit2 wr 5 [bb])
      have hsz := HB.out.size
      have HX2 : Hid (∀ x ∈ L ++ [bb], x.toNat < clr 4) := Lib.hid (by
        intro x hx
        rcases List.mem_append.1 hx with h | h
        · exact HX.out x h
        · simp only [List.mem_singleton] at h
          subst h
          unfold clr
          omega)
      clear hbb
      go_wp2_with (at_builtin; refine wpList_append_bs _ rfl (.tmp 29) (.tmp 34) _ rfl w1.heap.size 5 i0 Try.underlying22 hi hz0 hz1 hz2' (.slice A k c) k (bytesV L) rfl (World.ownsRow.alloc (w := wr) HO.out _) (wr.heap.size + 1) (some ⟨wr.heap.size, 0, none⟩) 1 [bb] rfl HLIT.out (by simp; omega) (by simp; omega) ?_; intro A9 c9 w9 o9 hg9 _; simp only [List.length_cons, List.length_nil, Nat.zero_add] at o9 ⊢; have HO9 : Hid (w9.ownsRow w1.heap.size 5 1 (.slice A9 (k + 1) c9) (k + 1) (bytesV (L ++ [bb]))) := Lib.hid (by rw [bytesV_append]; exact o9); have HB9 := Lib.hid ((HB.out.alloc hsz _).grown hg9 (by simp; omega) (fun q hq => (HO.out.lt q hq).1)); clear o9 hg9)
      go_roundw
      case rel => exact ⟨y, k + 1, c9, A9, L ++ [bb], rfl, hz2, by go_num, by omega, rfl, Lib.hid (by rw [List.length_append, HL.out]; rfl), HO9, HX2, HB9⟩
      case measure => simp [intOf]; omega
    · obtain rfl : k = n := by omega
      have HBW := Lib.hid (HB1.out.trans (HB.out.mono HB1.out.size))
      have HBL := Lib.hid (own_bs HL.out HO.out)
      have HFT : Hid (Fits L 4) := Lib.hid ⟨by omega, by omega, HX.out⟩
      have hmx : k ≤ maxLen := by unfold maxLen; omega
      clear HO HB HX
      go_wp2_with fail
      refine (own_n A c k L HL.out wr.heap.size wr HBL.out (by omega) (Nat.le_refl _)).mono ?_
      rintro e w2 ⟨A2, c2, rfl, o2, hb2⟩
      have HB2 := Lib.hid (HBW.out.trans (hb2.mono HBW.out.size))
      have HL2 := Lib.hid ((HBL.out.below hb2).more hb2.size)
      have HO2 := Lib.hid (own_bs HL.out o2)
      have hnc : k ≤ c2 := (own_cap o2).1
      clear o2 hb2 HBL
      go_wp2_with fail
      refine (tiffPack_any w2 A2 c2 k L HL.out HO2.out hnc (by omega)).mono ?_
      rintro e w3 ⟨lp, A3, c3, hp, rfl, o3, hb3⟩
      have HP := Lib.hid hp
      have hlp := packed_len hp (by rw [HL.out]; omega)
      obtain ⟨m, hm⟩ : ∃ m, lp.length = m := ⟨_, rfl⟩
      rw [hm] at hlp o3 ⊢
      have HM := Lib.hid hm
      have HB3 := Lib.hid (HB2.out.trans (hb3.mono HB2.out.size))
      have HL3 := Lib.hid ((HL2.out.below hb3).more hb3.size)
      have HP3 := Lib.hid (own_bs hm o3)
      clear o3 hb3 hp hm HO2 hnc HL2
      go_wp2_with fail
      refine (refTiff_any w3 A3 c3 m lp (k : Int) HM.out HP3.out (by rw [HM.out]; exact hlp) (by omega)).mono ?_
      intro e w4 hr
      obtain ⟨A4, c4, rfl, hx4, hb4⟩ := UnpackR.ok_ ((tiff_back HP.out (k : Int)).trans (if_pos (by rw [HL.out, Int.toNat_natCast]; exact Nat.le_refl _))) HL.out hr
      have HB4 := Lib.hid (HB3.out.trans (hb4.mono HB3.out.size))
      have HL4 := Lib.hid ((HL3.out.below hb4).more hb4.size)
      have HX4 := Lib.hid hx4
      clear hr hx4 hb4 HP3 HL3
      go_wp2_with fail
      refine (own_n A c k L HL.out w4.heap.size w4 HL4.out (by omega) (Nat.le_refl _)).mono ?_
      rintro e w5 ⟨A5, c5, rfl, o5, hb5⟩
      have HB5 := Lib.hid (HB4.out.trans (hb5.mono HB4.out.size))
      have HL5 := Lib.hid ((HL4.out.below hb5).more hb5.size)
      have HX5 := Lib.hid ((HX4.out.below hb5).more hb5.size)
      have HO5 := Lib.hid (own_bs HL.out o5)
      have hnc : k ≤ c5 := (own_cap o5).1
      clear o5 hb5 HL4 HX4
      go_wp2_with fail
      refine (gifPack_any w5 A5 c5 k L 4 HL.out HO5.out hnc (by omega)).mono ?_
      intro e w6 hr
      obtain ⟨Aq, mq, cq, kq, rfl, hb6, ⟨hno, _⟩ | ⟨_, rfl, lq, hlq, hpq, hbq⟩⟩ := hr.say
      case inl => exact absurd HFT.out hno
      have HPQ : Hid (Packed false (packM 4 false 0 L) lq) := Lib.hid hpq
      have hlq2 := packed_len HPQ.out (by rw [HL.out]; omega)
      have HB6 := Lib.hid (HB5.out.trans (hb6.mono HB5.out.size))
      have HL6 := Lib.hid ((HL5.out.below hb6).more hb6.size)
      have HX6 := Lib.hid ((HX5.out.below hb6).more hb6.size)
      have HQ6 := Lib.hid hbq
      have HLQ := Lib.hid hlq
      clear hr hb6 hpq hbq hlq HL5 HX5 HO5 hnc
      go_wp2_with fail
      refine (refGif_any w6 Aq cq mq lq 4 (k : Int) HLQ.out HQ6.out hlq2 (by omega)).mono ?_
      intro e w7 hr
      obtain ⟨A7, c7, rfl, hy7, hb7⟩ := UnpackR.ok_ ((gif_back (s := 4) (by omega) (by omega) HFT.out.2.2 HPQ.out (k : Int)).trans (if_pos (by rw [HL.out, Int.toNat_natCast]; exact Nat.le_refl _))) HL.out hr
      have HB7 := Lib.hid (HB6.out.trans (hb7.mono HB6.out.size))
      have HL7 := Lib.hid ((HL6.out.below hb7).more hb7.size)
      have HX7 := Lib.hid ((HX6.out.below hb7).more hb7.size)
      have HY7 := Lib.hid hy7
      clear hr hy7 hb7 HL6 HX6 HQ6
      have HS1 := Lib.hid (same_tt A4 A c4 c k L HL.out w7.heap.size w7 HX7.out HL7.out hmx)
      have HS2 := Lib.hid (fun m => same_tt A7 A c7 c k L HL.out w7.heap.size (w7.drewN m) HY7.out HL7.out hmx)
      go_wp2_with fail
      refine HS1.out.mono ?_
      rintro e w8 ⟨rfl, m1, rfl⟩
      go_wp2_with fail
      refine (HS2.out m1).mono ?_
      rintro e w9 ⟨rfl, m2, rfl⟩
      go_wp2_with fail
      go_ret
      exact ⟨ret_tt (by simp), below_drewN_ HB7.out _⟩

set_option maxRecDepth 100000 in
theorem lifted (os : Os) (started : os.Started) (H : Type) (enc : TypeId × Value → H) :
    ReturnsInHanded {} Try.checked os 8 .any (Rows.lzwLongSpec.pre6 enc Try.prog Try.f8 Rows.lzwLongRow.domain false) (Rows.lzwLongSpec.post enc Try.prog Try.f8 false true false false) := by
  refine returnsInHanded_of_change (C := Try.checked) prog_own started (by kernel_rfl) Try.func8
    (ChangeSpec.witness6 (enc := enc) (C := Try.checked) false ⟨#[], #[.int .u32 0, .int .i64 0], []⟩ 8 (by kernel_rfl) (by kernel_rfl) (by kernel_rfl) (by kernel_rfl)) ?_
  intro W base args ds gs before hval0 hW hcnd _
  have hval : ∀ (j : Nat) t v, Try.f8.params[j]? = some t → args[j]? = some v → Value.okWide Try.prog W .any base t v := hval0
  have hW' := hW
  obtain ⟨p, q, hA0, hV, rfl, hfz, hnd⟩ := hW
  have hA : DataW.TrodAll enc Try.prog W 0 (fun _ => true) true Try.f8.params.toList args.toList ds p := hA0
  rw [Try.params8] at hA hval
  obtain ⟨v0, vs0, d0, ds0, p0, q0, hargs, rfl, rfl, h0, r0⟩ := trodAll_cons hA
  obtain ⟨v1, vs1, d1, ds1, p1, q1, rfl, rfl, rfl, h1, r1⟩ := trodAll_cons r0
  obtain ⟨rfl, rfl, rfl⟩ := trodAll_nil r1
  obtain rfl : args = #[v0, v1] := by cases args; simp_all
  obtain ⟨rfl, rfl⟩ := trodVars_none hV
  obtain ⟨a0, rfl, rfl, rfl, w0⟩ := open_int Try.underlying37 (hval 0 37 v0 rfl rfl) h0
  obtain ⟨a1, rfl, rfl, rfl, w1⟩ := open_int Try.underlying3 (hval 1 3 v1 rfl rfl) h1
  clear hA0 hval0
  refine (walk a0 a1 W (bounds_u32 w0) (bounds_i64 w1)).mono fun e W' ⟨he, bel⟩ => ?_
  subst he
  exact ⟨_, rfl, _, _, _, [], _, [], hW', trodAll_mk1 (shut_bool Try.underlying4 _), (trodAll_cons_mk (shut_int Try.underlying37 w0) (trodAll_cons_mk (shut_int Try.underlying3 w1) trodAll_mk0)), rfl, bel.frame _, fun h => by cases h⟩

theorem over : Rows.lzwLongRow.holds Try.pinned (OpenSpec.ofChange Rows.lzwLongSpec) :=
  OpenClaim.holds_of_wide 8 Try.f8 rfl rfl rfl rfl rfl rfl rfl ⟨rfl, rfl, rfl, rfl, rfl⟩ rfl rfl rfl rfl rfl (by kernel_rfl) Try.func8 (by kernel_rfl)
    (of_decide_eq_true (by kernel_rfl)) (by unfold Func.isWrapper; first | (rw [if_pos (by decide +kernel)]; kernel_rfl) | (rw [if_neg (by decide +kernel)]; exact ⟨rfl, rfl⟩))
    (fun os started H enc _ => lifted os started H enc)
end LzwLong

theorem lzwLong_holds : Rows.LzwLongSaid := LzwLong.over
#print axioms lzwLong_holds
end Go.Proofs.Ythnfnfaiicfenaa
