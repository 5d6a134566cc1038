/- Proved: bytes packed as runs come back, and take at most one more a hundred and twenty-eight; bytes that are alike take two: for every list of bytes, every byte and every number whose readings are together of bulk at most 1048576 (the second form). -/
import Derived.Test.YthnfnfaiicfenaaVq
import Derived.Test.YthnfnfaiicfenaaUd
import Derived.Test.YthnfnfaiicfenaaWp
import Derived.Deep.CutBlock
namespace Go.Proofs.Ythnfnfaiicfenaa
open Go.ChangeShapes Go.WideShapes Go.ChangeAt Go.RowKit
namespace LzwFew

theorem ret_tt {a : Bool} (h : a = true) : Ending.returned (.bool a) = .returned (.bool true) := by rw [h]
set_option maxHeartbeats 8000000 in
set_option maxRecDepth 100000 in
theorem walk (A : Option Addr) (c : Nat) (l : List UInt8) (x nn : Int) (w : World) (hbs : Bs w w.heap.size A l) (_ : l.length ≤ c) (hl : l.length ≤ 1048576) (hx : 0 ≤ x ∧ x ≤ 255) (hnn : -9223372036854775808 ≤ nn ∧ nn ≤ 9223372036854775807) :
    Calls Try.prog 7 #[.slice A l.length c, .int .u8 x, .int .i64 nn] w fun e w' => e = .returned (.bool true) ∧ Below w.heap.size w w' := by
  obtain ⟨n, hn⟩ : ∃ n, l.length = n := ⟨_, rfl⟩
  rw [hn] at hl ⊢
  have HN := Lib.hid hn
  have HBS := Lib.hid hbs
  have hmx : n ≤ maxLen := by unfold maxLen; omega
  clear hn hbs
  go_enter Try.func7, Try.ntmps7
  go_wp2_with fail
  refine (wakes_any w).mono ?_
  rintro e w1 ⟨rfl, hb1⟩
  have HB1 := Lib.hid hb1
  clear hb1
  go_wp2_with fail
  refine (own_n A c n l HN.out w.heap.size w1 (HBS.out.below HB1.out) (by omega) HB1.out.size).mono ?_
  rintro e w2 ⟨A2, c2, rfl, o2, hb2⟩
  have HB2 := Lib.hid (HB1.out.trans (hb2.mono HB1.out.size))
  have HO2 := Lib.hid (own_bs HN.out o2)
  have hnc : n ≤ c2 := (own_cap o2).1
  clear o2 hb2
  go_wp2_with fail
  refine (packRuns_any w2 A2 c2 n l HN.out HO2.out hnc (by omega)).mono ?_
  rintro e w3 ⟨N, A3, c3, _, hN, rfl, o3, hb3⟩
  have HBK := Lib.hid (finR_back l N hN)
  have hlp := (finR_reads l N hN).2
  rw [HN.out] at HBK hlp
  generalize finR l N = lp at *
  obtain ⟨k, hk⟩ : ∃ k, lp.length = k := ⟨_, rfl⟩
  rw [hk] at hlp o3 ⊢
  have HK := Lib.hid hk
  have HB3 := Lib.hid (HB2.out.trans (hb3.mono HB2.out.size))
  have HP3 := Lib.hid (own_bs hk o3)
  clear o3 hb3 hk HO2 hnc hN
  go_wp2_with fail
  refine (refRuns_any w3 A3 c3 k lp (n : Int) HK.out HP3.out (by rw [HK.out]; omega) (by omega)).mono ?_
  intro e w4 hr
  obtain ⟨A4, c4, rfl, hx4, hb4⟩ := UnpackR.ok_ (b := l) (by rw [Int.toNat_natCast]; exact HBK.out) HN.out hr
  have HB4 := Lib.hid (HB3.out.trans (hb4.mono HB3.out.size))
  have HX4 := Lib.hid hx4
  clear hr hx4 hb4 HP3
  have HS1 := Lib.hid (same_tt A4 A c4 c n l HN.out w4.heap.size w4 HX4.out ((HBS.out.below HB4.out).more HB4.out.size) hmx)
  go_wp2_with fail
  refine HS1.out.mono ?_
  rintro e w5 ⟨rfl, m1, rfl⟩
  have hdv : decide ((n : Int) + ((n : Int) + 127) / 128 < (k : Int)) = false := decide_eq_false (by omega)
  rcases Int.lt_or_le nn 0 with h0 | h0
  · go_wp2_with fail
    go_ret
    exact ⟨rfl, below_drewN_ HB4.out _⟩
  rcases Int.lt_or_le 3000 nn with h1 | h1
  · go_wp2_with fail
    go_ret
    exact ⟨rfl, below_drewN_ HB4.out _⟩
  obtain ⟨n2, rfl⟩ : ∃ n2 : Nat, nn = n2 := ⟨nn.toNat, by omega⟩
  have hn3 : n2 ≤ 3000 := by omega
  obtain ⟨xb, rfl⟩ : ∃ xb : UInt8, x = (xb.toNat : Int) := ⟨UInt8.ofNat x.toNat, by rw [UInt8.toNat_ofNat']; omega⟩
  obtain ⟨i0, hi, hz0, hz1, hz2⟩ := info_parts info_u8
  go_wp2_with fail
  have hsx : (w4.drewN m1).heap.size = w4.heap.size := rfl
  go_loopw [10, 11] (fun b i wr => ∃ (j cL : Nat) (AL : Option Addr) (L : List UInt8), i = .int .i64 (j : Int) ∧ j ≤ n2 ∧ b = .slice AL j cL ∧ Hid (L.length = j ∧ L = List.replicate j xb) ∧ Hid (wr.ownsRow w4.heap.size 5 1 (.slice AL j cL) j (bytesV L)) ∧ Hid (Below w4.heap.size w4 wr)) (fun _ i _ => n2 - (intOf i).toNat)
  case atStart => exact ⟨0, 0, none, [], rfl, Nat.zero_le _, rfl, Lib.hid ⟨rfl, rfl⟩, Lib.hid (World.ownsRow_nil _ _ _ _), Lib.hid (below_drewN_ (Below.refl _ w4) _)⟩
  case round =>
    obtain ⟨j, cL, AL, L, rfl, hj, rfl, HL, HO, HB⟩ := hrel
    by_cases hlt : j < n2
    · have HLIT : Hid (Bs (wr.alloc (.cells #[.int .u8 (xb.toNat : Int)] 5)) (wr.heap.size + 1) (some ⟨wr.heap.size, 0, none⟩) [xb]) := Lib.hid (bs_lit2 wr 5 [xb])
      have hsz := HB.out.size
      go_wp2_with (at_builtin; refine wpList_append_bs _ rfl (.tmp 58) (.tmp 60) _ rfl w4.heap.size 5 i0 Try.underlying22 hi hz0 hz1 hz2 (.slice AL j cL) j (bytesV L) rfl (World.ownsRow.alloc (w := wr) HO.out _) (wr.heap.size + 1) (some ⟨wr.heap.size, 0, none⟩) 1 [xb] rfl HLIT.out (by simp; omega) (by simp; omega) ?_; intro A9 c9 w9 o9 hg9 _; simp only [List.length_cons, List.length_nil, Nat.zero_add] at o9 ⊢; have HO9 : Hid (w9.ownsRow w4.heap.size 5 1 (.slice A9 (j + 1) c9) (j + 1) (bytesV (L ++ [xb]))) := Lib.hid (by rw [bytesV_append]; exact o9); have HB9 := Lib.hid ((HB.out.alloc hsz _).grown hg9 (by simp; omega) (fun q hq => (HO.out.lt q hq).1)); clear o9 hg9)
      go_roundw
      case rel => exact ⟨j + 1, c9, A9, L ++ [xb], by go_num, by omega, rfl, Lib.hid ⟨by rw [List.length_append, HL.out.1]; rfl, by rw [HL.out.2, List.replicate_succ']⟩, HO9, HB9⟩
      case measure => simp [intOf]; omega
    · obtain rfl : j = n2 := by omega
      have HBW := Lib.hid (HB4.out.trans (HB.out.mono HB4.out.size))
      have HBL := Lib.hid (own_bs HL.out.1 HO.out)
      have hmx2 : j ≤ maxLen := by unfold maxLen; omega
      clear HO HB
      go_wp2_with fail
      refine (own_n AL cL j L HL.out.1 wr.heap.size wr HBL.out (by omega) (Nat.le_refl _)).mono ?_
      rintro e w6 ⟨A6, c6, rfl, o6, hb6⟩
      have HB6 := Lib.hid (HBW.out.trans (hb6.mono HBW.out.size))
      have HL6 := Lib.hid ((HBL.out.below hb6).more hb6.size)
      have HO6 := Lib.hid (own_bs HL.out.1 o6)
      have hnc : j ≤ c6 := (own_cap o6).1
      clear o6 hb6 HBL
      go_wp2_with fail
      refine (packRuns_any w6 A6 c6 j L HL.out.1 HO6.out hnc (by omega)).mono ?_
      rintro e w7 ⟨N2, A7, c7, hE2, hN2, rfl, o7, hb7⟩
      have HBK2 := Lib.hid (finR_back L N2 hN2)
      have hlp2 := (finR_reads L N2 hN2).2
      have hal : (finR L N2).length ≤ 2 * ((j + 127) / 128) := by
        have hl1 := HL.out.1
        rw [hl1] at hE2 hN2
        rw [HL.out.2] at hE2 hN2 ⊢
        exact finR_all xb j N2 hE2 hN2
      rw [HL.out.1] at HBK2 hlp2
      generalize finR L N2 = lq at *
      obtain ⟨k2, hk2⟩ : ∃ k2, lq.length = k2 := ⟨_, rfl⟩
      rw [hk2] at hlp2 hal o7 ⊢
      have HK2 := Lib.hid hk2
      have HB7 := Lib.hid (HB6.out.trans (hb7.mono HB6.out.size))
      have HL7 := Lib.hid ((HL6.out.below hb7).more hb7.size)
      have HP7 := Lib.hid (own_bs hk2 o7)
      clear o7 hb7 hk2 HO6 hnc hN2 hE2 HL6
      go_wp2_with fail
      refine (own_n A7 c7 k2 lq HK2.out w7.heap.size w7 HP7.out (by omega) (Nat.le_refl _)).mono ?_
      rintro e w8 ⟨A8, c8, rfl, o8, hb8⟩
      have HB8 := Lib.hid (HB7.out.trans (hb8.mono HB7.out.size))
      have HL8 := Lib.hid ((HL7.out.below hb8).more hb8.size)
      have HO8 := Lib.hid (own_bs HK2.out o8)
      have hnc : k2 ≤ c8 := (own_cap o8).1
      clear o8 hb8 HL7 HP7
      go_wp2_with fail
      refine (runs_any w8 A8 c8 k2 lq (j : Int) HK2.out HO8.out hnc (by omega) (by omega)).mono ?_
      intro e w9 hr
      obtain ⟨A9, c9, rfl, hx9, hb9⟩ := UnpackR.ok_ (b := L) (by rw [Int.toNat_natCast]; exact HBK2.out) HL.out.1 hr
      have HB9 := Lib.hid (HB8.out.trans (hb9.mono HB8.out.size))
      have HL9 := Lib.hid ((HL8.out.below hb9).more hb9.size)
      have HX9 := Lib.hid hx9
      clear hr hx9 hb9 HL8 HO8 hnc
      have HS2 := Lib.hid (same_tt A9 AL c9 cL j L HL.out.1 w9.heap.size w9 HX9.out HL9.out hmx2)
      go_wp2_with fail
      refine HS2.out.mono ?_
      rintro e w10 ⟨rfl, m2, rfl⟩
      go_wp2_with fail
      go_ret
      exact ⟨ret_tt (decide_eq_true (by omega)), below_drewN_ HB9.out _⟩
set_option maxRecDepth 100000 in
theorem contract (H : Type) (enc : TypeId × Value → H) (W : World) (base : Nat) (args : Array Value) (ds gs : List (DataW H)) (before : List MemPlace)
    (hval : ∀ (j : Nat) t v, Try.f7.params[j]? = some t → args[j]? = some v → Value.okWide Try.prog W .any base t v)
    (hW : DataW.Whole enc Try.prog Try.f7.params.toList Rows.lzwFewSpec.vars false W args.toList ds gs before) (hk : Rows.uptoSmall H (ds ++ gs) = true) :
    Calls Try.prog 7 args W fun e W' => ∃ v, e = .returned v ∧ Rows.lzwFewSpec.post enc Try.prog Try.f7 false true false false W args v W' := by
  have hW' := hW
  obtain ⟨p, q, hA0, hV, rfl, hfz, hnd⟩ := hW
  have hA : DataW.TrodAll enc Try.prog W 0 (fun _ => true) true Try.f7.params.toList args.toList ds p := hA0
  rw [Try.params7] at hA hval
  obtain ⟨v0, vs0, d0, ds0, p0, q0, hargs, rfl, rfl, h0, r0⟩ := trodAll_cons hA
  obtain ⟨v1, vs1, d1, ds1, p1, q1, rfl, rfl, rfl, h1, r1⟩ := trodAll_cons r0
  obtain ⟨v2, vs2, d2, ds2, p2, q2, rfl, rfl, rfl, h2, r2⟩ := trodAll_cons r1
  obtain ⟨rfl, rfl, rfl⟩ := trodAll_nil r2
  obtain rfl : args = #[v0, v1, v2] := by cases args; simp_all
  obtain ⟨rfl, rfl⟩ := trodVars_none hV
  obtain ⟨A0, l0, c0, rfl, hb0, hcp0, hd0⟩ := open_bytes (hval 0 22 v0 rfl rfl) h0
  obtain ⟨a1, rfl, rfl, rfl, w1⟩ := open_int Try.underlying5 (hval 1 5 v1 rfl rfl) h1
  obtain ⟨a2, rfl, rfl, rfl, w2⟩ := open_int Try.underlying3 (hval 2 3 v2 rfl rfl) h2
  have hl0 : l0.length ≤ 1048576 := by
    rcases hd0 with ⟨_, rfl⟩ | ⟨e, s, rfl, hle⟩
    · simp
    · have h1 := bulk_le hk
      simp only [List.cons_append, List.nil_append] at h1
      have h2 := Nat.le_trans (bulk_slice e s _) h1
      omega
  have lt0 : ∀ x ∈ p0, x.block < W.heap.size := by obtain ⟨m, hm⟩ := h0; exact DataW.trod_lt m _ _ _ hm
  clear hA0
  refine (walk A0 c0 l0 a1 a2 W hb0 hcp0 hl0 (bounds_u8 w1) (bounds_i64 w2)).mono fun e W' ⟨he, bel⟩ => ?_
  subst he
  exact ⟨_, rfl, _, _, _, [], _, [], hW', trodAll_mk1 (shut_bool Try.underlying4 _), (trodAll_cons_mk (Below.trod prog_laid (by kernel_rfl) (of_decide_eq_true (by kernel_rfl)) h0 bel lt0) (trodAll_cons_mk (shut_int Try.underlying5 w1) (trodAll_cons_mk (shut_int Try.underlying3 w2) trodAll_mk0))), rfl, bel.frame _, fun h => by cases h⟩

set_option maxRecDepth 100000 in
theorem lifted (os : Os) (started : os.Started) (H : Type) (enc : TypeId × Value → H) (F : Stop.Interp) :
    ReturnsInHanded {} Try.checked os 7 .any ((Rows.OpenSpec.upto Rows.lzwFewSpec).pre6 enc Try.prog Try.f7 Rows.lzwFewUptoRow.domain false) (((Rows.OpenSpec.upto Rows.lzwFewSpec).at F).post enc Try.prog Try.f7 false true false false) := by
  refine returnsInHanded_of_cond (C := Try.checked) (s := Rows.OpenSpec.upto Rows.lzwFewSpec) (k := Rows.uptoSmall) rfl prog_own started (by kernel_rfl) Try.func7
    (OpenSpec.witness (enc := enc) (C := Try.checked) (s := Rows.OpenSpec.upto Rows.lzwFewSpec) (k := Rows.uptoSmall) rfl false ⟨#[], #[.slice none 0 0, .int .u8 0, .int .i64 0], []⟩ 8 (by kernel_rfl) (by kernel_rfl) (by kernel_rfl)
      (x := ([.nil, .lit (.int .u8 0), .lit (.int .i64 0)], [], [])) (by kernel_rfl) rfl (by kernel_rfl)) ?_
  intro W base args ds gs before hval hW _ hk _
  exact contract H enc W base args ds gs before hval hW hk

theorem over : Rows.lzwFewUptoRow.holds Try.pinned (Rows.OpenSpec.upto Rows.lzwFewSpec) :=
  OpenClaim.holds_of_cond 7 Try.f7 rfl rfl rfl rfl rfl rfl rfl ⟨rfl, rfl, rfl, rfl, rfl⟩ rfl rfl rfl rfl rfl (by kernel_rfl) Try.func7 (by kernel_rfl)
    (of_decide_eq_true (by kernel_rfl)) (by unfold Func.isWrapper; first | (rw [if_pos (by decide +kernel)]; kernel_rfl) | (rw [if_neg (by decide +kernel)]; exact ⟨rfl, rfl⟩))
    (fun os started H enc _ F => lifted os started H enc F)
end LzwFew

theorem lzwFew_holds : Rows.LzwFewUptoSaid := LzwFew.over
#print axioms lzwFew_holds
end Go.Proofs.Ythnfnfaiicfenaa
