/- What is written is read again as the image, its samples rounded to eight bits (alpha is full where it isn't written): for every image, with alpha and without; and no image that may not be is written. The card ties the table of lowest bits to the library's own text. Condition: the form's own reach of memory. -/
import Derived.Test.YthbhaggldighlaaGreatDoorZq
import Derived.Test.YthbhaggldighlaaGreatDoorZl
import Derived.Deep.CondSized
set_option linter.unusedVariables false
set_option linter.unusedSimpArgs false
namespace Go.Proofs.YthbhaggldighlaaGreatDoor
open Go.ChangeShapes Go.WideShapes Go.ChangeAt Go.RowKit

theorem im_len {w : World} {W H : Int} {l : List Int} {n : Nat} {e : Ending} {w' : World} (hn : l.length = n) (h : ImR w ⟨W, H, 0, l⟩ e w') : ∃ A c, e = .returned (.tuple #[imgV W H A n c, .int .i64 0]) ∧ w'.ownsRow w.heap.size 42 1 (.slice A n c) n (usV l) ∧ Below w.heap.size w w' := by
  subst hn
  exact h
theorem bakL_get (al : Bool) (l : List Int) (k : Nat) (hk : k < l.length) (hk2 : k < (bakL al l).length) : (bakL al l)[k] = if k % 4 = 3 ∧ al = false then 65535 else rnd l[k] := by
  simp [bakL, hk]
namespace BmpBack

set_option maxHeartbeats 8000000 in
set_option maxRecDepth 100000 in
theorem walk (x y : Int) (A : Option Addr) (c : Nat) (l : List Int) (al : Bool) (w : World) (hT : Tab32 w) (hB1 : 1 < w.heap.size) (_ : -9223372036854775808 ≤ x ∧ x ≤ 9223372036854775807) (_ : -9223372036854775808 ≤ y ∧ y ≤ 9223372036854775807) (hu : Us w w.heap.size A l) (hlb : ∀ v ∈ l, 0 ≤ v ∧ v ≤ 65535) (hl : l.length * 2 ≤ 140737488351232) :
    Calls Tryz.prog 8 #[imgV x y A l.length c, .bool al] w fun e w' => e = .returned (.bool true) ∧ Below w.heap.size w w' := by
  obtain ⟨w1, hw1, hi, hb⟩ := newImg x y A l.length c w
  have HW1 := Lib.hid hw1; have HI := Lib.hid hi; have HB := Lib.hid hb
  have HU := Lib.hid (Vs.below hu hb); have HT := Lib.hid (hT.below hb hB1)
  have hs1 := hb.size
  have hw1lt := hi.blk.lt
  obtain ⟨n, hn⟩ : ∃ n, l.length = n := ⟨_, rfl⟩
  have HN := Lib.hid hn
  rw [hn] at hl HW1 HI ⊢
  clear hw1 hi hb hu hT hn
  go_enter Tryz.func8, Tryz.ntmps8
  go_upto_region 1 with (fail)
  rw [HW1.out]
  clear HW1
  go_wp2_with fail
  refine (wakes_any w1 HT.out (by omega)).mono ?_
  rintro e w2 ⟨rfl, hb2⟩
  have hs2 := hb2.size
  have HB2 := Lib.hid (HB.out.trans (hb2.mono HB.out.size)); have HI2 := Lib.hid (HI.out.call hb2)
  have HU2 := Lib.hid (Vs.below HU.out (hb2.mono (by omega))); have HT2 := Lib.hid (HT.out.below hb2 (by show 1 < _; omega))
  clear HB HI HU HT hb2
  have q0 := HI2.out.c0; have q1 := HI2.out.c1; have q2 := HI2.out.c2
  go_wp2_with fail
  refine (copy_any x y A n c l HN.out w.heap.size w2 HU2.out (by omega) (by omega)).mono ?_
  rintro e w3 ⟨A3, c3, rfl, o3, hb3⟩
  have hs3 := hb3.size
  have HB3 := Lib.hid (HB2.out.trans (hb3.mono HB2.out.size)); have HI3 := Lib.hid (HI2.out.call hb3)
  have HU3 := Lib.hid (Vs.below HU2.out (hb3.mono (by omega))); have HT3 := Lib.hid (HT2.out.below hb3 (by show 1 < _; omega))
  have hr3 := (row_room o3).1
  have HC3 := Lib.hid (Vs.of_own o3)
  clear HB2 HI2 HU2 HT2 hb3 o3 q0 q1 q2
  go_wp2_with fail
  refine (enc_any al x y A3 n c3 l HN.out hr3 hlb w3.heap.size w3 HT3.out (by omega) HC3.out (Nat.le_refl _)).mono ?_
  intro e w4 he
  rcases he with ⟨hg, rfl, hb4⟩ | ⟨hg, A4, c4, rfl, o4, hb4⟩
  · have HB4 := Lib.hid (HB3.out.trans (hb4.mono HB3.out.size))
    clear HB3 HI3 HU3 HT3 HC3 hb4 hg
    go_wp2_with fail
    go_ret
    exact ⟨rfl, HB4.out⟩
  have hs4 := hb4.size
  have HB4 := Lib.hid (HB3.out.trans (hb4.mono HB3.out.size)); have HI4 := Lib.hid (HI3.out.call hb4)
  have HU4 := Lib.hid (Vs.below HU3.out (hb4.mono (by omega))); have HT4 := Lib.hid (HT3.out.below hb4 (by show 1 < _; omega))
  clear HB3 HI3 HU3 HT3 HC3 hb4
  obtain ⟨W, H, rfl, rfl, hn4, hf, hw1, hw2, hh1, hh2⟩ := goodB_nat hg
  simp only [Int.toNat_natCast] at o4 ⊢
  obtain ⟨M, hM⟩ : ∃ M, W * H = M := ⟨_, rfl⟩
  have HM := Lib.hid hM
  have HM1 : Hid (wrap64 ((W : Int) * (H : Int)) = (M : Int)) := Lib.hid (by rw [← Int.natCast_mul, hM]; exact IntWalk.wrap64_in _ (by omega))
  have hLl : (pxL l (W * H)).length = W * H := pxL_length l _
  have hLok := px_ok hlb (W * H)
  have hroom := row_room o4
  obtain ⟨N, hN⟩ : ∃ N, (encB al W H (pxL l (W * H))).length = N := ⟨_, rfl⟩
  have hNb := enc_bd (al := al) hLl hf hh2
  have HDC := Lib.hid (fun (most : Int) (hm : ((W * H : Nat) : Int) ≤ most) (w5 : World) (h5 : Bs w5 w4.heap.size A4 (encB al W H (pxL l (W * H)))) (h6 : w4.heap.size ≤ w5.heap.size) (h7 : Tab32 w5) (h8 : 1 < w5.heap.size) => dec_any al W H (pxL l (W * H)) hLl hLok hw1 hw2 hh1 hh2 hf N c4 hN (by rw [← hN]; exact hroom.1) hroom.2 most hm A4 w4.heap.size w5 h5 h6 h7 h8)
  have hlen4 : l.length = 4 * (W * H) := by omega
  rw [flat_bak al l (W * H) hlen4] at HDC
  have HBS := Lib.hid (Bs.of_own o4)
  rw [hN] at o4 ⊢
  rw [hM] at HDC HBS hf
  clear hg hN hNb hLl hLok hroom hlen4 o4 hM
  have HBL : Hid ((bakL al l).length = n) := Lib.hid (by rw [bakL_length]; exact HN.out)
  have HBG := Lib.hid (bakL_get al l)
  have q0 := HI4.out.c0; have q1 := HI4.out.c1; have q2 := HI4.out.c2
  go_upto_region 6 with (fail)
  have hn0 : 0 < n := by
    have := HN.out
    have := Nat.mul_le_mul hw1 hh1
    omega
  have HMM := Lib.hid hn4
  clear hn4 hf
  go_wp2_with fail
  refine (HDC.out _ (by rw [HM1.out]; exact Int.le_refl _) w4 HBS.out (Nat.le_refl _) HT4.out (by omega)).mono ?_
  intro e w5 he
  obtain ⟨A5, c5, rfl, o5, hb5⟩ := im_len HBL.out he
  clear he
  have hs5 := hb5.size
  obtain ⟨w6, hw6, hi6, hb6⟩ := newImg (W : Nat) (H : Nat) A5 n c5 w5
  have HW6 := Lib.hid hw6
  have hs6 := hb6.size
  have HB6 := Lib.hid ((HB4.out.trans (hb5.mono HB4.out.size)).trans (hb6.mono (by omega)))
  have HI6 := Lib.hid ((HI4.out.call hb5).call hb6)
  have HU6 := Lib.hid (Vs.below (Vs.below HU4.out (hb5.mono (by omega))) (hb6.mono (by omega)))
  have HX6 := Lib.hid (own_upd o5 (Upd.of_fresh hb6) (fun _ _ => id))
  have HJ6 := Lib.hid hi6
  clear hw6 hi6 hb6 hb5 o5 HB4 HI4 HU4 HT4 HDC HBS q0 q1 q2
  go_upto_region 7 with (fail)
  rw [HW6.out]
  clear HW6
  have hbn : w5.heap.size < w6.heap.size := HJ6.out.blk.lt
  generalize w5.heap.size = bn at *
  have q0 := HI6.out.c0; have q1 := HI6.out.c1; have q2 := HI6.out.c2
  have p0 := HJ6.out.c0; have p1 := HJ6.out.c1; have p2 := HJ6.out.c2
  obtain ⟨ad, rfl, _, _⟩ := Us.at_ HU6.out (show 0 < l.length by rw [HN.out]; exact hn0)
  obtain ⟨g5, rfl, _, _, _, _⟩ := row_form HX6.out hn0
  go_wp2_with fail
  go_loopw [67] (fun i wr => ∃ k : Nat, k ≤ n ∧ i = .int .i64 (k : Int) ∧ wr = w6) (fun i _ => n - (intOf i).toNat)
  case atStart => exact ⟨0, Nat.zero_le _, rfl, rfl⟩
  case round =>
    obtain ⟨k, hk, rfl, rfl⟩ := hrel
    by_cases hlt : k < n
    · have hkl : k < l.length := by rw [HN.out]; exact hlt
      have hkb : k < (bakL al l).length := by rw [HBL.out]; exact hlt
      obtain ⟨ad', ha', _, hc⟩ := Us.at_ HU6.out hkl
      injection ha' with ha'
      subst ha'
      have hx : wr.cell? ⟨g5, k, none⟩ = some (.int .u16 (bakL al l)[k]) := by rw [HX6.out.cellAt k (by omega), List.getElem?_eq_getElem (by rw [usV_length]; exact hkb), usV_get]
      rw [HBG.out k hkl hkb] at hx
      have hbd := hlb l[k] (List.getElem_mem hkl)
      have HRN := Lib.hid (round_any l[k] hbd wr)
      generalize l[k] = s at *
      generalize rnd s = r at *
      have i1 : (k : Int) < (n : Int) := by omega
      clear hbd hkl hkb
      by_cases h3 : k % 4 = 3
      · have t3 : (k : Int) % 4 = 3 := by omega
        cases al
        · simp only [h3, and_self, if_true] at hx
          go_wp2_with fail
          refine HRN.out.mono ?_
          rintro e w7 ⟨rfl, rfl⟩
          go_wp2_with fail
          go_roundw
          case rel => exact ⟨k + 1, by omega, by go_num, trivial⟩
          case measure => simp [intOf]; omega
        · simp only [h3, Bool.true_eq_false, and_false, if_false] at hx
          go_wp2_with fail
          refine HRN.out.mono ?_
          rintro e w7 ⟨rfl, rfl⟩
          go_wp2_with fail
          go_roundw
          case rel => exact ⟨k + 1, by omega, by go_num, trivial⟩
          case measure => simp [intOf]; omega
      · have t3 : ¬ (k : Int) % 4 = 3 := by omega
        simp only [h3, false_and, if_false] at hx
        go_wp2_with fail
        refine HRN.out.mono ?_
        rintro e w7 ⟨rfl, rfl⟩
        go_wp2_with fail
        go_roundw
        case rel => exact ⟨k + 1, by omega, by go_num, trivial⟩
        case measure => simp [intOf]; omega
    · clear hlb
      have i1 : ¬ (k : Int) < (n : Int) := by omega
      go_wp2_with fail
      go_ret
      exact ⟨rfl, HB6.out⟩

set_option maxRecDepth 100000 in
theorem lifted (os : Os) (started : os.Started) (H : Type) (enc : TypeId × Value → H) :
    ReturnsInHanded {} Tryz.checked os 8 .any (fun w args => (Rows.bmpBackSpec.pre enc Tryz.prog Tryz.f8 Rows.bmpBackRow.domain false w args ∧ laidMetH Tryz.prog laidL w) ∧ sizedMet enc Tryz.prog Tryz.f8 (OpenSpec.ofChange Rows.bmpBackSpec) false w args)
      (Rows.bmpBackSpec.post enc Tryz.prog Tryz.f8 false true false false) := by
  refine returnsInHanded_of_change_and (C := Tryz.checked) (X := fun w _ => laidMetH Tryz.prog laidL w) (fun _ _ _ hh h => h.of_heap hh) prog_own started (by kernel_rfl) Tryz.func8
    (ChangeSpec.witness_shaped (enc := enc) (C := Tryz.checked) (os := os) (X := fun w _ => laidMetH Tryz.prog laidL w) false (World.laidAll Tryz.prog os laidL) #[.agg #[.int .i64 0, .int .i64 0, .slice none 0 0], .bool false] 8 (World.laidAll_os _ _ _)
      (laid_shaped os _) (by kernel_rfl) (by kernel_rfl) (by kernel_rfl) (laid_met os _)) ?_
  intro W base args ds gs before hval0 hW hcnd hsz hL _
  have hval : ∀ (j : Nat) t v, Tryz.f8.params[j]? = some t → args[j]? = some v → Value.okWide Tryz.prog W .any base t v := hval0
  have hW' := hW
  obtain ⟨p, q, hA0, hV, rfl, hfz, hnd⟩ := hW
  have hA : DataW.TrodAll enc Tryz.prog W 0 (fun _ => true) true Tryz.f8.params.toList args.toList ds p := hA0
  rw [Tryz.params8] at hA hval
  obtain ⟨v0, vs0, d0, ds0, p0, q0, hargs, rfl, rfl, h0, r0⟩ := trodAll_cons hA
  obtain ⟨v1, vs1, d1, ds1, p1, q1, rfl, rfl, rfl, h1, r1⟩ := trodAll_cons r0
  obtain ⟨rfl, rfl, rfl⟩ := trodAll_nil r1
  obtain rfl : args = #[v0, v1] := by cases args; simp_all
  obtain ⟨rfl, rfl⟩ := trodVars_none hV
  obtain ⟨x0, y0, A0, l0, c0, rfl, bx0, by0, hb0, hk0, hd0⟩ := open_image (hval 0 26 v0 rfl rfl) h0
  obtain ⟨a1, rfl, rfl, rfl⟩ := open_bool Tryz.underlying4 (hval 1 4 v1 rfl rfl) h1
  have hl0 : l0.length * 2 ≤ 140737488351232 := by
    obtain ⟨_, _, _, rfl, hdd⟩ := hd0
    rcases hdd with ⟨_, rfl⟩ | ⟨e, s, rfl, hle⟩
    · simp
    · have hpz := sized_part hsz (j := 0) (t := 26) rfl rfl Tryz.underlying26
      have this : (e.length + s.length) * Tryz.prog.bytesOf 42 ≤ reachBytes := sized_slice hpz (j := 2) (t := 24) (e := 42) rfl rfl Tryz.underlying24
      rw [bytes_u16] at this
      unfold reachBytes at this
      omega
  have lt0 : ∀ x ∈ p0, x.block < W.heap.size := by obtain ⟨m, hm⟩ := h0; exact DataW.trod_lt m _ _ _ hm
  clear hA0 hval0
  refine (walk x0 y0 A0 c0 l0 a1 W (tab_of_laid hL).1 (tab_of_laid hL).2 bx0 by0 hb0 hk0 hl0).mono fun e W' ⟨he, bel⟩ => ?_
  subst he
  exact ⟨_, rfl, _, _, _, [], _, [], hW', trodAll_mk1 (shut_bool Tryz.underlying4 _), (trodAll_cons_mk (Below.trod prog_laid (by kernel_rfl) (of_decide_eq_true (by kernel_rfl)) h0 bel lt0) (trodAll_cons_mk (shut_bool Tryz.underlying4 _) trodAll_mk0)), rfl, bel.frame _, fun h => by cases h⟩

theorem over : Rows.bmpBackRow.holds Tryz.pinned (OpenSpec.ofChange Rows.bmpBackSpec) :=
  OpenClaim.holds_of_wide 8 Tryz.f8 rfl rfl rfl rfl rfl rfl rfl ⟨rfl, rfl, rfl, rfl, rfl⟩ rfl rfl rfl rfl rfl (by kernel_rfl) Tryz.func8 (by kernel_rfl)
    (of_decide_eq_true (by kernel_rfl)) (by unfold Func.isWrapper; first | (rw [if_pos (by decide +kernel)]; kernel_rfl) | (rw [if_neg (by decide +kernel)]; exact ⟨rfl, rfl⟩))
    (fun os started H enc _ => lifted os started H enc)
end BmpBack

theorem bmpBack_holds : Rows.BmpBackSaid := BmpBack.over
theorem bmpBack_card : Rows.BmpBackCardSaid :=
  Claim7.holds_tied_plain_at .later [] [.data] true Rows.bmpBackCard.stood.harness false bmpBack_holds (fun _ h => by cases h) (by kernel_rfl) (fun _ h => by cases h) bmpBack_row_tie rfl ⟨rfl, rfl⟩ (by kernel_rfl) rfl
    (fun f fn hf hfn => by
      obtain rfl : f = 8 := Option.some.inj ((show Tryz.prog.funcNamed "darkroom/darkroomlaw11.BmpBack" = some 8 by kernel_rfl).symm.trans hf) |>.symm
      obtain rfl : fn = Tryz.f8 := (Option.some.inj (Tryz.func8.symm.trans hfn)).symm
      exact ⟨by kernel_rfl, fun j t ht => by
        rw [Tryz.params8] at ht
        have hm : t ∈ [26, 4] := by simpa using Array.mem_of_getElem? ht
        have hall : ([26, 4].all fun u => !Tryz.prog.wantsStandIn u) = true := by kernel_rfl
        exact (show Tryz.prog.wantsStandIn t = false by simpa using List.all_eq_true.1 hall t hm)⟩)
    (by kernel_rfl)
#print axioms bmpBack_card
end Go.Proofs.YthbhaggldighlaaGreatDoor

