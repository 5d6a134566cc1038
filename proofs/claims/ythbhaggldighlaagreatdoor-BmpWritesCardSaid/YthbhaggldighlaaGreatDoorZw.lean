/- Any image, good or not, is written byte by byte as the document says, with alpha and without: the program's Encode is the document's, for every image. The card ties the table of lowest bits to the library's own text. Condition: the form's own reach of memory. -/
import Derived.Test.YthbhaggldighlaaGreatDoorZe
import Derived.Test.YthbhaggldighlaaGreatDoorZl
import Derived.Deep.CondSized
set_option linter.unusedVariables false
set_option linter.unusedSimpArgs false
namespace Go.Proofs.YthbhaggldighlaaGreatDoor
open Go.ChangeShapes Go.WideShapes Go.ChangeAt Go.RowKit
namespace BmpWrites

set_option maxHeartbeats 4000000 in
set_option maxRecDepth 100000 in
theorem walk (x y : Int) (A : Option Addr) (c : Nat) (l : List Int) (al : Bool) (w : World) (hT : Tab32 w) (hB1 : 1 < w.heap.size) (_ : -9223372036854775808 ≤ x ∧ x ≤ 9223372036854775807) (_ : -9223372036854775808 ≤ y ∧ y ≤ 9223372036854775807) (hu : Us w w.heap.size A l) (hlb : ∀ v ∈ l, 0 ≤ v ∧ v ≤ 65535) (hl : l.length * 2 ≤ 140737488351232) :
    Calls Tryz.prog 7 #[imgV x y A l.length c, .bool al] w fun e w' => e = .returned (.bool true) ∧ Below w.heap.size w w' := by
  obtain ⟨w1, hw1, hi, hb⟩ := newImg x y A l.length c w
  have HW1 := Lib.hid hw1; have HI := Lib.hid hi; have HB := Lib.hid hb
  have HU := Lib.hid (Vs.below hu hb); have HT := Lib.hid (hT.below hb hB1)
  have hs1 := hb.size
  obtain ⟨n, hn⟩ : ∃ n, l.length = n := ⟨_, rfl⟩
  have HN := Lib.hid hn
  rw [hn] at hl HW1 HI ⊢
  clear hw1 hi hb hu hT hn
  go_enter Tryz.func7, Tryz.ntmps7
  go_upto_region 1 with (fail)
  rw [HW1.out]
  clear HW1
  go_wp2_with fail
  refine (wakes_any w1 HT.out (by omega)).mono ?_
  rintro e w2 ⟨rfl, hb2⟩
  have hs2 := hb2.size
  have HB2 := Lib.hid (HB.out.trans (hb2.mono HB.out.size)); have HI2 := Lib.hid (HI.out.call hb2)
  have HU2 := Lib.hid (Vs.below HU.out (hb2.mono (by omega))); have HT2 := Lib.hid (HT.out.below hb2 (by show 1 < _; omega))
  clear HB HI HU HT hb2
  have q0 := HI2.out.c0; have q1 := HI2.out.c1; have q2 := HI2.out.c2
  go_wp2_with fail
  refine (copy_any x y A n c l HN.out w.heap.size w2 HU2.out (by omega) (by omega)).mono ?_
  rintro e w3 ⟨A3, c3, rfl, o3, hb3⟩
  have hs3 := hb3.size
  have HB3 := Lib.hid (HB2.out.trans (hb3.mono HB2.out.size)); have HI3 := Lib.hid (HI2.out.call hb3)
  have HU3 := Lib.hid (Vs.below HU2.out (hb3.mono (by omega))); have HT3 := Lib.hid (HT2.out.below hb3 (by show 1 < _; omega))
  have hr3 := (row_room o3).1
  have HC3 := Lib.hid (Vs.of_own o3)
  clear HB2 HI2 HU2 HT2 hb3 o3 q0 q1 q2
  go_wp2_with fail
  refine (enc_any al x y A3 n c3 l HN.out hr3 hlb w3.heap.size w3 HT3.out (by omega) HC3.out (Nat.le_refl _)).mono ?_
  intro e w4 he
  obtain ⟨A4, c4, rfl, o4, hb4⟩ := he.out
  have hs4 := hb4.size
  have HB4 := Lib.hid (HB3.out.trans (hb4.mono HB3.out.size)); have HI4 := Lib.hid (HI3.out.call hb4)
  have HU4 := Lib.hid (Vs.below HU3.out (hb4.mono (by omega)))
  have HO4 := Lib.hid o4
  clear HB3 HI3 HU3 HT3 HC3 hb4 o4 he
  have q0 := HI4.out.c0; have q1 := HI4.out.c1; have q2 := HI4.out.c2
  go_wp2_with fail
  refine (renc_any al x y A n c l HN.out hlb w.heap.size w4 HU4.out (by omega)).mono ?_
  intro e w5 he
  obtain ⟨A5, c5, rfl, o5, hb5⟩ := he.out
  have HB5 := Lib.hid (HB4.out.trans (hb5.mono HB4.out.size))
  have HO5 := Lib.hid (own_upd HO4.out (Upd.of_fresh hb5) (fun _ _ => id))
  have HP5 := Lib.hid o5
  clear HB4 HI4 HU4 HO4 hb5 o5 he q0 q1 q2
  generalize encO al x y l = b at *
  obtain ⟨N, hN⟩ : ∃ N, b.length = N := ⟨_, rfl⟩
  have HNN := Lib.hid hN
  rw [hN] at HO5 HP5 ⊢
  clear hN
  have hrm := row_room HO5.out
  generalize encE x y l = E at *
  go_wp2_with fail
  refine (same_self A4 A5 c4 c5 N b HNN.out w5.heap.size w5 (own_bs HNN.out HO5.out) (own_bs HNN.out HP5.out) (Nat.le_trans hrm.1 hrm.2)).mono ?_
  rintro e w6 ⟨rfl, k, rfl⟩
  have HB6 := Lib.hid (below_drewN HB5.out k)
  clear HO5 HP5
  go_wp2_with fail
  go_ret
  exact ⟨by simp, HB6.out⟩

set_option maxRecDepth 100000 in
theorem lifted (os : Os) (started : os.Started) (H : Type) (enc : TypeId × Value → H) :
    ReturnsInHanded {} Tryz.checked os 7 .any (fun w args => (Rows.bmpWritesSpec.pre enc Tryz.prog Tryz.f7 Rows.bmpWritesRow.domain false w args ∧ laidMetH Tryz.prog laidL w) ∧ sizedMet enc Tryz.prog Tryz.f7 (OpenSpec.ofChange Rows.bmpWritesSpec) false w args)
      (Rows.bmpWritesSpec.post enc Tryz.prog Tryz.f7 false true false false) := by
  refine returnsInHanded_of_change_and (C := Tryz.checked) (X := fun w _ => laidMetH Tryz.prog laidL w) (fun _ _ _ hh h => h.of_heap hh) prog_own started (by kernel_rfl) Tryz.func7
    (ChangeSpec.witness_shaped (enc := enc) (C := Tryz.checked) (os := os) (X := fun w _ => laidMetH Tryz.prog laidL w) false (World.laidAll Tryz.prog os laidL) #[.agg #[.int .i64 0, .int .i64 0, .slice none 0 0], .bool false] 8 (World.laidAll_os _ _ _)
      (laid_shaped os _) (by kernel_rfl) (by kernel_rfl) (by kernel_rfl) (laid_met os _)) ?_
  intro W base args ds gs before hval0 hW hcnd hsz hL _
  have hval : ∀ (j : Nat) t v, Tryz.f7.params[j]? = some t → args[j]? = some v → Value.okWide Tryz.prog W .any base t v := hval0
  have hW' := hW
  obtain ⟨p, q, hA0, hV, rfl, hfz, hnd⟩ := hW
  have hA : DataW.TrodAll enc Tryz.prog W 0 (fun _ => true) true Tryz.f7.params.toList args.toList ds p := hA0
  rw [Tryz.params7] at hA hval
  obtain ⟨v0, vs0, d0, ds0, p0, q0, hargs, rfl, rfl, h0, r0⟩ := trodAll_cons hA
  obtain ⟨v1, vs1, d1, ds1, p1, q1, rfl, rfl, rfl, h1, r1⟩ := trodAll_cons r0
  obtain ⟨rfl, rfl, rfl⟩ := trodAll_nil r1
  obtain rfl : args = #[v0, v1] := by cases args; simp_all
  obtain ⟨rfl, rfl⟩ := trodVars_none hV
  obtain ⟨x0, y0, A0, l0, c0, rfl, bx0, by0, hb0, hk0, hd0⟩ := open_image (hval 0 26 v0 rfl rfl) h0
  obtain ⟨a1, rfl, rfl, rfl⟩ := open_bool Tryz.underlying4 (hval 1 4 v1 rfl rfl) h1
  have hl0 : l0.length * 2 ≤ 140737488351232 := by
    obtain ⟨_, _, _, rfl, hdd⟩ := hd0
    rcases hdd with ⟨_, rfl⟩ | ⟨e, s, rfl, hle⟩
    · simp
    · have hpz := sized_part hsz (j := 0) (t := 26) rfl rfl Tryz.underlying26
      have this : (e.length + s.length) * Tryz.prog.bytesOf 42 ≤ reachBytes := sized_slice hpz (j := 2) (t := 24) (e := 42) rfl rfl Tryz.underlying24
      rw [bytes_u16] at this
      unfold reachBytes at this
      omega
  have lt0 : ∀ x ∈ p0, x.block < W.heap.size := by obtain ⟨m, hm⟩ := h0; exact DataW.trod_lt m _ _ _ hm
  clear hA0 hval0
  refine (walk x0 y0 A0 c0 l0 a1 W (tab_of_laid hL).1 (tab_of_laid hL).2 bx0 by0 hb0 hk0 hl0).mono fun e W' ⟨he, bel⟩ => ?_
  subst he
  exact ⟨_, rfl, _, _, _, [], _, [], hW', trodAll_mk1 (shut_bool Tryz.underlying4 _), (trodAll_cons_mk (Below.trod prog_laid (by kernel_rfl) (of_decide_eq_true (by kernel_rfl)) h0 bel lt0) (trodAll_cons_mk (shut_bool Tryz.underlying4 _) trodAll_mk0)), rfl, bel.frame _, fun h => by cases h⟩

theorem over : Rows.bmpWritesRow.holds Tryz.pinned (OpenSpec.ofChange Rows.bmpWritesSpec) :=
  OpenClaim.holds_of_wide 7 Tryz.f7 rfl rfl rfl rfl rfl rfl rfl ⟨rfl, rfl, rfl, rfl, rfl⟩ rfl rfl rfl rfl rfl (by kernel_rfl) Tryz.func7 (by kernel_rfl)
    (of_decide_eq_true (by kernel_rfl)) (by unfold Func.isWrapper; first | (rw [if_pos (by decide +kernel)]; kernel_rfl) | (rw [if_neg (by decide +kernel)]; exact ⟨rfl, rfl⟩))
    (fun os started H enc _ => lifted os started H enc)
end BmpWrites

theorem bmpWrites_holds : Rows.BmpWritesSaid := BmpWrites.over
theorem bmpWrites_card : Rows.BmpWritesCardSaid :=
  Claim7.holds_tied_plain_at .later [] [.data] true Rows.bmpWritesCard.stood.harness false bmpWrites_holds (fun _ h => by cases h) (by kernel_rfl) (fun _ h => by cases h) bmpWrites_row_tie rfl ⟨rfl, rfl⟩ (by kernel_rfl) rfl
    (fun f fn hf hfn => by
      obtain rfl : f = 7 := Option.some.inj ((show Tryz.prog.funcNamed "darkroom/darkroomlaw11.BmpWrites" = some 7 by kernel_rfl).symm.trans hf) |>.symm
      obtain rfl : fn = Tryz.f7 := (Option.some.inj (Tryz.func7.symm.trans hfn)).symm
      exact ⟨by kernel_rfl, fun j t ht => by
        rw [Tryz.params7] at ht
        have hm : t ∈ [26, 4] := by simpa using Array.mem_of_getElem? ht
        have hall : ([26, 4].all fun u => !Tryz.prog.wantsStandIn u) = true := by kernel_rfl
        exact (show Tryz.prog.wantsStandIn t = false by simpa using List.all_eq_true.1 hall t hm)⟩)
    (by kernel_rfl)
#print axioms bmpWrites_card
end Go.Proofs.YthbhaggldighlaaGreatDoor

