/- An image of one colour, of any size that may be, is the document's, and so is the error of any other: for every width, every height and every colour. -/
import Derived.Test.YtpioocnojpocmaaQq
import Derived.Deep.CondSized
namespace Go.Proofs.Ytpioocnojpocmaa
open Go.ChangeShapes Go.WideShapes Go.ChangeAt Go.RowKit
namespace RasterFills

set_option maxHeartbeats 4000000 in
set_option maxRecDepth 100000 in
theorem walk (x y : Int) (k : Col) (w : World) (_ : -9223372036854775808 ≤ x ∧ x ≤ 9223372036854775807) (_ : -9223372036854775808 ≤ y ∧ y ≤ 9223372036854775807) :
    Calls Try.prog 4 #[.int .i64 x, .int .i64 y, .agg #[.int .u16 k.r, .int .u16 k.g, .int .u16 k.b, .int .u16 k.a]] w fun e w' => e = .returned (.bool true) ∧ Below w.heap.size w w' := by
  have hbx := (Below.refl w.heap.size w).alloc (Nat.le_refl _) (.cells #[.int .u16 k.r, .int .u16 k.g, .int .u16 k.b, .int .u16 k.a] 30)
  have hcx := CB.of (x := k) (Blk.new w 30 #[.int .u16 k.r, .int .u16 k.g, .int .u16 k.b, .int .u16 k.a])
  obtain ⟨w1, hw1⟩ : ∃ w1, w.alloc (.cells #[.int .u16 k.r, .int .u16 k.g, .int .u16 k.b, .int .u16 k.a] 30) = w1 := ⟨_, rfl⟩
  rw [hw1] at hbx hcx
  have HW1 := Lib.hid hw1
  have HB := Lib.hid hbx
  have HC := Lib.hid hcx
  clear hw1 hbx hcx
  go_enter Try.func4, Try.ntmps4
  go_upto_region 1 with (fail)
  rw [HW1.out]
  clear HW1
  go_wp2_with fail
  refine (wakes_any w1).mono ?_
  rintro e w2 ⟨rfl, hb2⟩
  have HB2 := Lib.hid (HB.out.trans (hb2.mono HB.out.size))
  have HC2 := Lib.hid (HC.out.call hb2)
  clear HB HC hb2
  obtain ⟨_, c0, c1, c2, c3, _, _, _, _⟩ := HC2.out
  go_wp2_with fail
  refine (fill_any x y k w2).mono ?_
  rintro e w3 ⟨A3, d3, rfl, ho3, hb3⟩
  obtain ⟨w4, hw4, hi4, hb4⟩ := newImg (fillI x y k).W (fillI x y k).H A3 (fillI x y k).l.length d3 w3
  have HW4 := Lib.hid hw4
  have hb34 := hb3.trans (hb4.mono hb3.size)
  have HB4 := Lib.hid (HB2.out.trans (hb34.mono HB2.out.size))
  have HC4 := Lib.hid (HC2.out.call hb34)
  have HI4 := Lib.hid hi4
  have HO4 := Lib.hid (own_upd ho3 (Upd.of_fresh hb4) (fun _ _ => id))
  clear HB2 HC2 hw4 hi4 hb4 hb3 hb34 ho3 c0 c1 c2 c3
  obtain ⟨r, hr⟩ : ∃ r, fillI x y k = r := ⟨_, rfl⟩
  have HR := Lib.hid hr
  rw [hr] at HW4 HI4 HO4 ⊢
  clear hr
  obtain ⟨W, H, E, l⟩ := r
  dsimp only at HW4 HI4 HO4 ⊢
  go_upto_region 4 with (fail)
  rw [HW4.out]
  clear HW4
  obtain ⟨_, c0, c1, c2, c3, _, _, _, _⟩ := HC4.out
  go_wp2_with fail
  refine (refFill_any x y k w4).mono ?_
  rintro e w5 ⟨A5, d5, rfl, ho5, hb5⟩
  obtain ⟨w6, hw6, hi6, hb6⟩ := newImg (fillI x y k).W (fillI x y k).H A5 (fillI x y k).l.length d5 w5
  rw [HR.out] at hw6 hi6 ho5 ⊢
  dsimp only at hw6 hi6 ho5 ⊢
  have HW6 := Lib.hid hw6
  have hb56 := hb5.trans (hb6.mono hb5.size)
  have HB6 := Lib.hid (HB4.out.trans (hb56.mono HB4.out.size))
  have HI6 := Lib.hid (HI4.out.call hb56)
  have HO6 := Lib.hid (own_upd HO4.out (Upd.of_fresh hb56) (fun _ _ => id))
  have HP6 := Lib.hid hi6
  have HQ6 := Lib.hid (own_upd ho5 (Upd.of_fresh hb6) (fun _ _ => id))
  clear HB4 HC4 HI4 HO4 hw6 hi6 hb5 hb6 hb56 ho5 c0 c1 c2 c3
  go_upto_region 5 with (fail)
  rw [HW6.out]
  clear HW6
  have q0 := HI6.out.c0; have q1 := HI6.out.c1; have q2 := HI6.out.c2
  have p0 := HP6.out.c0; have p1 := HP6.out.c1; have p2 := HP6.out.c2
  have HSM := Lib.hid (refSame_any W H A3 l.length d3 l W H A5 l.length d5 l rfl rfl w6.heap.size w6 (Vs.of_own HO6.out) (Vs.of_own HQ6.out) (Nat.le_refl _) (Nat.le_trans (row_room HO6.out).1 (row_room HO6.out).2))
  generalize l.length = n at *
  go_wp2_with fail
  refine HSM.out.mono ?_
  rintro e w7 ⟨rfl, hb7⟩
  rw [sameB_self]
  have HB7 := Lib.hid (HB6.out.trans (hb7.mono HB6.out.size))
  clear HB6 HI6 HO6 HP6 HQ6 HSM hb7 q0 q1 q2 p0 p1 p2
  go_wp2_with fail
  go_ret
  exact ⟨rfl, HB7.out⟩
set_option maxRecDepth 100000 in
theorem lifted (os : Os) (started : os.Started) (H : Type) (enc : TypeId × Value → H) :
    ReturnsInHanded {} Try.checked os 4 .any (Rows.rasterFillsSpec.pre6 enc Try.prog Try.f4 Rows.rasterFillsRow.domain false) (Rows.rasterFillsSpec.post enc Try.prog Try.f4 false true false false) := by
  refine returnsInHanded_of_change (C := Try.checked) prog_own started (by kernel_rfl) Try.func4
    (ChangeSpec.witness6 (enc := enc) (C := Try.checked) false ⟨#[], #[.int .i64 0, .int .i64 0, .agg #[.int .u16 0, .int .u16 0, .int .u16 0, .int .u16 0]], []⟩ 8 (by kernel_rfl) (by kernel_rfl) (by kernel_rfl) (by kernel_rfl)) ?_
  intro W base args ds gs before hval0 hW hcnd _
  have hval : ∀ (j : Nat) t v, Try.f4.params[j]? = some t → args[j]? = some v → Value.okWide Try.prog W .any base t v := hval0
  have hW' := hW
  obtain ⟨p, q, hA0, hV, rfl, hfz, hnd⟩ := hW
  have hA : DataW.TrodAll enc Try.prog W 0 (fun _ => true) true Try.f4.params.toList args.toList ds p := hA0
  rw [Try.params4] at hA hval
  obtain ⟨v0, vs0, d0, ds0, p0, q0, hargs, rfl, rfl, h0, r0⟩ := trodAll_cons hA
  obtain ⟨v1, vs1, d1, ds1, p1, q1, rfl, rfl, rfl, h1, r1⟩ := trodAll_cons r0
  obtain ⟨v2, vs2, d2, ds2, p2, q2, rfl, rfl, rfl, h2, r2⟩ := trodAll_cons r1
  obtain ⟨rfl, rfl, rfl⟩ := trodAll_nil r2
  obtain rfl : args = #[v0, v1, v2] := by cases args; simp_all
  obtain ⟨rfl, rfl⟩ := trodVars_none hV
  obtain ⟨a0, rfl, rfl, rfl, w0⟩ := open_int Try.underlying3 (hval 0 3 v0 rfl rfl) h0
  obtain ⟨a1, rfl, rfl, rfl, w1⟩ := open_int Try.underlying3 (hval 1 3 v1 rfl rfl) h1
  obtain ⟨x2, rfl⟩ := open_color (hval 2 30 v2 rfl rfl) h2
  have lt2 : ∀ x ∈ p2, x.block < W.heap.size := by obtain ⟨m, hm⟩ := h2; exact DataW.trod_lt m _ _ _ hm
  clear hA0 hval0
  refine (walk a0 a1 x2 W (bounds_i64 w0) (bounds_i64 w1)).mono fun e W' ⟨he, bel⟩ => ?_
  subst he
  exact ⟨_, rfl, _, _, _, [], _, [], hW', trodAll_mk1 (shut_bool Try.underlying4 _), (trodAll_cons_mk (shut_int Try.underlying3 w0) (trodAll_cons_mk (shut_int Try.underlying3 w1) (trodAll_cons_mk (Below.trod prog_laid (by kernel_rfl) (of_decide_eq_true (by kernel_rfl)) h2 bel lt2) trodAll_mk0))), rfl, bel.frame _, fun h => by cases h⟩

theorem over : Rows.rasterFillsRow.holds Try.pinned (OpenSpec.ofChange Rows.rasterFillsSpec) :=
  OpenClaim.holds_of_wide 4 Try.f4 rfl rfl rfl rfl rfl rfl rfl ⟨rfl, rfl, rfl, rfl, rfl⟩ rfl rfl rfl rfl rfl (by kernel_rfl) Try.func4 (by kernel_rfl)
    (of_decide_eq_true (by kernel_rfl)) (by unfold Func.isWrapper; first | (rw [if_pos (by decide +kernel)]; kernel_rfl) | (rw [if_neg (by decide +kernel)]; exact ⟨rfl, rfl⟩))
    (fun os started H enc _ => lifted os started H enc)
end RasterFills

theorem rasterFills_holds : Rows.RasterFillsSaid := RasterFills.over
#print axioms rasterFills_holds
end Go.Proofs.Ytpioocnojpocmaa
