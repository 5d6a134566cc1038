/- A colour goes to luma and chroma and comes back within two of each sample: for every three bytes, no condition. -/
import Derived.Test.YtibgjklfbfahfaaTmg
import Derived.Test.YtibgjklfbfahfaaTmo
namespace Go.Proofs.Ytibgjklfbfahfaa
open Go.ChangeShapes Go.WideShapes Go.ChangeAt Go.RowKit
namespace TonesNear

theorem ret_tt {a : Bool} (h : a = true) : Ending.returned (.bool a) = .returned (.bool true) := by rw [h]
theorem off_any (a b : Int) (_ : 0 ≤ a ∧ a ≤ 255) (_ : 0 ≤ b ∧ b ≤ 255) (h : nearB a b) (w : World) : Calls Try.prog 20 #[.int .i64 a, .int .i64 b] w fun e w' => ∃ z, e = .returned (.int .i64 z) ∧ z ≤ 2 ∧ w' = w := by
  unfold nearB at h
  go_enter Try.func20, Try.ntmps20
  rcases Int.lt_or_le a b with h1 | h1
  · go_wp2_with fail
    go_ret
    exact ⟨_, rfl, by omega, rfl⟩
  · go_wp2_with fail
    go_ret
    exact ⟨_, rfl, by omega, rfl⟩
set_option maxHeartbeats 4000000 in
set_option maxRecDepth 100000 in
theorem walk (a b c : Int) (w : World) (ha : 0 ≤ a ∧ a ≤ 255) (hb : 0 ≤ b ∧ b ≤ 255) (hc : 0 ≤ c ∧ c ≤ 255) :
    Calls Try.prog 7 #[.agg #[.int .u8 a, .int .u8 b, .int .u8 c]] w fun e w' => e = .returned (.bool true) ∧ Below w.heap.size w w' := by
  go_enter Try.func7, Try.ntmps7
  go_wp2_with fail
  have hb0 := (Below.refl w.heap.size w).alloc (Nat.le_refl _) (.cells #[.int .u8 a, .int .u8 b, .int .u8 c] 43)
  have hx := Blk.new w 43 #[.int .u8 a, .int .u8 b, .int .u8 c]
  generalize w.alloc (.cells #[.int .u8 a, .int .u8 b, .int .u8 c] 43) = W0 at *
  refine (wakes_any W0).mono ?_
  rintro e w1 ⟨rfl, hb1⟩
  have hx1 := hx.upd (Upd.of_fresh hb1) id
  have x0 := hx1.cell 0; have x1 := hx1.cell 1; have x2 := hx1.cell 2
  simp only [List.getElem?_toArray, List.getElem?_cons_zero, List.getElem?_cons_succ] at x0 x1 x2
  have HX := Lib.hid hx1
  have HB1 := Lib.hid (hb0.trans (hb1.mono hb0.size))
  have HY1 := Lib.hid (ycc_any a b c)
  have HN := Lib.hid (near_all ha hb hc)
  have HR1 := Lib.hid (rgb_any (yccI a b c).1 (yccI a b c).2.1 (yccI a b c).2.2)
  have HB3 := Lib.hid (show (0 ≤ (rgbI (yccI a b c).1 (yccI a b c).2.1 (yccI a b c).2.2).1 ∧ (rgbI (yccI a b c).1 (yccI a b c).2.1 (yccI a b c).2.2).1 ≤ 255) ∧ (0 ≤ (rgbI (yccI a b c).1 (yccI a b c).2.1 (yccI a b c).2.2).2.1 ∧ (rgbI (yccI a b c).1 (yccI a b c).2.1 (yccI a b c).2.2).2.1 ≤ 255) ∧ (0 ≤ (rgbI (yccI a b c).1 (yccI a b c).2.1 (yccI a b c).2.2).2.2 ∧ (rgbI (yccI a b c).1 (yccI a b c).2.1 (yccI a b c).2.2).2.2 ≤ 255) from ⟨clI_bd _, clI_bd _, clI_bd _⟩)
  simp only [tri] at HY1 HR1
  clear hb0 hx hb1 hx1
  generalize yccI a b c = p at *
  obtain ⟨p0, p1, p2⟩ := p
  simp only at HY1 HR1 HN HB3
  generalize rgbI p0 p1 p2 = q at *
  obtain ⟨q0, q1, q2⟩ := q
  simp only at HR1 HN HB3
  go_wp2_with fail
  refine (HY1.out w1).mono ?_
  rintro e w2 ⟨rfl, hb2⟩
  have HX2 := Lib.hid (HX.out.upd (Upd.of_fresh hb2) id)
  have HB2 := Lib.hid (HB1.out.trans (hb2.mono HB1.out.size))
  clear hb2 x0 x1 x2
  go_wp2_with fail
  refine (HR1.out w2).mono ?_
  rintro e w4 ⟨rfl, hb2⟩
  have hx1 := HX2.out.upd (Upd.of_fresh hb2) id
  have x0 := hx1.cell 0; have x1 := hx1.cell 1; have x2 := hx1.cell 2
  simp only [List.getElem?_toArray, List.getElem?_cons_zero, List.getElem?_cons_succ] at x0 x1 x2
  have HB4 := Lib.hid (HB2.out.trans (hb2.mono HB2.out.size))
  clear hx1 hb2
  go_wp2_with fail
  refine (off_any q0 a HB3.out.1 ha HN.out.1 w4).mono ?_
  rintro e w5 ⟨z0, rfl, hz0, rfl⟩
  go_wp2_with fail
  refine (off_any q1 b HB3.out.2.1 hb HN.out.2.1 w5).mono ?_
  rintro e w6 ⟨z1, rfl, hz1, rfl⟩
  go_wp2_with fail
  refine (off_any q2 c HB3.out.2.2 hc HN.out.2.2 w6).mono ?_
  rintro e w7 ⟨z2, rfl, hz2, rfl⟩
  go_wp2_with fail
  go_ret
  exact ⟨ret_tt (by simp), HB4.out⟩

set_option maxRecDepth 100000 in
theorem lifted (os : Os) (started : os.Started) (H : Type) (enc : TypeId × Value → H) :
    ReturnsInHanded {} Try.checked os 7 .any (Rows.tonesNearSpec.pre6 enc Try.prog Try.f7 Rows.tonesNearRow.domain false) (Rows.tonesNearSpec.post enc Try.prog Try.f7 false true false false) := by
  refine returnsInHanded_of_change (C := Try.checked) prog_own started (by kernel_rfl) Try.func7
    (ChangeSpec.witness6 (enc := enc) (C := Try.checked) false ⟨#[], #[.agg #[.int .u8 0, .int .u8 0, .int .u8 0]], []⟩ 8 (by kernel_rfl) (by kernel_rfl) (by kernel_rfl) (by kernel_rfl)) ?_
  intro W base args ds gs before hval0 hW hcnd _
  have hval : ∀ (j : Nat) t v, Try.f7.params[j]? = some t → args[j]? = some v → Value.okWide Try.prog W .any base t v := hval0
  have hW' := hW
  obtain ⟨p, q, hA0, hV, rfl, hfz, hnd⟩ := hW
  have hA : DataW.TrodAll enc Try.prog W 0 (fun _ => true) true Try.f7.params.toList args.toList ds p := hA0
  rw [Try.params7] at hA hval
  obtain ⟨v0, vs0, d0, ds0, p0, q0, hargs, rfl, rfl, h0, r0⟩ := trodAll_cons hA
  obtain ⟨rfl, rfl, rfl⟩ := trodAll_nil r0
  obtain rfl : args = #[v0] := by cases args; simp_all
  obtain ⟨rfl, rfl⟩ := trodVars_none hV
  obtain ⟨x0, y0, z0, rfl, bx0, by0, bz0⟩ := open_three_b (hval 0 43 v0 rfl rfl) h0
  have lt0 : ∀ x ∈ p0, x.block < W.heap.size := by obtain ⟨m, hm⟩ := h0; exact DataW.trod_lt m _ _ _ hm
  clear hA0 hval0
  refine (walk x0 y0 z0 W bx0 by0 bz0).mono fun e W' ⟨he, bel⟩ => ?_
  subst he
  exact ⟨_, rfl, _, _, _, [], _, [], hW', trodAll_mk1 (shut_bool Try.underlying4 _), (trodAll_cons_mk (Below.trod prog_laid (by kernel_rfl) (of_decide_eq_true (by kernel_rfl)) h0 bel lt0) trodAll_mk0), rfl, bel.frame _, fun h => by cases h⟩

theorem over : Rows.tonesNearRow.holds Try.pinned (OpenSpec.ofChange Rows.tonesNearSpec) :=
  OpenClaim.holds_of_wide 7 Try.f7 rfl rfl rfl rfl rfl rfl rfl ⟨rfl, rfl, rfl, rfl, rfl⟩ rfl rfl rfl rfl rfl (by kernel_rfl) Try.func7 (by kernel_rfl)
    (of_decide_eq_true (by kernel_rfl)) (by unfold Func.isWrapper; first | (rw [if_pos (by decide +kernel)]; kernel_rfl) | (rw [if_neg (by decide +kernel)]; exact ⟨rfl, rfl⟩))
    (fun os started H enc _ => lifted os started H enc)
end TonesNear

theorem tonesNear_holds : Rows.TonesNearSaid := TonesNear.over
#print axioms tonesNear_holds
end Go.Proofs.Ytibgjklfbfahfaa
