/- Luma and chroma there and back, each by the document's whole numbers: for every three numbers, no condition. -/
import Derived.Test.YtibgjklfbfahfaaTmg
import Derived.Test.YtibgjklfbfahfaaTmo
namespace Go.Proofs.Ytibgjklfbfahfaa
open Go.ChangeShapes Go.WideShapes Go.ChangeAt Go.RowKit
namespace TonesChroma

theorem ret_tt {a : Bool} (h : a = true) : Ending.returned (.bool a) = .returned (.bool true) := by rw [h]
set_option maxHeartbeats 4000000 in
set_option maxRecDepth 100000 in
theorem walk (a b c : Int) (w : World) (_ : -9223372036854775808 ≤ a ∧ a ≤ 9223372036854775807) (_ : -9223372036854775808 ≤ b ∧ b ≤ 9223372036854775807) (_ : -9223372036854775808 ≤ c ∧ c ≤ 9223372036854775807) :
    Calls Try.prog 6 #[.agg #[.int .i64 a, .int .i64 b, .int .i64 c]] w fun e w' => e = .returned (.bool true) ∧ Below w.heap.size w w' := by
  go_enter Try.func6, Try.ntmps6
  go_wp2_with fail
  have hb0 := (Below.refl w.heap.size w).alloc (Nat.le_refl _) (.cells #[.int .i64 a, .int .i64 b, .int .i64 c] 39)
  have hx := Blk.new w 39 #[.int .i64 a, .int .i64 b, .int .i64 c]
  generalize w.alloc (.cells #[.int .i64 a, .int .i64 b, .int .i64 c] 39) = W0 at *
  refine (wakes_any W0).mono ?_
  rintro e w1 ⟨rfl, hb1⟩
  have hx1 := hx.upd (Upd.of_fresh hb1) id
  have x0 := hx1.cell 0; have x1 := hx1.cell 1; have x2 := hx1.cell 2
  simp only [List.getElem?_toArray, List.getElem?_cons_zero, List.getElem?_cons_succ] at x0 x1 x2
  have HX := Lib.hid hx1
  have HB1 := Lib.hid (hb0.trans (hb1.mono hb0.size))
  have HY1 := Lib.hid (ycc_any a b c)
  have HY2 := Lib.hid (refYcc_any a b c)
  have HR1 := Lib.hid (rgb_any a b c)
  have HR2 := Lib.hid (refRgb_any a b c)
  simp only [tri] at HY1 HY2 HR1 HR2
  clear hb0 hx hb1 hx1
  generalize yccI a b c = p at *
  generalize rgbI a b c = q at *
  obtain ⟨p0, p1, p2⟩ := p
  obtain ⟨q0, q1, q2⟩ := q
  simp only at HY1 HY2 HR1 HR2
  go_wp2_with fail
  refine (HY1.out w1).mono ?_
  rintro e w2 ⟨rfl, hb2⟩
  have hx1 := HX.out.upd (Upd.of_fresh hb2) id
  have x0 := hx1.cell 0; have x1 := hx1.cell 1; have x2 := hx1.cell 2
  simp only [List.getElem?_toArray, List.getElem?_cons_zero, List.getElem?_cons_succ] at x0 x1 x2
  have HX := Lib.hid hx1
  have HB2 := Lib.hid (HB1.out.trans (hb2.mono HB1.out.size))
  clear hx1 hb2
  go_wp2_with fail
  refine (HY2.out w2).mono ?_
  rintro e w3 ⟨rfl, rfl⟩
  go_wp2_with fail
  refine (HR1.out w3).mono ?_
  rintro e w4 ⟨rfl, hb2⟩
  have hx1 := HX.out.upd (Upd.of_fresh hb2) id
  have x0 := hx1.cell 0; have x1 := hx1.cell 1; have x2 := hx1.cell 2
  simp only [List.getElem?_toArray, List.getElem?_cons_zero, List.getElem?_cons_succ] at x0 x1 x2
  have HB4 := Lib.hid (HB2.out.trans (hb2.mono HB2.out.size))
  clear hx1 hb2
  go_wp2_with fail
  refine (HR2.out w4).mono ?_
  rintro e w5 ⟨rfl, rfl⟩
  go_wp2_with fail
  go_ret
  exact ⟨ret_tt (by simp), HB4.out⟩

set_option maxRecDepth 100000 in
theorem lifted (os : Os) (started : os.Started) (H : Type) (enc : TypeId × Value → H) :
    ReturnsInHanded {} Try.checked os 6 .any (Rows.tonesChromaSpec.pre6 enc Try.prog Try.f6 Rows.tonesChromaRow.domain false) (Rows.tonesChromaSpec.post enc Try.prog Try.f6 false true false false) := by
  refine returnsInHanded_of_change (C := Try.checked) prog_own started (by kernel_rfl) Try.func6
    (ChangeSpec.witness6 (enc := enc) (C := Try.checked) false ⟨#[], #[.agg #[.int .i64 0, .int .i64 0, .int .i64 0]], []⟩ 8 (by kernel_rfl) (by kernel_rfl) (by kernel_rfl) (by kernel_rfl)) ?_
  intro W base args ds gs before hval0 hW hcnd _
  have hval : ∀ (j : Nat) t v, Try.f6.params[j]? = some t → args[j]? = some v → Value.okWide Try.prog W .any base t v := hval0
  have hW' := hW
  obtain ⟨p, q, hA0, hV, rfl, hfz, hnd⟩ := hW
  have hA : DataW.TrodAll enc Try.prog W 0 (fun _ => true) true Try.f6.params.toList args.toList ds p := hA0
  rw [Try.params6] at hA hval
  obtain ⟨v0, vs0, d0, ds0, p0, q0, hargs, rfl, rfl, h0, r0⟩ := trodAll_cons hA
  obtain ⟨rfl, rfl, rfl⟩ := trodAll_nil r0
  obtain rfl : args = #[v0] := by cases args; simp_all
  obtain ⟨rfl, rfl⟩ := trodVars_none hV
  obtain ⟨x0, y0, z0, rfl, bx0, by0, bz0⟩ := open_three (hval 0 39 v0 rfl rfl) h0
  have lt0 : ∀ x ∈ p0, x.block < W.heap.size := by obtain ⟨m, hm⟩ := h0; exact DataW.trod_lt m _ _ _ hm
  clear hA0 hval0
  refine (walk x0 y0 z0 W bx0 by0 bz0).mono fun e W' ⟨he, bel⟩ => ?_
  subst he
  exact ⟨_, rfl, _, _, _, [], _, [], hW', trodAll_mk1 (shut_bool Try.underlying4 _), (trodAll_cons_mk (Below.trod prog_laid (by kernel_rfl) (of_decide_eq_true (by kernel_rfl)) h0 bel lt0) trodAll_mk0), rfl, bel.frame _, fun h => by cases h⟩

theorem over : Rows.tonesChromaRow.holds Try.pinned (OpenSpec.ofChange Rows.tonesChromaSpec) :=
  OpenClaim.holds_of_wide 6 Try.f6 rfl rfl rfl rfl rfl rfl rfl ⟨rfl, rfl, rfl, rfl, rfl⟩ rfl rfl rfl rfl rfl (by kernel_rfl) Try.func6 (by kernel_rfl)
    (of_decide_eq_true (by kernel_rfl)) (by unfold Func.isWrapper; first | (rw [if_pos (by decide +kernel)]; kernel_rfl) | (rw [if_neg (by decide +kernel)]; exact ⟨rfl, rfl⟩))
    (fun os started H enc _ => lifted os started H enc)
end TonesChroma

theorem tonesChroma_holds : Rows.TonesChromaSaid := TonesChroma.over
#print axioms tonesChroma_holds
end Go.Proofs.Ytibgjklfbfahfaa
