/- A pixel's grey, and a grey's own: for every colour, no condition. -/
import Derived.Test.YtibgjklfbfahfaaTmg
import Derived.Test.YtibgjklfbfahfaaTmo
import Derived.Deep.RegionHeld3
namespace Go.Proofs.Ytibgjklfbfahfaa
open Go.ChangeShapes Go.WideShapes Go.ChangeAt Go.RowKit
namespace TonesLuma

theorem ret_tt {a : Bool} (h : a = true) : Ending.returned (.bool a) = .returned (.bool true) := by rw [h]
set_option maxHeartbeats 4000000 in
set_option maxRecDepth 100000 in
theorem walk (c : Col) (w : World) :
    Calls Try.prog 5 #[.agg #[.int .u16 c.r, .int .u16 c.g, .int .u16 c.b, .int .u16 c.a]] w fun e w' => e = .returned (.bool true) ∧ Below w.heap.size w w' := by
  obtain ⟨r, g, b, a, hr, hg, hb, ha⟩ := c
  simp only
  go_enter Try.func5, Try.ntmps5
  go_wp2_with fail
  have hb0 := (Below.refl w.heap.size w).alloc (Nat.le_refl _) (.cells #[.int .u16 r, .int .u16 g, .int .u16 b, .int .u16 a] 36)
  have hx := Blk.new w 36 #[.int .u16 r, .int .u16 g, .int .u16 b, .int .u16 a]
  generalize w.alloc (.cells #[.int .u16 r, .int .u16 g, .int .u16 b, .int .u16 a] 36) = W0 at *
  refine (wakes_any W0).mono ?_
  rintro e w1 ⟨rfl, hb1⟩
  have hx1 := hx.upd (Upd.of_fresh hb1) id
  have x0 := hx1.cell 0; have x1 := hx1.cell 1; have x2 := hx1.cell 2; have x3 := hx1.cell 3
  simp only [List.getElem?_toArray, List.getElem?_cons_zero, List.getElem?_cons_succ] at x0 x1 x2 x3
  have HX := Lib.hid hx1
  have HB1 := Lib.hid (hb0.trans (hb1.mono hb0.size))
  have HE : Hid (lumS g g g = g) := Lib.hid (by unfold lumS; omega)
  clear hb0 hx hb1 hx1
  go_wp2_with fail
  have hsz : w.heap.size < w1.heap.size := HX.out.lt
  go_region_held3 (fun w' => w'.cell? ⟨w.heap.size, 0, none⟩ = some (.int .u16 r) ∧ w'.cell? ⟨w.heap.size, 1, none⟩ = some (.int .u16 g) ∧ w'.cell? ⟨w.heap.size, 2, none⟩ = some (.int .u16 b) ∧ w'.cell? ⟨w.heap.size, 3, none⟩ = some (.int .u16 a))
    (go_keep)
    ((first
      | (go_at_call 14; refine (luma_any _ _ _ _ (by assumption) (by assumption) (by assumption) _).mono ?_; rintro e w3 ⟨rfl, hb3⟩; have hbb : Below w1.heap.size w1 w3 := (by first | exact of_drewN (n := 1) hb3 | exact hbb.trans (hb3.mono hbb.size)); have kx0 : w3.cell? ⟨w.heap.size, 0, none⟩ = some (.int .u16 r) := (hbb.cell (p := ⟨w.heap.size, 0, none⟩) hsz).trans x0; have kx1 : w3.cell? ⟨w.heap.size, 1, none⟩ = some (.int .u16 g) := (hbb.cell (p := ⟨w.heap.size, 1, none⟩) hsz).trans x1; have kx2 : w3.cell? ⟨w.heap.size, 2, none⟩ = some (.int .u16 b) := (hbb.cell (p := ⟨w.heap.size, 2, none⟩) hsz).trans x2; have kx3 : w3.cell? ⟨w.heap.size, 3, none⟩ = some (.int .u16 a) := (hbb.cell (p := ⟨w.heap.size, 3, none⟩) hsz).trans x3; clear hb3)
      | (go_at_call 15; refine (refLuma_any _ _ _ _ (by assumption) (by assumption) (by assumption) _).mono ?_; rintro e w3 ⟨rfl, hb3⟩; have hbb : Below w1.heap.size w1 w3 := (by first | exact of_drewN (n := 1) hb3 | exact hbb.trans (hb3.mono hbb.size)); have kx0 : w3.cell? ⟨w.heap.size, 0, none⟩ = some (.int .u16 r) := (hbb.cell (p := ⟨w.heap.size, 0, none⟩) hsz).trans x0; have kx1 : w3.cell? ⟨w.heap.size, 1, none⟩ = some (.int .u16 g) := (hbb.cell (p := ⟨w.heap.size, 1, none⟩) hsz).trans x1; have kx2 : w3.cell? ⟨w.heap.size, 2, none⟩ = some (.int .u16 b) := (hbb.cell (p := ⟨w.heap.size, 2, none⟩) hsz).trans x2; have kx3 : w3.cell? ⟨w.heap.size, 3, none⟩ = some (.int .u16 a) := (hbb.cell (p := ⟨w.heap.size, 3, none⟩) hsz).trans x3; clear hb3)))
  have HBB := Lib.hid (HB1.out.trans (hbb.mono (Nat.le_of_lt hsz)))
  go_wp2_with fail
  go_ret
  exact ⟨ret_tt (by simp [HE.out]), HBB.out⟩

set_option maxRecDepth 100000 in
theorem lifted (os : Os) (started : os.Started) (H : Type) (enc : TypeId × Value → H) :
    ReturnsInHanded {} Try.checked os 5 .any (Rows.tonesLumaSpec.pre6 enc Try.prog Try.f5 Rows.tonesLumaRow.domain false) (Rows.tonesLumaSpec.post enc Try.prog Try.f5 false true false false) := by
  refine returnsInHanded_of_change (C := Try.checked) prog_own started (by kernel_rfl) Try.func5
    (ChangeSpec.witness6 (enc := enc) (C := Try.checked) false ⟨#[], #[.agg #[.int .u16 0, .int .u16 0, .int .u16 0, .int .u16 0]], []⟩ 8 (by kernel_rfl) (by kernel_rfl) (by kernel_rfl) (by kernel_rfl)) ?_
  intro W base args ds gs before hval0 hW hcnd _
  have hval : ∀ (j : Nat) t v, Try.f5.params[j]? = some t → args[j]? = some v → Value.okWide Try.prog W .any base t v := hval0
  have hW' := hW
  obtain ⟨p, q, hA0, hV, rfl, hfz, hnd⟩ := hW
  have hA : DataW.TrodAll enc Try.prog W 0 (fun _ => true) true Try.f5.params.toList args.toList ds p := hA0
  rw [Try.params5] at hA hval
  obtain ⟨v0, vs0, d0, ds0, p0, q0, hargs, rfl, rfl, h0, r0⟩ := trodAll_cons hA
  obtain ⟨rfl, rfl, rfl⟩ := trodAll_nil r0
  obtain rfl : args = #[v0] := by cases args; simp_all
  obtain ⟨rfl, rfl⟩ := trodVars_none hV
  obtain ⟨x0, rfl⟩ := open_color (hval 0 36 v0 rfl rfl) h0
  have lt0 : ∀ x ∈ p0, x.block < W.heap.size := by obtain ⟨m, hm⟩ := h0; exact DataW.trod_lt m _ _ _ hm
  clear hA0 hval0
  refine (walk x0 W ).mono fun e W' ⟨he, bel⟩ => ?_
  subst he
  exact ⟨_, rfl, _, _, _, [], _, [], hW', trodAll_mk1 (shut_bool Try.underlying4 _), (trodAll_cons_mk (Below.trod prog_laid (by kernel_rfl) (of_decide_eq_true (by kernel_rfl)) h0 bel lt0) trodAll_mk0), rfl, bel.frame _, fun h => by cases h⟩

theorem over : Rows.tonesLumaRow.holds Try.pinned (OpenSpec.ofChange Rows.tonesLumaSpec) :=
  OpenClaim.holds_of_wide 5 Try.f5 rfl rfl rfl rfl rfl rfl rfl ⟨rfl, rfl, rfl, rfl, rfl⟩ rfl rfl rfl rfl rfl (by kernel_rfl) Try.func5 (by kernel_rfl)
    (of_decide_eq_true (by kernel_rfl)) (by unfold Func.isWrapper; first | (rw [if_pos (by decide +kernel)]; kernel_rfl) | (rw [if_neg (by decide +kernel)]; exact ⟨rfl, rfl⟩))
    (fun os started H enc _ => lifted os started H enc)
end TonesLuma

theorem tonesLuma_holds : Rows.TonesLumaSaid := TonesLuma.over
#print axioms tonesLuma_holds
end Go.Proofs.Ytibgjklfbfahfaa
