/- Samples of any depth are made and taken back by the document's rounding: for every number, every sample and every most, no condition. -/
import Derived.Test.YtibgjklfbfahfaaTmg
import Derived.Deep.CondSized
namespace Go.Proofs.Ytibgjklfbfahfaa
open Go.ChangeShapes Go.WideShapes Go.ChangeAt Go.RowKit
namespace TonesScales

theorem ret_tt {a : Bool} (h : a = true) : Ending.returned (.bool a) = .returned (.bool true) := by rw [h]
/-- What Up answers, one way for both readers. -/
def upA (v m : Int) : Int × Int := if 1 ≤ m ∧ m ≤ 65535 ∧ 0 ≤ v ∧ v ≤ m then (upN v m, 0) else (0, 2)
def downA (s m : Int) : Int × Int := if 1 ≤ m ∧ m ≤ 65535 then (downN s m, 0) else (0, 2)
theorem upR_eq {v m : Int} {w w' : World} {e : Ending} (h : UpR v m w e w') : e = .returned (.tuple #[.int .u16 (upA v m).1, .int .i64 (upA v m).2]) ∧ w' = w := by
  obtain ⟨h0, ⟨hk, rfl⟩ | ⟨hk, rfl⟩⟩ := h
  · exact ⟨by rw [show upA v m = (upN v m, 0) from if_pos hk], h0⟩
  · exact ⟨by rw [show upA v m = (0, 2) from if_neg hk], h0⟩
theorem downR_eq {s m : Int} {w w' : World} {e : Ending} (h : DownR s m w e w') : e = .returned (.tuple #[.int .i64 (downA s m).1, .int .i64 (downA s m).2]) ∧ w' = w := by
  obtain ⟨h0, ⟨hk, rfl⟩ | ⟨hk, rfl⟩⟩ := h
  · exact ⟨by rw [show downA s m = (downN s m, 0) from if_pos hk], h0⟩
  · exact ⟨by rw [show downA s m = (0, 2) from if_neg hk], h0⟩
set_option maxHeartbeats 4000000 in
set_option maxRecDepth 100000 in
theorem walk (v s m : Int) (w : World) (hv : -9223372036854775808 ≤ v ∧ v ≤ 9223372036854775807) (hs : 0 ≤ s ∧ s ≤ 65535) (hm : -9223372036854775808 ≤ m ∧ m ≤ 9223372036854775807) :
    Calls Try.prog 3 #[.int .i64 v, .int .u16 s, .int .i64 m] w fun e w' => e = .returned (.bool true) ∧ Below w.heap.size w w' := by
  go_enter Try.func3, Try.ntmps3
  go_wp2_with fail
  refine (wakes_any w).mono ?_
  rintro e w1 ⟨rfl, hb1⟩
  have HB1 := Lib.hid hb1
  clear hb1
  have HU1 := Lib.hid (fun W => (up_any v m hv hm W).mono (fun _ _ h => upR_eq h))
  have HU2 := Lib.hid (fun W => (refUp_any v m hv hm W).mono (fun _ _ h => upR_eq h))
  have HD1 := Lib.hid (fun W => (down_any s m hs W).mono (fun _ _ h => downR_eq h))
  have HD2 := Lib.hid (fun W => (refDown_any s m hs hm W).mono (fun _ _ h => downR_eq h))
  generalize (upA v m).1 = a1 at *
  generalize (upA v m).2 = a2 at *
  generalize (downA s m).1 = b1 at *
  generalize (downA s m).2 = b2 at *
  go_wp2_with fail
  refine (HU1.out w1).mono ?_
  rintro e w2 ⟨rfl, rfl⟩
  go_wp2_with fail
  refine (HU2.out w2).mono ?_
  rintro e w3 ⟨rfl, rfl⟩
  go_wp2_with fail
  refine (HD1.out w3).mono ?_
  rintro e w4 ⟨rfl, rfl⟩
  go_wp2_with fail
  refine (HD2.out w4).mono ?_
  rintro e w5 ⟨rfl, rfl⟩
  go_wp2_with fail
  go_ret
  exact ⟨ret_tt (by simp), HB1.out⟩

set_option maxRecDepth 100000 in
theorem lifted (os : Os) (started : os.Started) (H : Type) (enc : TypeId × Value → H) :
    ReturnsInHanded {} Try.checked os 3 .any (Rows.tonesScalesSpec.pre6 enc Try.prog Try.f3 Rows.tonesScalesRow.domain false) (Rows.tonesScalesSpec.post enc Try.prog Try.f3 false true false false) := by
  refine returnsInHanded_of_change (C := Try.checked) prog_own started (by kernel_rfl) Try.func3
    (ChangeSpec.witness6 (enc := enc) (C := Try.checked) false ⟨#[], #[.int .i64 0, .int .u16 0, .int .i64 0], []⟩ 8 (by kernel_rfl) (by kernel_rfl) (by kernel_rfl) (by kernel_rfl)) ?_
  intro W base args ds gs before hval0 hW hcnd _
  have hval : ∀ (j : Nat) t v, Try.f3.params[j]? = some t → args[j]? = some v → Value.okWide Try.prog W .any base t v := hval0
  have hW' := hW
  obtain ⟨p, q, hA0, hV, rfl, hfz, hnd⟩ := hW
  have hA : DataW.TrodAll enc Try.prog W 0 (fun _ => true) true Try.f3.params.toList args.toList ds p := hA0
  rw [Try.params3] at hA hval
  obtain ⟨v0, vs0, d0, ds0, p0, q0, hargs, rfl, rfl, h0, r0⟩ := trodAll_cons hA
  obtain ⟨v1, vs1, d1, ds1, p1, q1, rfl, rfl, rfl, h1, r1⟩ := trodAll_cons r0
  obtain ⟨v2, vs2, d2, ds2, p2, q2, rfl, rfl, rfl, h2, r2⟩ := trodAll_cons r1
  obtain ⟨rfl, rfl, rfl⟩ := trodAll_nil r2
  obtain rfl : args = #[v0, v1, v2] := by cases args; simp_all
  obtain ⟨rfl, rfl⟩ := trodVars_none hV
  obtain ⟨a0, rfl, rfl, rfl, w0⟩ := open_int Try.underlying3 (hval 0 3 v0 rfl rfl) h0
  obtain ⟨a1, rfl, rfl, rfl, w1⟩ := open_int Try.underlying22 (hval 1 22 v1 rfl rfl) h1
  obtain ⟨a2, rfl, rfl, rfl, w2⟩ := open_int Try.underlying3 (hval 2 3 v2 rfl rfl) h2
  clear hA0 hval0
  refine (walk a0 a1 a2 W (bounds_i64 w0) (bounds_u16 w1) (bounds_i64 w2)).mono fun e W' ⟨he, bel⟩ => ?_
  subst he
  exact ⟨_, rfl, _, _, _, [], _, [], hW', trodAll_mk1 (shut_bool Try.underlying4 _), (trodAll_cons_mk (shut_int Try.underlying3 w0) (trodAll_cons_mk (shut_int Try.underlying22 w1) (trodAll_cons_mk (shut_int Try.underlying3 w2) trodAll_mk0))), rfl, bel.frame _, fun h => by cases h⟩

theorem over : Rows.tonesScalesRow.holds Try.pinned (OpenSpec.ofChange Rows.tonesScalesSpec) :=
  OpenClaim.holds_of_wide 3 Try.f3 rfl rfl rfl rfl rfl rfl rfl ⟨rfl, rfl, rfl, rfl, rfl⟩ rfl rfl rfl rfl rfl (by kernel_rfl) Try.func3 (by kernel_rfl)
    (of_decide_eq_true (by kernel_rfl)) (by unfold Func.isWrapper; first | (rw [if_pos (by decide +kernel)]; kernel_rfl) | (rw [if_neg (by decide +kernel)]; exact ⟨rfl, rfl⟩))
    (fun os started H enc _ => lifted os started H enc)
end TonesScales

theorem tonesScales_holds : Rows.TonesScalesSaid := TonesScales.over
#print axioms tonesScales_holds
end Go.Proofs.Ytibgjklfbfahfaa
