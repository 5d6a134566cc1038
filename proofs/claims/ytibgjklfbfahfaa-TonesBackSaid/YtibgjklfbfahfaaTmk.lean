/- What is made of a number of a depth is that number again; greater numbers make greater samples: for every two numbers and every most, no condition. -/
import Derived.Test.YtibgjklfbfahfaaTmg
import Derived.Test.YtibgjklfbfahfaaTmo
import Derived.Deep.CondSized
namespace Go.Proofs.Ytibgjklfbfahfaa
open Go.ChangeShapes Go.WideShapes Go.ChangeAt Go.RowKit
namespace TonesBack

theorem ret_tt {a : Bool} (h : a = true) : Ending.returned (.bool a) = .returned (.bool true) := by rw [h]
theorem beq_lt {v w a b : Int} (h : v < w ↔ a < b) : (decide (v < w) == decide (a < b)) = true := by
  have e : decide (v < w) = decide (a < b) := decide_eq_decide.2 h
  rw [e]
  exact beq_self_eq_true _
set_option maxHeartbeats 4000000 in
set_option maxRecDepth 100000 in
theorem walk (v u m : Int) (w : World) (hv : -9223372036854775808 ≤ v ∧ v ≤ 9223372036854775807) (hu : -9223372036854775808 ≤ u ∧ u ≤ 9223372036854775807) (hm : -9223372036854775808 ≤ m ∧ m ≤ 9223372036854775807) :
    Calls Try.prog 4 #[.int .i64 v, .int .i64 u, .int .i64 m] w fun e w' => e = .returned (.bool true) ∧ Below w.heap.size w w' := by
  go_enter Try.func4, Try.ntmps4
  go_wp2_with fail
  refine (wakes_any w).mono ?_
  rintro e w1 ⟨rfl, hb1⟩
  have HB1 := Lib.hid hb1
  clear hb1
  go_wp2_with fail
  refine (up_any v m hv hm w1).mono ?_
  rintro e w2 ⟨rfl, ⟨hk, rfl⟩ | ⟨hk, rfl⟩⟩
  · have HA := Lib.hid (upN_bd hk.2.2.1 hk.2.2.2 hk.1)
    have HD := Lib.hid (down_up (v := v) hk.1 hk.2.1)
    have HL := Lib.hid (up_lt (v := v) (w := u) hk.1 hk.2.1)
    have HK := Lib.hid hk
    clear hk
    generalize upN v m = a at *
    go_wp2_with fail
    refine (up_any u m hu hm w2).mono ?_
    rintro e w3 ⟨rfl, ⟨hk, rfl⟩ | ⟨hk, rfl⟩⟩
    · clear hk
      generalize upN u m = b at *
      go_wp2_with fail
      refine (down_any a m HA.out w3).mono ?_
      rintro e w4 ⟨rfl, ⟨hk, rfl⟩ | ⟨hk, rfl⟩⟩
      · clear hk
        rw [HD.out]
        go_wp2_with fail
        go_ret
        exact ⟨ret_tt (by simp [beq_lt HL.out]), HB1.out⟩
      · exact absurd ⟨HK.out.1, HK.out.2.1⟩ hk
    · clear hk
      go_wp2_with fail
      go_ret
      exact ⟨rfl, HB1.out⟩
  · clear hk
    go_wp2_with fail
    refine (up_any u m hu hm w2).mono ?_
    rintro e w3 ⟨rfl, ⟨hk, rfl⟩ | ⟨hk, rfl⟩⟩
    · clear hk
      go_wp2_with fail
      go_ret
      exact ⟨rfl, HB1.out⟩
    · clear hk
      go_wp2_with fail
      go_ret
      exact ⟨rfl, HB1.out⟩

set_option maxRecDepth 100000 in
theorem lifted (os : Os) (started : os.Started) (H : Type) (enc : TypeId × Value → H) :
    ReturnsInHanded {} Try.checked os 4 .any (Rows.tonesBackSpec.pre6 enc Try.prog Try.f4 Rows.tonesBackRow.domain false) (Rows.tonesBackSpec.post enc Try.prog Try.f4 false true false false) := by
  refine returnsInHanded_of_change (C := Try.checked) prog_own started (by kernel_rfl) Try.func4
    (ChangeSpec.witness6 (enc := enc) (C := Try.checked) false ⟨#[], #[.int .i64 0, .int .i64 0, .int .i64 0], []⟩ 8 (by kernel_rfl) (by kernel_rfl) (by kernel_rfl) (by kernel_rfl)) ?_
  intro W base args ds gs before hval0 hW hcnd _
  have hval : ∀ (j : Nat) t v, Try.f4.params[j]? = some t → args[j]? = some v → Value.okWide Try.prog W .any base t v := hval0
  have hW' := hW
  obtain ⟨p, q, hA0, hV, rfl, hfz, hnd⟩ := hW
  have hA : DataW.TrodAll enc Try.prog W 0 (fun _ => true) true Try.f4.params.toList args.toList ds p := hA0
  rw [Try.params4] at hA hval
  obtain ⟨v0, vs0, d0, ds0, p0, q0, hargs, rfl, rfl, h0, r0⟩ := trodAll_cons hA
  obtain ⟨v1, vs1, d1, ds1, p1, q1, rfl, rfl, rfl, h1, r1⟩ := trodAll_cons r0
  obtain ⟨v2, vs2, d2, ds2, p2, q2, rfl, rfl, rfl, h2, r2⟩ := trodAll_cons r1
  obtain ⟨rfl, rfl, rfl⟩ := trodAll_nil r2
  obtain rfl : args = #[v0, v1, v2] := by cases args; simp_all
  obtain ⟨rfl, rfl⟩ := trodVars_none hV
  obtain ⟨a0, rfl, rfl, rfl, w0⟩ := open_int Try.underlying3 (hval 0 3 v0 rfl rfl) h0
  obtain ⟨a1, rfl, rfl, rfl, w1⟩ := open_int Try.underlying3 (hval 1 3 v1 rfl rfl) h1
  obtain ⟨a2, rfl, rfl, rfl, w2⟩ := open_int Try.underlying3 (hval 2 3 v2 rfl rfl) h2
  clear hA0 hval0
  refine (walk a0 a1 a2 W (bounds_i64 w0) (bounds_i64 w1) (bounds_i64 w2)).mono fun e W' ⟨he, bel⟩ => ?_
  subst he
  exact ⟨_, rfl, _, _, _, [], _, [], hW', trodAll_mk1 (shut_bool Try.underlying4 _), (trodAll_cons_mk (shut_int Try.underlying3 w0) (trodAll_cons_mk (shut_int Try.underlying3 w1) (trodAll_cons_mk (shut_int Try.underlying3 w2) trodAll_mk0))), rfl, bel.frame _, fun h => by cases h⟩

theorem over : Rows.tonesBackRow.holds Try.pinned (OpenSpec.ofChange Rows.tonesBackSpec) :=
  OpenClaim.holds_of_wide 4 Try.f4 rfl rfl rfl rfl rfl rfl rfl ⟨rfl, rfl, rfl, rfl, rfl⟩ rfl rfl rfl rfl rfl (by kernel_rfl) Try.func4 (by kernel_rfl)
    (of_decide_eq_true (by kernel_rfl)) (by unfold Func.isWrapper; first | (rw [if_pos (by decide +kernel)]; kernel_rfl) | (rw [if_neg (by decide +kernel)]; exact ⟨rfl, rfl⟩))
    (fun os started H enc _ => lifted os started H enc)
end TonesBack

theorem tonesBack_holds : Rows.TonesBackSaid := TonesBack.over
#print axioms tonesBack_holds
end Go.Proofs.Ytibgjklfbfahfaa
