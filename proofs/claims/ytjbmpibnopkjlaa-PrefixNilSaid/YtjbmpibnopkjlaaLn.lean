/- Next without a decoder or without a reader answers the document's fault, and New answers no decoder with a fault, for every list of lengths. -/
import Derived.Test.YtjbmpibnopkjlaaWk
import Derived.Deep.CondSized
namespace Go.Proofs.Ytjbmpibnopkjlaa
open Go.ChangeShapes Go.WideShapes Go.ChangeAt Go.RowKit
namespace PrefixNil

set_option maxHeartbeats 2000000 in
set_option maxRecDepth 100000 in
theorem walk (A : Option Addr) (c : Nat) (l : List Int) (w : World) (hbs : Is w w.heap.size A l) (_ : ∀ x ∈ l, -9223372036854775808 ≤ x ∧ x ≤ 9223372036854775807) (hl : l.length ≤ 17592186043904) :
    Calls Try.prog 9 #[.slice A l.length c] w fun e w' => e = .returned (.bool true) ∧ Below w.heap.size w w' := by
  go_enter Try.func9, Try.ntmps9
  go_wp2_with fail
  refine (wakes_any w).mono ?_
  rintro e w1 ⟨rfl, hb1⟩
  have hb2 := hb1.alloc hb1.size (.cells (bytesV [1]).toArray 5)
  go_wp2_with fail
  refine (newReader_any (some ⟨w1.heap.size, 0, none⟩) 1 [1] true (w1.heap.size + 1) _ (bs_lit w1 5 [1] _ (by omega)) (by simp) (by simp)).mono ?_
  rintro e w3 ⟨gr, A3, c3, rfl, _, hb3⟩
  have hb3' := hb2.trans (hb3.mono hb2.size)
  clear hb2 hb3
  go_wp2_with fail
  refine (next_nil _ none (some ⟨gr, 0, none⟩) rfl (.inl rfl) w3).mono ?_
  rintro e w4 ⟨rfl, hw4⟩
  have hb4 : Below w.heap.size w w4 := by rw [← hw4]; exact hb3'
  clear hw4 hb3'
  go_wp2_with fail
  refine (ownI_n A c l.length l rfl _ w4 (Vs.below hbs hb4) hb4.size (by omega)).mono ?_
  rintro e w5 ⟨A5, c5, rfl, o5, hb5⟩
  have hb5' := hb4.trans (hb5.mono hb4.size)
  go_wp2_with fail
  refine (new_any A5 c5 l w5 (Vs.of_own o5) (by omega)).mono ?_
  intro e w6 hN
  unfold NewRes at hN
  by_cases h0 : codesErr l = 0
  · rw [if_pos h0] at hN
    obtain ⟨gd, rfl, _, hb6⟩ := hN
    have HB6 := Lib.hid (hb5'.trans (hb6.mono hb5'.size))
    clear h0 hb6 hb5' hb5 hb4
    go_wp2_with fail
    refine (next_nil _ (some ⟨gd, 0, none⟩) none rfl (.inr rfl) w6).mono ?_
    rintro e w7 ⟨rfl, hw7⟩
    have HB7 : Hid (Below w.heap.size w w7) := Lib.hid (by rw [← hw7]; exact HB6.out)
    clear hw7
    go_wp2_with fail
    go_ret
    exact ⟨rfl, HB7.out⟩
  · rw [if_neg h0] at hN
    obtain ⟨rfl, hb6⟩ := hN
    have HB6 := Lib.hid (hb5'.trans (hb6.mono hb5'.size))
    have d0 : (codesErr l != 0) = true := by simp [h0]
    clear hb6 hb5' hb5 hb4 h0
    generalize codesErr l = ee at *
    go_wp2_with fail
    go_ret
    exact ⟨rfl, HB6.out⟩

set_option maxRecDepth 100000 in
theorem lifted (os : Os) (started : os.Started) (H : Type) (enc : TypeId × Value → H) :
    ReturnsInHanded {} Try.checked os 9 .any (Rows.prefixNilSpec.pre6 enc Try.prog Try.f9 Rows.prefixNilRow.domain false) (Rows.prefixNilSpec.post enc Try.prog Try.f9 false true false false) := by
  refine returnsInHanded_of_change_sized (C := Try.checked) prog_own started (by kernel_rfl) Try.func9
    (ChangeSpec.witness6 (enc := enc) (C := Try.checked) false ⟨#[], #[.slice none 0 0], []⟩ 8 (by kernel_rfl) (by kernel_rfl) (by kernel_rfl) (by kernel_rfl)) ?_
  intro W base args ds gs before hval0 hW hcnd hsz _
  have hval : ∀ (j : Nat) t v, Try.f9.params[j]? = some t → args[j]? = some v → Value.okWide Try.prog W .any base t v := hval0
  have hW' := hW
  obtain ⟨p, q, hA0, hV, rfl, hfz, hnd⟩ := hW
  have hA : DataW.TrodAll enc Try.prog W 0 (fun _ => true) true Try.f9.params.toList args.toList ds p := hA0
  rw [Try.params9] at hA hval
  obtain ⟨v0, vs0, d0, ds0, p0, q0, hargs, rfl, rfl, h0, r0⟩ := trodAll_cons hA
  obtain ⟨rfl, rfl, rfl⟩ := trodAll_nil r0
  obtain rfl : args = #[v0] := by cases args; simp_all
  obtain ⟨rfl, rfl⟩ := trodVars_none hV
  obtain ⟨A0, l0, c0, rfl, hb0, hk0, hd0⟩ := open_numbers (hval 0 22 v0 rfl rfl) h0
  have hl0 : l0.length ≤ 17592186043904 := by
    rcases hd0 with ⟨_, rfl⟩ | ⟨e, s, rfl, hle⟩
    · simp
    · have this : (e.length + s.length) * Try.prog.bytesOf 3 ≤ reachBytes := sized_slice hsz (j := 0) (t := 22) (e := 3) rfl rfl Try.underlying22
      rw [bytes_int] at this
      unfold reachBytes at this
      omega
  have lt0 : ∀ x ∈ p0, x.block < W.heap.size := by obtain ⟨m, hm⟩ := h0; exact DataW.trod_lt m _ _ _ hm
  clear hA0 hval0
  refine (walk A0 c0 l0 W hb0 hk0 hl0).mono fun e W' ⟨he, bel⟩ => ?_
  subst he
  exact ⟨_, rfl, _, _, _, [], _, [], hW', trodAll_mk1 (shut_bool Try.underlying4 _), (trodAll_cons_mk (Below.trod prog_laid (by kernel_rfl) (of_decide_eq_true (by kernel_rfl)) h0 bel lt0) trodAll_mk0), rfl, bel.frame _, fun h => by cases h⟩

theorem over : Rows.prefixNilRow.holds Try.pinned (OpenSpec.ofChange Rows.prefixNilSpec) :=
  OpenClaim.holds_of_wide 9 Try.f9 rfl rfl rfl rfl rfl rfl rfl ⟨rfl, rfl, rfl, rfl, rfl⟩ rfl rfl rfl rfl rfl (by kernel_rfl) Try.func9 (by kernel_rfl)
    (of_decide_eq_true (by kernel_rfl)) (by unfold Func.isWrapper; first | (rw [if_pos (by decide +kernel)]; kernel_rfl) | (rw [if_neg (by decide +kernel)]; exact ⟨rfl, rfl⟩))
    (fun os started H enc _ => lifted os started H enc)
end PrefixNil

theorem prefixNil_holds : Rows.PrefixNilSaid := PrefixNil.over
#print axioms prefixNil_holds
end Go.Proofs.Ytjbmpibnopkjlaa
