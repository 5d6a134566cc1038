/- Adler-32 of any bytes, and the sum that goes on from any other one: for every list of bytes and every number, no condition. -/
import Derived.Test.YthkhibhaejbgbaaSe
import Derived.Test.YthkhibhaejbgbaaO
import Derived.Deep.CondSized
namespace Go.Proofs.Ythkhibhaejbgbaa
open Go.ChangeShapes Go.WideShapes Go.ChangeAt Go.RowKit
namespace SumsAdler

set_option maxHeartbeats 1000000 in
set_option maxRecDepth 100000 in
theorem walk (A : Option Addr) (c : Nat) (l : List UInt8) (s0 : Int) (w : World) (hbs : Bs w w.heap.size A l) (hl : l.length ≤ 140737488355328) (hs0 : 0 ≤ s0 ∧ s0 ≤ 4294967295) :
    Calls Try.prog 4 #[.slice A l.length c, .int .u32 s0] w fun e w' => e = .returned (.bool true) ∧ Below w.heap.size w w' := by
  have hm : l.length ≤ maxLen := by unfold maxLen; omega
  obtain ⟨s, hs, hs1⟩ : ∃ s : Nat, s0 = (s : Int) ∧ s < 4294967296 := ⟨s0.toNat, by omega, by omega⟩
  subst hs
  clear hs0
  go_enter Try.func4, Try.ntmps4
  go_wp2_with fail
  refine (wakes_any w).mono ?_
  rintro e w1 ⟨rfl, hb1⟩
  have b1 := hbs.below hb1
  go_wp2_with fail
  refine (own_any A c l _ w1 b1 hb1.size (by omega)).mono ?_
  rintro e w2 ⟨A2, c2, rfl, o2, hb2⟩
  have hb2' := hb1.trans (hb2.mono hb1.size)
  go_wp2_with fail
  refine (adler_any A2 c2 l _ w2 (Bs.of_own o2) hm).mono ?_
  rintro e w3 ⟨rfl, hw3⟩
  obtain rfl := hw3
  go_wp2_with fail
  refine (refAdler_any A c l w.heap.size w2 (hbs.below hb2') hm).mono ?_
  rintro e w4 ⟨rfl, hw4⟩
  obtain rfl := hw4
  go_wp2_with fail
  refine (own_any A c l _ w2 (hbs.below hb2') hb2'.size (by omega)).mono ?_
  rintro e w5 ⟨A5, c5, rfl, o5, hb5⟩
  have hb5' := hb2'.trans (hb5.mono hb2'.size)
  go_wp2_with fail
  refine (adlerOn_any s A5 c5 l _ w5 (Bs.of_own o5) hs1 hm).mono ?_
  rintro e w6 ⟨rfl, hw6⟩
  obtain rfl := hw6
  go_wp2_with fail
  refine (refAdlerOn_any s A c l w.heap.size w5 (hbs.below hb5') hs1 hm).mono ?_
  rintro e w7 ⟨rfl, hw7⟩
  obtain rfl := hw7
  go_wp2_with fail
  go_ret
  exact ⟨ret_bool (by simp), hb5'⟩

set_option maxRecDepth 100000 in
theorem lifted (os : Os) (started : os.Started) (H : Type) (enc : TypeId × Value → H) :
    ReturnsInHanded {} Try.checked os 4 .any (Rows.sumsAdlerSpec.pre6 enc Try.prog Try.f4 Rows.sumsAdlerRow.domain false) (Rows.sumsAdlerSpec.post enc Try.prog Try.f4 false true false false) := by
  refine returnsInHanded_of_change_sized (C := Try.checked) prog_own started (by kernel_rfl) Try.func4
    (ChangeSpec.witness6 (enc := enc) (C := Try.checked) false ⟨#[], #[.slice none 0 0, .int .u32 0], []⟩ 8 (by kernel_rfl) (by kernel_rfl) (by kernel_rfl) (by kernel_rfl)) ?_
  intro W base args ds gs before hval0 hW hcnd hsz _
  have hval : ∀ (j : Nat) t v, Try.f4.params[j]? = some t → args[j]? = some v → Value.okWide Try.prog W .any base t v := hval0
  have hW' := hW
  obtain ⟨p, q, hA0, hV, rfl, hfz, hnd⟩ := hW
  have hA : DataW.TrodAll enc Try.prog W 0 (fun _ => true) true Try.f4.params.toList args.toList ds p := hA0
  rw [Try.params4] at hA hval
  obtain ⟨v0, vs0, d0, ds0, p0, q0, hargs, rfl, rfl, h0, r0⟩ := trodAll_cons hA
  obtain ⟨v1, vs1, d1, ds1, p1, q1, rfl, rfl, rfl, h1, r1⟩ := trodAll_cons r0
  obtain ⟨rfl, rfl, rfl⟩ := trodAll_nil r1
  obtain rfl : args = #[v0, v1] := by cases args; simp_all
  obtain ⟨rfl, rfl⟩ := trodVars_none hV
  obtain ⟨A0, l0, c0, rfl, hb0, hd0⟩ := open_bytes (hval 0 22 v0 rfl rfl) h0
  obtain ⟨a1, rfl, rfl, rfl, w1⟩ := open_int Try.underlying23 (hval 1 23 v1 rfl rfl) h1
  have hl0 : l0.length ≤ 140737488355328 := by
    rcases hd0 with ⟨_, rfl⟩ | ⟨e, s, rfl, hle⟩
    · simp
    · have this : (e.length + s.length) * Try.prog.bytesOf 5 ≤ reachBytes := sized_slice hsz (j := 0) (t := 22) (e := 5) rfl rfl Try.underlying22
      rw [bytes_u8] at this
      unfold reachBytes at this
      omega
  have lt0 : ∀ x ∈ p0, x.block < W.heap.size := by obtain ⟨m, hm⟩ := h0; exact DataW.trod_lt m _ _ _ hm
  clear hA0 hval0
  refine (walk A0 c0 l0 a1 W hb0 hl0 (bounds_u32 w1)).mono fun e W' ⟨he, bel⟩ => ?_
  subst he
  exact ⟨_, rfl, _, _, _, [], _, [], hW', trodAll_mk1 (shut_bool Try.underlying4 _), (trodAll_cons_mk (Below.trod prog_laid (by kernel_rfl) (of_decide_eq_true (by kernel_rfl)) h0 bel lt0) (trodAll_cons_mk (shut_int Try.underlying23 w1) trodAll_mk0)), rfl, bel.frame _, fun h => by cases h⟩

theorem over : Rows.sumsAdlerRow.holds Try.pinned (OpenSpec.ofChange Rows.sumsAdlerSpec) :=
  OpenClaim.holds_of_wide 4 Try.f4 rfl rfl rfl rfl rfl rfl rfl ⟨rfl, rfl, rfl, rfl, rfl⟩ rfl rfl rfl rfl rfl (by kernel_rfl) Try.func4 (by kernel_rfl)
    (of_decide_eq_true (by kernel_rfl)) (by unfold Func.isWrapper; first | (rw [if_pos (by decide +kernel)]; kernel_rfl) | (rw [if_neg (by decide +kernel)]; exact ⟨rfl, rfl⟩))
    (fun os started H enc _ => lifted os started H enc)
end SumsAdler

theorem sumsAdler_holds : Rows.SumsAdlerSaid := SumsAdler.over
#print axioms sumsAdler_holds
end Go.Proofs.Ythkhibhaejbgbaa
