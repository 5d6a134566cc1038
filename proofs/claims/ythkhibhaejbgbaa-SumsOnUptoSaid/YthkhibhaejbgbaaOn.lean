/- A sum of two pieces is the sum of the first, gone on with the second: for every two lists of bytes whose readings are together of bulk at most 1048576 (the second form). -/
import Derived.Test.YthkhibhaejbgbaaSe
import Derived.Test.YthkhibhaejbgbaaO
import Derived.Test.YthkhibhaejbgbaaBulk
import Derived.JoinedCond
namespace Go.Proofs.Ythkhibhaejbgbaa
open Go.ChangeShapes Go.WideShapes Go.ChangeAt Go.RowKit
namespace SumsOn

set_option maxHeartbeats 1000000 in
set_option maxRecDepth 100000 in
theorem walk (A : Option Addr) (c : Nat) (a : List UInt8) (A' : Option Addr) (c' : Nat) (b : List UInt8) (w : World) (hba : Bs w w.heap.size A a) (hla : a.length ≤ 1048576) (hbb : Bs w w.heap.size A' b) (hlb : b.length ≤ 1048576) :
    Calls Try.prog 5 #[.slice A a.length c, .slice A' b.length c'] w fun e w' => e = .returned (.bool true) ∧ Below w.heap.size w w' := by
  obtain ⟨i0, hi, hz0, hz1, hz2⟩ := info_parts info_u8
  go_enter Try.func5, Try.ntmps5
  go_wp2_with fail
  refine (wakes_any w).mono ?_
  rintro e w1 ⟨rfl, hb1⟩
  go_wp2_with fail
  refine (own_n A c a.length a rfl _ w1 (hba.below hb1) (by omega) hb1.size).mono ?_
  rintro e w2 ⟨A2, c2, rfl, o2, hb2⟩
  have k2 := hb1.trans (hb2.mono hb1.size)
  go_wp2_with (at_builtin; refine wpList_append_bs _ rfl (.tmp 9) (.tmp 10) _ rfl w1.heap.size 5 i0 Try.underlying22 hi hz0 hz1 hz2 (.slice A2 a.length c2) a.length (bytesV a) rfl o2 w.heap.size A' c' b rfl (hbb.below k2) (by omega) hb2.size ?_; intro A3 c3 w3 o3 hg3 _)
  rw [← bytesV_append] at o3
  have hs1 := hb1.size
  have k3 := k2.grown hg3 k2.size (fun g hg => by have := (o2.lt g hg).1; omega)
  have hs3 : w.heap.size ≤ w3.heap.size := k3.size
  have HL : Hid ((a ++ b).length = a.length + b.length) := Lib.hid List.length_append
  have all3 := own_bs o3
  have hlab : a.length + b.length ≤ 140737488355328 := by omega
  go_wp2_with fail
  refine (own_n A c a.length a rfl _ w3 (hba.below k3) (by omega) hs3).mono ?_
  rintro e w4 ⟨A4, c4, rfl, o4, hb4⟩
  have k4 := k3.trans (hb4.mono hs3)
  go_wp2_with fail
  refine (crc_n A4 c4 a.length a rfl _ w4 (own_bs o4) (by omega) (Nat.le_refl _)).mono ?_
  rintro e w5 ⟨rfl, hb5⟩
  have k5 := k4.trans (hb5.mono k4.size)
  have j5 : Below w3.heap.size w3 w5 := hb4.trans (hb5.mono hb4.size)
  go_wp2_with fail
  refine (own_n A' c' b.length b rfl _ w5 (hbb.below k5) (by omega) k5.size).mono ?_
  rintro e w6 ⟨A6, c6, rfl, o6, hb6⟩
  have k6 := k5.trans (hb6.mono k5.size)
  have j6 := j5.trans (hb6.mono j5.size)
  go_wp2_with fail
  refine (crcOn_n A6 c6 b.length b rfl _ w6 (own_bs o6) (by omega) (crcOn 0 a) (crcOn_lt (by omega) a) (Nat.le_refl _)).mono ?_
  rw [crcOn_append]
  rintro e w7 ⟨rfl, hb7⟩
  have k7 := k6.trans (hb7.mono k6.size)
  have j7 := j6.trans (hb7.mono j6.size)
  go_wp2_with fail
  refine (own_n A3 c3 _ (a ++ b) HL.out _ w7 (all3.below j7) hlab j7.size).mono ?_
  rintro e w8 ⟨A8, c8, rfl, o8, hb8⟩
  have k8 := k7.trans (hb8.mono k7.size)
  have j8 := j7.trans (hb8.mono j7.size)
  go_wp2_with fail
  refine (crc_n A8 c8 _ (a ++ b) HL.out _ w8 (own_bs o8) hlab (Nat.le_refl _)).mono ?_
  rintro e w9 ⟨rfl, hb9⟩
  have k9 := k8.trans (hb9.mono k8.size)
  have j9 := j8.trans (hb9.mono j8.size)
  have q1 := beq_self_eq_true (((crcOn 0 (a ++ b) : Nat) : Int))
  go_wp2_with fail
  refine (own_n A c a.length a rfl _ w9 (hba.below k9) (by omega) k9.size).mono ?_
  rintro e w10 ⟨A10, c10, rfl, o10, hb10⟩
  have k10 := k9.trans (hb10.mono k9.size)
  have j10 := j9.trans (hb10.mono j9.size)
  go_wp2_with fail
  refine (adler_n A10 c10 a.length a rfl _ w10 (own_bs o10) (by omega)).mono ?_
  rintro e w11 ⟨rfl, hw11⟩
  obtain rfl := hw11
  go_wp2_with fail
  refine (own_n A' c' b.length b rfl _ w10 (hbb.below k10) (by omega) k10.size).mono ?_
  rintro e w12 ⟨A12, c12, rfl, o12, hb12⟩
  have k12 := k10.trans (hb12.mono k10.size)
  have j12 := j10.trans (hb12.mono j10.size)
  go_wp2_with fail
  refine (adlerOn_n A12 c12 b.length b rfl _ w12 (own_bs o12) (by omega) (adOn 1 a) (adOn_lt 1 a)).mono ?_
  rw [adOn_append]
  rintro e w13 ⟨rfl, hw13⟩
  obtain rfl := hw13
  go_wp2_with fail
  refine (own_n A3 c3 _ (a ++ b) HL.out _ w12 (all3.below j12) hlab j12.size).mono ?_
  rintro e w14 ⟨A14, c14, rfl, o14, hb14⟩
  have k14 := k12.trans (hb14.mono k12.size)
  go_wp2_with fail
  refine (adler_n A14 c14 _ (a ++ b) HL.out _ w14 (own_bs o14) hlab).mono ?_
  rintro e w15 ⟨rfl, hw15⟩
  obtain rfl := hw15
  go_wp2_with fail
  go_ret
  exact ⟨ret_bool (by simp), k14⟩

theorem contract (H : Type) (enc : TypeId × Value → H) (W : World) (base : Nat) (args : Array Value) (ds gs : List (DataW H)) (before : List MemPlace)
    (hval : ∀ (j : Nat) t v, Try.f5.params[j]? = some t → args[j]? = some v → Value.okWide Try.prog W .any base t v)
    (hW : DataW.Whole enc Try.prog Try.f5.params.toList Rows.sumsOnSpec.vars false W args.toList ds gs before) (hk : Rows.uptoSmall H (ds ++ gs) = true) :
    Calls Try.prog 5 args W fun e W' => ∃ v, e = .returned v ∧ Rows.sumsOnSpec.post enc Try.prog Try.f5 false true false false W args v W' := by
  have hW' := hW
  obtain ⟨p, q, hA0, hV, rfl, hfz, hnd⟩ := hW
  have hA : DataW.TrodAll enc Try.prog W 0 (fun _ => true) true Try.f5.params.toList args.toList ds p := hA0
  rw [Try.params5] at hA hval
  obtain ⟨v0, vs0, d0, ds0, p0, q0, hargs, rfl, rfl, h0, r0⟩ := trodAll_cons hA
  obtain ⟨v1, vs1, d1, ds1, p1, q1, rfl, rfl, rfl, h1, r1⟩ := trodAll_cons r0
  obtain ⟨rfl, rfl, rfl⟩ := trodAll_nil r1
  obtain rfl : args = #[v0, v1] := by cases args; simp_all
  obtain ⟨rfl, rfl⟩ := trodVars_none hV
  obtain ⟨A0, l0, c0, rfl, hb0, hd0⟩ := open_bytes (hval 0 22 v0 rfl rfl) h0
  obtain ⟨A1, l1, c1, rfl, hb1, hd1⟩ := open_bytes (hval 1 22 v1 rfl rfl) h1
  have hl0 : l0.length ≤ 1048576 := by
    rcases hd0 with ⟨_, rfl⟩ | ⟨e, s, rfl, hle⟩
    · simp
    · have h1 := bulk_le hk
      simp only [List.cons_append, List.nil_append] at h1
      have h2 := Nat.le_trans (bulk_slice e s _) h1
      omega
  have hl1 : l1.length ≤ 1048576 := by
    rcases hd1 with ⟨_, rfl⟩ | ⟨e, s, rfl, hle⟩
    · simp
    · have h1 := bulk_le hk
      simp only [List.cons_append, List.nil_append] at h1
      replace h1 := Nat.le_trans (bulk_tail _ _) h1
      have h2 := Nat.le_trans (bulk_slice e s _) h1
      omega
  have lt0 : ∀ x ∈ p0, x.block < W.heap.size := by obtain ⟨m, hm⟩ := h0; exact DataW.trod_lt m _ _ _ hm
  have lt1 : ∀ x ∈ p1, x.block < W.heap.size := by obtain ⟨m, hm⟩ := h1; exact DataW.trod_lt m _ _ _ hm
  clear hA0
  refine (walk A0 c0 l0 A1 c1 l1 W hb0 hl0 hb1 hl1).mono fun e W' ⟨he, bel⟩ => ?_
  subst he
  exact ⟨_, rfl, _, _, _, [], _, [], hW', trodAll_mk1 (shut_bool Try.underlying4 _), (trodAll_cons_mk (Below.trod prog_laid (by kernel_rfl) (of_decide_eq_true (by kernel_rfl)) h0 bel lt0) (trodAll_cons_mk (Below.trod prog_laid (by kernel_rfl) (of_decide_eq_true (by kernel_rfl)) h1 bel lt1) trodAll_mk0)), rfl, bel.frame _, fun h => by cases h⟩

set_option maxRecDepth 100000 in
theorem lifted (os : Os) (started : os.Started) (H : Type) (enc : TypeId × Value → H) (F : Stop.Interp) :
    ReturnsInHanded {} Try.checked os 5 .any ((Rows.OpenSpec.upto Rows.sumsOnSpec).pre6 enc Try.prog Try.f5 Rows.sumsOnUptoRow.domain false) (((Rows.OpenSpec.upto Rows.sumsOnSpec).at F).post enc Try.prog Try.f5 false true false false) := by
  refine returnsInHanded_of_cond (C := Try.checked) (s := Rows.OpenSpec.upto Rows.sumsOnSpec) (k := Rows.uptoSmall) rfl prog_own started (by kernel_rfl) Try.func5
    (OpenSpec.witness (enc := enc) (C := Try.checked) (s := Rows.OpenSpec.upto Rows.sumsOnSpec) (k := Rows.uptoSmall) rfl false ⟨#[], #[.slice none 0 0, .slice none 0 0], []⟩ 8 (by kernel_rfl) (by kernel_rfl) (by kernel_rfl)
      (x := ([.nil, .nil], [], [])) (by kernel_rfl) rfl (by kernel_rfl)) ?_
  intro W base args ds gs before hval hW _ hk _
  exact contract H enc W base args ds gs before hval hW hk

theorem over : Rows.sumsOnUptoRow.holds Try.pinned (Rows.OpenSpec.upto Rows.sumsOnSpec) :=
  OpenClaim.holds_of_cond 5 Try.f5 rfl rfl rfl rfl rfl rfl rfl ⟨rfl, rfl, rfl, rfl, rfl⟩ rfl rfl rfl rfl rfl (by kernel_rfl) Try.func5 (by kernel_rfl)
    (of_decide_eq_true (by kernel_rfl)) (by unfold Func.isWrapper; first | (rw [if_pos (by decide +kernel)]; kernel_rfl) | (rw [if_neg (by decide +kernel)]; exact ⟨rfl, rfl⟩))
    (fun os started H enc _ F => lifted os started H enc F)
end SumsOn

theorem sumsOn_holds : Rows.SumsOnUptoSaid := SumsOn.over
#print axioms sumsOn_holds
end Go.Proofs.Ythkhibhaejbgbaa
