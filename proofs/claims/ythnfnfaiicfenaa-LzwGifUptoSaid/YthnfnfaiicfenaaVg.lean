/- Proved: any bytes are read as GIF's codes, or refused with the first fault that is met: for every list of bytes and every number whose readings are together of bulk at most 1048576 (the second form). -/
import Derived.Test.YthnfnfaiicfenaaVb
import Derived.Test.YthnfnfaiicfenaaSame
import Derived.Test.YthnfnfaiicfenaaUd
namespace Go.Proofs.Ythnfnfaiicfenaa
open Go.ChangeShapes Go.WideShapes Go.ChangeAt Go.RowKit
namespace LzwGif

theorem ret_tt {a : Bool} (h : a = true) : Ending.returned (.bool a) = .returned (.bool true) := by rw [h]
set_option maxHeartbeats 4000000 in
set_option maxRecDepth 100000 in
theorem walk (A : Option Addr) (c : Nat) (l : List UInt8) (size most : Int) (w : World) (hbs : Bs w w.heap.size A l) (_ : l.length ≤ c) (hl : l.length ≤ 1048576) (_ : -9223372036854775808 ≤ size ∧ size ≤ 9223372036854775807) (hm : -9223372036854775808 ≤ most ∧ most ≤ 9223372036854775807) :
    Calls Try.prog 3 #[.slice A l.length c, .int .i64 size, .int .i64 most] w fun e w' => e = .returned (.bool true) ∧ Below w.heap.size w w' := by
  obtain ⟨n, hn⟩ : ∃ n, l.length = n := ⟨_, rfl⟩
  have hl1 : n ≤ 1048576 := by omega
  have HU1 : Hid (∀ (W : World) (A' : Option Addr) (c' : Nat), Bs W W.heap.size A' l → n ≤ c' → Calls Try.prog 11 #[.slice A' n c', .int .i64 size, .int .i64 most] W (UnpackR W (gifM l size most))) := Lib.hid (fun W A' c' h hcc => gifUnpack_any W A' c' n l size most hn h (by omega))
  have HU2 : Hid (∀ W : World, Bs W W.heap.size A l → Calls Try.prog 13 #[.slice A n c, .int .i64 size, .int .i64 most] W (UnpackR W (gifM l size most))) := Lib.hid (fun W h => refGif_any W A c n l size most hn h (by omega) hm.2)
  generalize gifM l size most = X at HU1 HU2
  rw [hn] at hl ⊢
  have HN := Lib.hid hn
  have HBS := Lib.hid hbs
  clear hn hbs
  go_enter Try.func3, Try.ntmps3
  go_wp2_with fail
  refine (wakes_any w).mono ?_
  rintro e w1 ⟨rfl, hb1⟩
  have HB1 := Lib.hid hb1
  clear hb1
  go_wp2_with fail
  refine (own_n A c n l HN.out w.heap.size w1 (HBS.out.below HB1.out) (by omega) HB1.out.size).mono ?_
  rintro e w2 ⟨A2, c2, rfl, o2, hb2⟩
  have HB2 := Lib.hid (HB1.out.trans (hb2.mono HB1.out.size))
  have HO2 := Lib.hid (own_bs HN.out o2)
  have hnc : n ≤ c2 := (own_cap o2).1
  clear o2 hb2
  go_wp2_with fail
  refine (HU1.out w2 A2 c2 HO2.out hnc).mono ?_
  intro e w3 hr
  cases X with
  | error k =>
    obtain ⟨rfl, hb3⟩ := hr
    have HB3 := Lib.hid (HB2.out.trans (hb3.mono HB2.out.size))
    clear hb3
    go_wp2_with fail
    refine (HU2.out w3 ((HBS.out.below HB3.out).more HB3.out.size)).mono ?_
    rintro e w4 ⟨rfl, hb4⟩
    have HB4 := Lib.hid (HB3.out.trans (hb4.mono HB3.out.size))
    have HS : Hid (Calls Try.prog 14 #[.slice none 0 0, .slice none 0 0] w4 (fun e w' => e = .returned (.bool true) ∧ ∃ n, w' = w4.drewN n)) := Lib.hid (same_any none none 0 0 [] [] 0 w4 Bs.nil_ Bs.nil_ (by simp))
    clear hb4
    go_wp2_with fail
    refine HS.out.mono ?_
    rintro e w5 ⟨rfl, m, rfl⟩
    go_wp2_with fail
    go_ret
    exact ⟨ret_tt (by simp), below_drewN_ HB4.out m⟩
  | ok out =>
    obtain ⟨A3, c3, rfl, o3, hb3⟩ := hr
    have HB3 := Lib.hid (HB2.out.trans (hb3.mono HB2.out.size))
    have hmx := own_max o3
    have HO3 := Lib.hid (Bs.of_own o3)
    clear hb3 o3
    obtain ⟨m3, hm3⟩ : ∃ m3, out.length = m3 := ⟨_, rfl⟩
    have HM3 := Lib.hid hm3
    rw [hm3] at hmx ⊢
    clear hm3
    go_wp2_with fail
    refine (HU2.out w3 ((HBS.out.below HB3.out).more HB3.out.size)).mono ?_
    rintro e w4 ⟨A4, c4, rfl, o4, hb4⟩
    have HB4 := Lib.hid (HB3.out.trans (hb4.mono HB3.out.size))
    have HO4 := Lib.hid (Bs.of_own o4)
    have HO34 := Lib.hid ((HO3.out.below hb4).more hb4.size)
    rw [HM3.out]
    have HS : Hid (Calls Try.prog 14 #[.slice A3 m3 c3, .slice A4 m3 c4] w4 (fun e w' => e = .returned (.bool true) ∧ ∃ n, w' = w4.drewN n)) := Lib.hid (by
      have h := same_any A3 A4 c3 c4 out out w4.heap.size w4 HO34.out HO4.out (by rw [HM3.out]; exact hmx)
      rw [HM3.out] at h
      refine h.mono fun e w' hq => ⟨?_, hq.2⟩
      rw [hq.1]
      simp)
    clear o4 hb4
    go_wp2_with fail
    refine HS.out.mono ?_
    rintro e w5 ⟨rfl, m, rfl⟩
    go_wp2_with fail
    go_ret
    exact ⟨ret_tt (by simp), below_drewN_ HB4.out m⟩

set_option maxRecDepth 100000 in
theorem contract (H : Type) (enc : TypeId × Value → H) (W : World) (base : Nat) (args : Array Value) (ds gs : List (DataW H)) (before : List MemPlace)
    (hval : ∀ (j : Nat) t v, Try.f3.params[j]? = some t → args[j]? = some v → Value.okWide Try.prog W .any base t v)
    (hW : DataW.Whole enc Try.prog Try.f3.params.toList Rows.lzwGifSpec.vars false W args.toList ds gs before) (hk : Rows.uptoSmall H (ds ++ gs) = true) :
    Calls Try.prog 3 args W fun e W' => ∃ v, e = .returned v ∧ Rows.lzwGifSpec.post enc Try.prog Try.f3 false true false false W args v W' := by
  have hW' := hW
  obtain ⟨p, q, hA0, hV, rfl, hfz, hnd⟩ := hW
  have hA : DataW.TrodAll enc Try.prog W 0 (fun _ => true) true Try.f3.params.toList args.toList ds p := hA0
  rw [Try.params3] at hA hval
  obtain ⟨v0, vs0, d0, ds0, p0, q0, hargs, rfl, rfl, h0, r0⟩ := trodAll_cons hA
  obtain ⟨v1, vs1, d1, ds1, p1, q1, rfl, rfl, rfl, h1, r1⟩ := trodAll_cons r0
  obtain ⟨v2, vs2, d2, ds2, p2, q2, rfl, rfl, rfl, h2, r2⟩ := trodAll_cons r1
  obtain ⟨rfl, rfl, rfl⟩ := trodAll_nil r2
  obtain rfl : args = #[v0, v1, v2] := by cases args; simp_all
  obtain ⟨rfl, rfl⟩ := trodVars_none hV
  obtain ⟨A0, l0, c0, rfl, hb0, hcp0, hd0⟩ := open_bytes (hval 0 22 v0 rfl rfl) h0
  obtain ⟨a1, rfl, rfl, rfl, w1⟩ := open_int Try.underlying3 (hval 1 3 v1 rfl rfl) h1
  obtain ⟨a2, rfl, rfl, rfl, w2⟩ := open_int Try.underlying3 (hval 2 3 v2 rfl rfl) h2
  have hl0 : l0.length ≤ 1048576 := by
    rcases hd0 with ⟨_, rfl⟩ | ⟨e, s, rfl, hle⟩
    · simp
    · have h1 := bulk_le hk
      simp only [List.cons_append, List.nil_append] at h1
      have h2 := Nat.le_trans (bulk_slice e s _) h1
      omega
  have lt0 : ∀ x ∈ p0, x.block < W.heap.size := by obtain ⟨m, hm⟩ := h0; exact DataW.trod_lt m _ _ _ hm
  clear hA0
  refine (walk A0 c0 l0 a1 a2 W hb0 hcp0 hl0 (bounds_i64 w1) (bounds_i64 w2)).mono fun e W' ⟨he, bel⟩ => ?_
  subst he
  exact ⟨_, rfl, _, _, _, [], _, [], hW', trodAll_mk1 (shut_bool Try.underlying4 _), (trodAll_cons_mk (Below.trod prog_laid (by kernel_rfl) (of_decide_eq_true (by kernel_rfl)) h0 bel lt0) (trodAll_cons_mk (shut_int Try.underlying3 w1) (trodAll_cons_mk (shut_int Try.underlying3 w2) trodAll_mk0))), rfl, bel.frame _, fun h => by cases h⟩

set_option maxRecDepth 100000 in
theorem lifted (os : Os) (started : os.Started) (H : Type) (enc : TypeId × Value → H) (F : Stop.Interp) :
    ReturnsInHanded {} Try.checked os 3 .any ((Rows.OpenSpec.upto Rows.lzwGifSpec).pre6 enc Try.prog Try.f3 Rows.lzwGifUptoRow.domain false) (((Rows.OpenSpec.upto Rows.lzwGifSpec).at F).post enc Try.prog Try.f3 false true false false) := by
  refine returnsInHanded_of_cond (C := Try.checked) (s := Rows.OpenSpec.upto Rows.lzwGifSpec) (k := Rows.uptoSmall) rfl prog_own started (by kernel_rfl) Try.func3
    (OpenSpec.witness (enc := enc) (C := Try.checked) (s := Rows.OpenSpec.upto Rows.lzwGifSpec) (k := Rows.uptoSmall) rfl false ⟨#[], #[.slice none 0 0, .int .i64 0, .int .i64 0], []⟩ 8 (by kernel_rfl) (by kernel_rfl) (by kernel_rfl)
      (x := ([.nil, .lit (.int .i64 0), .lit (.int .i64 0)], [], [])) (by kernel_rfl) rfl (by kernel_rfl)) ?_
  intro W base args ds gs before hval hW _ hk _
  exact contract H enc W base args ds gs before hval hW hk

theorem over : Rows.lzwGifUptoRow.holds Try.pinned (Rows.OpenSpec.upto Rows.lzwGifSpec) :=
  OpenClaim.holds_of_cond 3 Try.f3 rfl rfl rfl rfl rfl rfl rfl ⟨rfl, rfl, rfl, rfl, rfl⟩ rfl rfl rfl rfl rfl (by kernel_rfl) Try.func3 (by kernel_rfl)
    (of_decide_eq_true (by kernel_rfl)) (by unfold Func.isWrapper; first | (rw [if_pos (by decide +kernel)]; kernel_rfl) | (rw [if_neg (by decide +kernel)]; exact ⟨rfl, rfl⟩))
    (fun os started H enc _ F => lifted os started H enc F)
end LzwGif

theorem lzwGif_holds : Rows.LzwGifUptoSaid := LzwGif.over
#print axioms lzwGif_holds
end Go.Proofs.Ythnfnfaiicfenaa
