/- Each colour of an image once, in the order in which they are met, is told as the document tells it: for every image, good or not. -/
import Derived.Test.YtpioocnojpocmaaQs
import Derived.Deep.CondSized
namespace Go.Proofs.Ytpioocnojpocmaa
open Go.ChangeShapes Go.WideShapes Go.ChangeAt Go.RowKit
namespace RasterDistinct

theorem belowStep {w w1 w2 : World} (h : Below w.heap.size w w1) (hb : Below w1.heap.size w1 w2) : Below w.heap.size w w2 := h.trans (hb.mono h.size)

set_option maxHeartbeats 4000000 in
set_option maxRecDepth 100000 in
theorem walk (x y : Int) (A : Option Addr) (c : Nat) (l : List Int) (w : World) (_ : -9223372036854775808 ≤ x ∧ x ≤ 9223372036854775807) (_ : -9223372036854775808 ≤ y ∧ y ≤ 9223372036854775807) (hbs : Us w w.heap.size A l) (hbd : ∀ v ∈ l, 0 ≤ v ∧ v ≤ 65535) (hl : l.length * 2 ≤ 140737488351232) :
    Calls Try.prog 8 #[.agg #[.int .i64 x, .int .i64 y, .slice A l.length c]] w fun e w' => e = .returned (.bool true) ∧ Below w.heap.size w w' := by
  obtain ⟨n, hn⟩ : ∃ n, l.length = n := ⟨_, rfl⟩
  rw [hn] at hl ⊢
  obtain ⟨w1, hw1, hi, hb⟩ := newImg x y A n c w
  have HW1 := Lib.hid hw1
  have HI := Lib.hid hi
  have HB := Lib.hid hb
  have HV := Lib.hid (Vs.below hbs hb)
  have HN := Lib.hid hn
  clear hw1 hi hb hbs hn
  go_enter Try.func8, Try.ntmps8
  go_upto_region 1 with (fail)
  rw [HW1.out]
  clear HW1
  go_wp2_with fail
  refine (wakes_any w1).mono ?_
  rintro e w2 ⟨rfl, hb2⟩
  have HI2 := Lib.hid (HI.out.call hb2)
  have HB2 := Lib.hid (HB.out.trans (hb2.mono HB.out.size))
  have HV2 := Lib.hid (Vs.below HV.out (hb2.mono HB.out.size))
  clear HI HB HV hb2
  have q0 := HI2.out.c0; have q1 := HI2.out.c1; have q2 := HI2.out.c2
  have hs2 := HB2.out.size
  have hfull : Hid (∀ w', Below w2.heap.size w2 w' → (Below w2.heap.size w2 w' ∧ w'.cell? ⟨w.heap.size, 0, none⟩ = some (.int .i64 x) ∧ w'.cell? ⟨w.heap.size, 1, none⟩ = some (.int .i64 y) ∧ w'.cell? ⟨w.heap.size, 2, none⟩ = some (.slice A n c))) :=
    Lib.hid fun w' hb => ⟨hb, (HI2.out.call hb).c0, (HI2.out.call hb).c1, (HI2.out.call hb).c2⟩
  have HOwn : Hid (∀ w', Below w2.heap.size w2 w' → Calls Try.prog 12 #[.agg #[.int .i64 x, .int .i64 y, .slice A n c]] w' fun e w'' => ∃ A1 c1, e = .returned (imgV x y A1 n c1) ∧ w''.ownsRow w'.heap.size 28 1 (.slice A1 n c1) n (usV l) ∧ Below w'.heap.size w' w'') :=
    Lib.hid fun w' hb => own_any x y A n c l HN.out w.heap.size w' (Vs.below HV2.out (hb.mono hs2)) (by have := hb.size; omega) (by omega)
  have HDi : Hid (∀ (w' : World) (b : Nat) (A1 : Option Addr) (c1 : Nat), w'.ownsRow b 28 1 (.slice A1 n c1) n (usV l) → Calls Try.prog 31 #[imgV x y A1 n c1] w' (DisR w' (disL x y l))) :=
    Lib.hid fun w' b A1 c1 h => distinct_any x y A1 n c1 l HN.out (row_room h).1 hbd w'.heap.size w' (Vs.of_own h) (Nat.le_refl _)
  have HRd : Hid (∀ w', Below w2.heap.size w2 w' → Calls Try.prog 32 #[.agg #[.int .i64 x, .int .i64 y, .slice A n c]] w' (DisR w' (disL x y l))) :=
    Lib.hid fun w' hb => refDistinct_any x y A n c l HN.out w.heap.size w' (Vs.below HV2.out (hb.mono hs2)) (by have := hb.size; omega)
  have hdl : (disL x y l).length ≤ 1048576 := by
    unfold disL
    split
    · rename_i hg
      obtain ⟨a, b, rfl, rfl, _, hf, _⟩ := goodB_nat hg
      have := distL_length l ((a : Int) * (b : Int)).toNat
      rw [← Int.natCast_mul, Int.toNat_natCast] at *
      omega
    · simp
  have HSc : Hid (∀ (w' : World) (b1 b2 : Nat) (A1 A2 : Option Addr) (c1 c2 : Nat), w'.ownsRow b1 30 4 (.slice A1 (disL x y l).length c1) (disL x y l).length (colsV (disL x y l)) → w'.ownsRow b2 30 4 (.slice A2 (disL x y l).length c2) (disL x y l).length (colsV (disL x y l)) →
      Calls Try.prog 30 #[.slice A1 (disL x y l).length c1, .slice A2 (disL x y l).length c2] w' fun e w'' => e = .returned (.bool true) ∧ ∃ n, w'' = w'.drewN n) :=
    Lib.hid fun w' b1 b2 A1 A2 c1 c2 h1 h2 => sameColors_n A1 A2 _ _ c1 c2 _ rfl rfl w'.heap.size w' (Cs.row h1 rfl) (Cs.row h2 rfl) hdl
  clear hdl hbd
  generalize disL x y l = D at *
  go_upto_region 3 with (fail)
  have hc6 : Below w2.heap.size w2 w2.drew := (Below.refl _ _).drew
  go_region_held3 (fun w' => Below w2.heap.size w2 w' ∧ w'.cell? ⟨w.heap.size, 0, none⟩ = some (.int .i64 x) ∧ w'.cell? ⟨w.heap.size, 1, none⟩ = some (.int .i64 y) ∧ w'.cell? ⟨w.heap.size, 2, none⟩ = some (.slice A n c))
    (exact hfull.out _ hc6)
    ((first
      | (go_at_call 12; refine (HOwn.out _ hc6).mono ?_; rintro e w6 ⟨A1, c1, rfl, ho6, hb6⟩; have hc6 := belowStep hc6 hb6)
      | (go_at_call 31; refine (HDi.out _ _ _ _ ho6).mono ?_; rintro e w7 ⟨A2, c2, rfl, ho7, hb7⟩; have hc6 := belowStep hc6 hb7)
      | (go_at_call 32; refine (HRd.out _ hc6).mono ?_; rintro e w8 ⟨A3, c3, rfl, ho8, hb8⟩; have hc6 := belowStep hc6 hb8; have hp8 := own_upd ho7 (Upd.of_fresh hb8) (fun _ _ => id))
      | (go_at_call 30; refine (HSc.out _ _ _ _ _ _ _ hp8 ho8).mono ?_; rintro e w9 ⟨rfl, nq, rfl⟩; have hc6 := below_drewN hc6 nq)))
  all_goals
    have HE := Lib.hid (HB2.out.trans (hc6.mono hs2))
    clear hc6 hfull
    go_wp2_with fail
    go_ret
    exact ⟨rfl, HE.out⟩
set_option maxRecDepth 100000 in
theorem lifted (os : Os) (started : os.Started) (H : Type) (enc : TypeId × Value → H) :
    ReturnsInHanded {} Try.checked os 8 .any (Rows.rasterDistinctSpec.pre6 enc Try.prog Try.f8 Rows.rasterDistinctRow.domain false) (Rows.rasterDistinctSpec.post enc Try.prog Try.f8 false true false false) := by
  refine returnsInHanded_of_change_sized (C := Try.checked) prog_own started (by kernel_rfl) Try.func8
    (ChangeSpec.witness6 (enc := enc) (C := Try.checked) false ⟨#[], #[.agg #[.int .i64 0, .int .i64 0, .slice none 0 0]], []⟩ 8 (by kernel_rfl) (by kernel_rfl) (by kernel_rfl) (by kernel_rfl)) ?_
  intro W base args ds gs before hval0 hW hcnd hsz _
  have hval : ∀ (j : Nat) t v, Try.f8.params[j]? = some t → args[j]? = some v → Value.okWide Try.prog W .any base t v := hval0
  have hW' := hW
  obtain ⟨p, q, hA0, hV, rfl, hfz, hnd⟩ := hW
  have hA : DataW.TrodAll enc Try.prog W 0 (fun _ => true) true Try.f8.params.toList args.toList ds p := hA0
  rw [Try.params8] at hA hval
  obtain ⟨v0, vs0, d0, ds0, p0, q0, hargs, rfl, rfl, h0, r0⟩ := trodAll_cons hA
  obtain ⟨rfl, rfl, rfl⟩ := trodAll_nil r0
  obtain rfl : args = #[v0] := by cases args; simp_all
  obtain ⟨rfl, rfl⟩ := trodVars_none hV
  obtain ⟨x0, y0, A0, l0, c0, rfl, bx0, by0, hb0, hk0, hd0⟩ := open_image (hval 0 24 v0 rfl rfl) h0
  have hl0 : l0.length * 2 ≤ 140737488351232 := by
    obtain ⟨_, _, _, rfl, hdd⟩ := hd0
    rcases hdd with ⟨_, rfl⟩ | ⟨e, s, rfl, hle⟩
    · simp
    · have hpz := sized_part hsz (j := 0) (t := 24) rfl rfl Try.underlying24
      have this : (e.length + s.length) * Try.prog.bytesOf 28 ≤ reachBytes := sized_slice hpz (j := 2) (t := 22) (e := 28) rfl rfl Try.underlying22
      rw [bytes_u16] at this
      unfold reachBytes at this
      omega
  have lt0 : ∀ x ∈ p0, x.block < W.heap.size := by obtain ⟨m, hm⟩ := h0; exact DataW.trod_lt m _ _ _ hm
  clear hA0 hval0
  refine (walk x0 y0 A0 c0 l0 W bx0 by0 hb0 hk0 hl0).mono fun e W' ⟨he, bel⟩ => ?_
  subst he
  exact ⟨_, rfl, _, _, _, [], _, [], hW', trodAll_mk1 (shut_bool Try.underlying4 _), (trodAll_cons_mk (Below.trod prog_laid (by kernel_rfl) (of_decide_eq_true (by kernel_rfl)) h0 bel lt0) trodAll_mk0), rfl, bel.frame _, fun h => by cases h⟩

theorem over : Rows.rasterDistinctRow.holds Try.pinned (OpenSpec.ofChange Rows.rasterDistinctSpec) :=
  OpenClaim.holds_of_wide 8 Try.f8 rfl rfl rfl rfl rfl rfl rfl ⟨rfl, rfl, rfl, rfl, rfl⟩ rfl rfl rfl rfl rfl (by kernel_rfl) Try.func8 (by kernel_rfl)
    (of_decide_eq_true (by kernel_rfl)) (by unfold Func.isWrapper; first | (rw [if_pos (by decide +kernel)]; kernel_rfl) | (rw [if_neg (by decide +kernel)]; exact ⟨rfl, rfl⟩))
    (fun os started H enc _ => lifted os started H enc)
end RasterDistinct

theorem rasterDistinct_holds : Rows.RasterDistinctSaid := RasterDistinct.over
#print axioms rasterDistinct_holds
end Go.Proofs.Ytpioocnojpocmaa
