/- Proved: bytes that are handed in stay; those that are answered are new memory: for every list of bytes and every number whose readings are together of bulk at most 1048576 (the second form). -/
import Derived.Test.YthnfnfaiicfenaaVo
import Derived.Test.YthnfnfaiicfenaaUd
import Derived.Deep.CutBlock
namespace Go.Proofs.Ythnfnfaiicfenaa
open Go.ChangeShapes Go.WideShapes Go.ChangeAt Go.RowKit
namespace LzwOwn

theorem ret_tt {a : Bool} (h : a = true) : Ending.returned (.bool a) = .returned (.bool true) := by rw [h]
set_option maxHeartbeats 8000000 in
set_option maxRecDepth 100000 in
theorem walk (A : Option Addr) (c : Nat) (l : List UInt8) (most : Int) (w : World) (hbs : Bs w w.heap.size A l) (_ : l.length ≤ c) (hl : l.length ≤ 1048576) (hm : -9223372036854775808 ≤ most ∧ most ≤ 9223372036854775807) :
    Calls Try.prog 9 #[.slice A l.length c, .int .i64 most] w fun e w' => e = .returned (.bool true) ∧ Below w.heap.size w w' := by
  obtain ⟨n, hn⟩ : ∃ n, l.length = n := ⟨_, rfl⟩
  rw [hn] at hl ⊢
  have HN := Lib.hid hn
  have HBS := Lib.hid hbs
  have hmx : n ≤ maxLen := by unfold maxLen; omega
  clear hn hbs
  obtain ⟨i0, hi, hz0, hz1, hz2⟩ := info_parts info_u8
  go_enter Try.func9, Try.ntmps9
  go_wp2_with fail
  refine (wakes_any w).mono ?_
  rintro e w1 ⟨rfl, hb1⟩
  have HB1 := Lib.hid hb1
  clear hb1
  go_wp2_with fail
  refine (own_n A c n l HN.out w.heap.size w1 (HBS.out.below HB1.out) (by omega) HB1.out.size).mono ?_
  rintro e w2 ⟨A2, c2, rfl, o2, hb2⟩
  have HB2 := Lib.hid (HB1.out.trans (hb2.mono HB1.out.size))
  have hz1s := hb2.size
  have HO2 := Lib.hid o2
  have HLIT : Hid (Bs (w2.alloc (.cells #[.int .u8 77] 5)) (w2.heap.size + 1) (some ⟨w2.heap.size, 0, none⟩) [77]) := Lib.hid (bs_lit2 w2 5 [77])
  have HB2' := Lib.hid hb2
  clear o2 hb2
  have hAP : ∃ (g3 c3 : Nat) (w3 : World), (Builtin.append_ #[22, 22] 22 #[.slice A2 n c2, .slice (some ⟨w2.heap.size, 0, none⟩) 1 1]).run Try.prog (w2.alloc (.cells #[.int .u8 77] 5)) = .ok (.slice (some ⟨g3, 0, none⟩) (n + 1) c3) w3 ∧ w3.ownsRow w1.heap.size 5 1 (.slice (some ⟨g3, 0, none⟩) (n + 1) c3) (n + 1) (bytesV (l ++ [77])) ∧ Below w1.heap.size w1 w3 ∧ n + 1 ≤ c3 := by
    have hv : Vs (w2.alloc (.cells #[.int .u8 77] 5)) (w2.heap.size + 1) (some ⟨w2.heap.size, 0, none⟩) (bytesV [77]) := vs_lit w2 5 [.int .u8 77] (w2.heap.size + 1) (by omega)
    obtain ⟨A3, c3, w3, r3, o3, u3, _⟩ := append_bytes w1.heap.size (w2.alloc (.cells #[.int .u8 77] 5)) A2 c2 n l (own_upd HO2.out ((Upd.refl No w2).alloc _) (fun _ _ => id)) (by rw [World.size_alloc]; omega) (w2.heap.size + 1) (some ⟨w2.heap.size, 0, none⟩) 1 1 [77] rfl hv (by omega) 22
    obtain ⟨g3, rfl, q1, q2, q3, q4⟩ := row_form o3 (by omega)
    refine ⟨g3, c3, w3, r3, o3, ?_, q1⟩
    have hA2 := HO2.out.lt
    exact (((Upd.of_below HB2'.out).then ((Upd.refl No w2).alloc (.cells #[.int .u8 77] 5)) (fun _ _ h => absurd h id)).then u3 (fun i hi e => (hA2 i e.symm).1)).below (Nat.le_refl _) (fun k hk h => by omega)
  obtain ⟨g3, c3, w3, hrun, o3, hb3, hnc⟩ := hAP
  have HO3 := Lib.hid o3; have HB3 := Lib.hid hb3
  have hlt3 := (row_lt o3 g3 rfl)
  have i1 : (n : Int) ≤ (c3 : Int) := by omega
  clear o3 hb3 HO2 HB2' HLIT
  go_wp2_with (at_builtin; refine wpList_append_run rfl (.tmp 19) (.tmp 20) _ rfl rfl rfl hrun ?_)
  have HI3 : Hid (Bs w3 w3.heap.size (some ⟨g3, 0, none⟩) l) := Lib.hid (by
    have h := (own_bs (l := l ++ [77]) (by rw [List.length_append, HN.out]; rfl) HO3.out).take n
    rwa [List.take_append_of_le_length (by rw [HN.out]; exact Nat.le_refl _), List.take_of_length_le (by rw [HN.out]; exact Nat.le_refl _)] at h)
  have hnc3 : n ≤ c3 := by omega
  have HXL := Lib.hid (outX_len l most.toNat)
  refine (runs_any w3 _ c3 n l most HN.out HI3.out hnc3 (by omega) hm.2).mono ?_
  intro e w4 hr
  obtain ⟨Ax, cx, gx, rfl, ox, b4⟩ := hr.out_
  have HB4 := Lib.hid b4; have HOX := Lib.hid ox
  have HI4 := Lib.hid ((HI3.out.below b4).more b4.size)
  have z4 := b4.size
  clear hr b4 ox
  go_wp2_with fail
  refine (runs_any w4 _ c3 n l most HN.out HI4.out hnc3 (by omega) hm.2).mono ?_
  intro e w5 hr
  obtain ⟨Ay, cy, gy, rfl, oy, b5⟩ := hr.out_
  have HB5 := Lib.hid b5; have HOY := Lib.hid oy
  have HI5 := Lib.hid ((HI4.out.below b5).more b5.size)
  have z5 := b5.size
  clear hr b5 oy
  rw [HN.out] at HXL
  have hxl := HXL.out
  obtain ⟨nx, hnx⟩ : ∃ nx, (outX (runsM l most.toNat)).length = nx := ⟨_, rfl⟩
  rw [hnx] at HOX HOY hxl ⊢
  have HNX := Lib.hid hnx
  clear hnx
  go_wp2_with fail
  refine (packRuns_any w5 _ c3 n l HN.out HI5.out hnc3 (by omega)).mono ?_
  rintro e w6 ⟨N6, Ap, cp, _, hN6, rfl, op, b6⟩
  have hpl := (finR_reads l N6 hN6).2
  rw [HN.out] at hpl
  obtain ⟨np, hnp⟩ : ∃ np, (finR l N6).length = np := ⟨_, rfl⟩
  rw [hnp] at op hpl ⊢
  have HB6 := Lib.hid b6; have HOP := Lib.hid op
  have HI6 := Lib.hid ((HI5.out.below b6).more b6.size)
  have z6 := b6.size
  clear b6 op hN6 hnp
  go_wp2_with fail
  refine (tiffPack_any w6 _ c3 n l HN.out HI6.out hnc3 hl).mono ?_
  rintro e w7 ⟨lt, At, ct, hpt, rfl, ot, b7⟩
  have htl := packed_len hpt (by rw [HN.out]; exact hl)
  obtain ⟨nt, hnt⟩ : ∃ nt, lt.length = nt := ⟨_, rfl⟩
  rw [hnt] at ot htl ⊢
  have HB7 := Lib.hid b7; have HOT := Lib.hid ot
  have HI7 := Lib.hid ((HI6.out.below b7).more b7.size)
  have z7 := b7.size
  clear b7 ot hpt hnt
  go_wp2_with fail
  refine (gifPack_any w7 _ c3 n l 8 HN.out HI7.out hnc3 hl).mono ?_
  intro e w8 hr
  obtain ⟨Ag, ng, cg, kg, lg, hgl, rfl, og, b8⟩ := hr.out_ (by rw [HN.out]; exact hl)
  have HB8 := Lib.hid b8; have HOG := Lib.hid og
  have z8 := b8.size
  clear hr b8 og
  have lx := row_lt HOX.out; have ly := row_lt HOY.out; have lp := row_lt HOP.out; have lt := row_lt HOT.out; have lg := row_lt HOG.out
  have B48 := (HB5.out.trans ((HB6.out.mono z5).trans ((HB7.out.mono (Nat.le_trans z5 z6)).trans (HB8.out.mono (Nat.le_trans z5 (Nat.le_trans z6 z7))))))
  have B58 := (HB6.out.trans ((HB7.out.mono z6).trans (HB8.out.mono (Nat.le_trans z6 z7))))
  have B68 := (HB7.out.trans (HB8.out.mono z7))
  have B38 := HB4.out.trans (B48.mono z4)
  have X8 := own_upd HOX.out (Upd.of_fresh B48) (fun _ _ => id)
  have Y8 := Lib.hid (own_upd HOY.out (Upd.of_fresh B58) (fun _ _ => id))
  have P8 := Lib.hid (own_upd HOP.out (Upd.of_fresh B68) (fun _ _ => id))
  have T8 := Lib.hid (own_upd HOT.out (Upd.of_fresh HB8.out) (fun _ _ => id))
  have I8 := Lib.hid (own_upd HO3.out (Upd.of_fresh B38) (fun _ _ => id))
  have HX8 := Lib.hid X8
  have HB38 := Lib.hid B38
  have HZ := Lib.hid (And.intro z4 (And.intro z5 (And.intro z6 (And.intro z7 (And.intro z8 (And.intro hlt3 (And.intro lx (And.intro ly (And.intro lp (And.intro lt lg))))))))))
  have hnb : nx ≤ 140737488355000 := by omega
  clear X8 B48 B58 B68 B38 HOX HOY HOP HOT HI3 HI4 HI5 HI6 HI7 HB4 HB5 HB6 HB7 HB8
  go_wp2_with fail
  refine (spoil_any w8 w3.heap.size Ax nx cx _ HX8.out hnb (by have := HZ.out; omega)).mono ?_
  rintro e w9 ⟨rfl, u9⟩
  have HU9 := Lib.hid u9
  clear u9
  go_wp2_with fail
  have P9 := Lib.hid (row_keep P8.out HU9.out (fun k hk e => by obtain ⟨z4, z5, z6, z7, z8, hlt3, lx, ly, lp, lt, lg⟩ := HZ.out; have := lp k hk; have := lx k e; omega))
  have hs9 := HU9.out.size
  refine (spoil_any w9 w5.heap.size Ap np cp _ P9.out (by omega) (by have := HZ.out; omega)).mono ?_
  rintro e w10 ⟨rfl, u10⟩
  have HU10 := Lib.hid u10
  clear u10
  go_wp2_with fail
  have T10 := Lib.hid (row_keep (row_keep T8.out HU9.out (fun k hk e => by obtain ⟨z4, z5, z6, z7, z8, hlt3, lx, ly, lp, lt, lg⟩ := HZ.out; have := lt k hk; have := lx k e; omega)) HU10.out (fun k hk e => by obtain ⟨z4, z5, z6, z7, z8, hlt3, lx, ly, lp, lt, lg⟩ := HZ.out; have := lt k hk; have := lp k e; omega))
  have hs10 := HU10.out.size
  refine (spoil_any w10 w6.heap.size At nt ct _ T10.out (by omega) (by have := HZ.out; omega)).mono ?_
  rintro e w11 ⟨rfl, u11⟩
  have HU11 := Lib.hid u11
  clear u11
  go_wp2_with fail
  have G11 := Lib.hid (row_keep (row_keep (row_keep (HOG.out) HU9.out (fun k hk e => by obtain ⟨z4, z5, z6, z7, z8, hlt3, lx, ly, lp, lt, lg⟩ := HZ.out; have := lg k hk; have := lx k e; omega)) HU10.out (fun k hk e => by obtain ⟨z4, z5, z6, z7, z8, hlt3, lx, ly, lp, lt, lg⟩ := HZ.out; have := lg k hk; have := lp k e; omega)) HU11.out (fun k hk e => by obtain ⟨z4, z5, z6, z7, z8, hlt3, lx, ly, lp, lt, lg⟩ := HZ.out; have := lg k hk; have := lt k e; omega))
  have hs11 := HU11.out.size
  refine (spoil_any w11 w7.heap.size Ag ng cg _ G11.out (by omega) (by have := HZ.out; omega)).mono ?_
  rintro e w12 ⟨rfl, u12⟩
  have U12 : Hid (Upd (fun k => w3.heap.size ≤ k ∧ ¬ (w4.heap.size ≤ k ∧ k < w5.heap.size)) w8 w12) := Lib.hid (by
    obtain ⟨z4, z5, z6, z7, z8, hlt3, lx, ly, lp, lt, lg⟩ := HZ.out
    refine (((HU9.out.mono (fun k _ e => ?_)).then HU10.out (fun k _ e => ?_)).then HU11.out (fun k _ e => ?_)).then u12 (fun k _ e => ?_)
    · have := lx k e; exact ⟨by omega, by omega⟩
    · have := lp k e; exact ⟨by omega, by omega⟩
    · have := lt k e; exact ⟨by omega, by omega⟩
    · have := lg k e; exact ⟨by omega, by omega⟩)
  have hs12 := U12.out.size
  have HB12 : Hid (Below w.heap.size w w12) := Lib.hid (by
    obtain ⟨z4, z5, z6, z7, z8, hlt3, lx, ly, lp, lt, lg⟩ := HZ.out
    have hw1 := HB1.out.size
    have hw3 := HB3.out.size
    have b8 := (HB1.out.trans (HB3.out.mono hw1)).trans (HB38.out.mono (by omega))
    exact b8.trans (U12.out.below (by omega) (fun k hk e => by omega)))
  have I12 := Lib.hid (own_upd I8.out U12.out (fun k hk e => by obtain ⟨z4, z5, z6, z7, z8, hlt3, lx, ly, lp, lt, lg⟩ := HZ.out; simp [Value.ownBlock] at hk; omega))
  have Y12 := Lib.hid (row_keep Y8.out U12.out (fun k hk e => by obtain ⟨z4, z5, z6, z7, z8, hlt3, lx, ly, lp, lt, lg⟩ := HZ.out; have := ly k hk; omega))
  clear u12 HU9 HU10 HU11 P8 P9 T8 T10 G11 HOG I8 Y8 HX8 HB38 U12
  go_wp2_with fail
  refine (refRuns_any w12 A c n l most HN.out ((HBS.out.below HB12.out).more HB12.out.size) (by rw [HN.out]; omega) hm.2).mono ?_
  intro e w13 hr
  obtain ⟨Aw, cw, gw, rfl, ow, b13⟩ := hr.out_
  rw [HNX.out] at ow ⊢
  have HB13 := Lib.hid (HB12.out.trans (b13.mono HB12.out.size))
  have I13 := own_upd I12.out (Upd.of_fresh b13) (fun _ _ => id)
  have Y13 := Lib.hid (own_bs HNX.out (own_upd Y12.out (Upd.of_fresh b13) (fun _ _ => id)))
  have W13 := Lib.hid (own_bs HNX.out ow)
  have hmw := own_max ow
  have hbi := own_bs (l := l ++ [77]) (by rw [List.length_append, HN.out]; rfl) I13
  have k77 : w13.cell? ⟨g3, n, none⟩ = some (.int .u8 77) := by
    obtain ⟨ad, e1, _, e3⟩ := hbi.at_ (k := n) (by rw [List.length_append, HN.out]; exact Nat.lt_succ_self _)
    injection e1 with e1
    subst e1
    rw [show ((l ++ [77])[n]'(by rw [List.length_append, HN.out]; exact Nat.lt_succ_self _)) = 77 from by rw [List.getElem_append_right (by rw [HN.out]; exact Nat.le_refl _)]; simp] at e3
    have e4 : (⟨g3, 0, none⟩ : Addr).add n = ⟨g3, n, none⟩ := by
      by_cases h : n = 0
      · subst h; rfl
      · simp [Addr.add, h]
    rw [e4] at e3
    exact e3
  have hin := hbi.take n
  rw [List.take_append_of_le_length (by rw [HN.out]; exact Nat.le_refl _), List.take_of_length_le (by rw [HN.out]; exact Nat.le_refl _)] at hin
  have HS1 := Lib.hid (same_tt (some ⟨g3, 0, none⟩) A c3 c n l HN.out w13.heap.size w13 hin ((HBS.out.below HB13.out).more HB13.out.size) hmx)
  have HS2 := Lib.hid (fun m => same_tt Ay Aw cy cw nx _ HNX.out w13.heap.size (w13.drewN m) Y13.out W13.out hmw)
  clear hr ow b13 I13 hbi hin I12 Y12
  go_wp2_with fail
  refine HS1.out.mono ?_
  rintro e w14 ⟨rfl, m1, rfl⟩
  go_wp2_with fail
  refine (HS2.out m1).mono ?_
  rintro e w15 ⟨rfl, m2, rfl⟩
  go_wp2_with fail
  go_ret
  exact ⟨ret_tt (by simp), below_drewN_ HB13.out _⟩
set_option maxRecDepth 100000 in
theorem contract (H : Type) (enc : TypeId × Value → H) (W : World) (base : Nat) (args : Array Value) (ds gs : List (DataW H)) (before : List MemPlace)
    (hval : ∀ (j : Nat) t v, Try.f9.params[j]? = some t → args[j]? = some v → Value.okWide Try.prog W .any base t v)
    (hW : DataW.Whole enc Try.prog Try.f9.params.toList Rows.lzwOwnSpec.vars false W args.toList ds gs before) (hk : Rows.uptoSmall H (ds ++ gs) = true) :
    Calls Try.prog 9 args W fun e W' => ∃ v, e = .returned v ∧ Rows.lzwOwnSpec.post enc Try.prog Try.f9 false true false false W args v W' := by
  have hW' := hW
  obtain ⟨p, q, hA0, hV, rfl, hfz, hnd⟩ := hW
  have hA : DataW.TrodAll enc Try.prog W 0 (fun _ => true) true Try.f9.params.toList args.toList ds p := hA0
  rw [Try.params9] at hA hval
  obtain ⟨v0, vs0, d0, ds0, p0, q0, hargs, rfl, rfl, h0, r0⟩ := trodAll_cons hA
  obtain ⟨v1, vs1, d1, ds1, p1, q1, rfl, rfl, rfl, h1, r1⟩ := trodAll_cons r0
  obtain ⟨rfl, rfl, rfl⟩ := trodAll_nil r1
  obtain rfl : args = #[v0, v1] := by cases args; simp_all
  obtain ⟨rfl, rfl⟩ := trodVars_none hV
  obtain ⟨A0, l0, c0, rfl, hb0, hcp0, hd0⟩ := open_bytes (hval 0 22 v0 rfl rfl) h0
  obtain ⟨a1, rfl, rfl, rfl, w1⟩ := open_int Try.underlying3 (hval 1 3 v1 rfl rfl) h1
  have hl0 : l0.length ≤ 1048576 := by
    rcases hd0 with ⟨_, rfl⟩ | ⟨e, s, rfl, hle⟩
    · simp
    · have h1 := bulk_le hk
      simp only [List.cons_append, List.nil_append] at h1
      have h2 := Nat.le_trans (bulk_slice e s _) h1
      omega
  have lt0 : ∀ x ∈ p0, x.block < W.heap.size := by obtain ⟨m, hm⟩ := h0; exact DataW.trod_lt m _ _ _ hm
  clear hA0
  refine (walk A0 c0 l0 a1 W hb0 hcp0 hl0 (bounds_i64 w1)).mono fun e W' ⟨he, bel⟩ => ?_
  subst he
  exact ⟨_, rfl, _, _, _, [], _, [], hW', trodAll_mk1 (shut_bool Try.underlying4 _), (trodAll_cons_mk (Below.trod prog_laid (by kernel_rfl) (of_decide_eq_true (by kernel_rfl)) h0 bel lt0) (trodAll_cons_mk (shut_int Try.underlying3 w1) trodAll_mk0)), rfl, bel.frame _, fun h => by cases h⟩

set_option maxRecDepth 100000 in
theorem lifted (os : Os) (started : os.Started) (H : Type) (enc : TypeId × Value → H) (F : Stop.Interp) :
    ReturnsInHanded {} Try.checked os 9 .any ((Rows.OpenSpec.upto Rows.lzwOwnSpec).pre6 enc Try.prog Try.f9 Rows.lzwOwnUptoRow.domain false) (((Rows.OpenSpec.upto Rows.lzwOwnSpec).at F).post enc Try.prog Try.f9 false true false false) := by
  refine returnsInHanded_of_cond (C := Try.checked) (s := Rows.OpenSpec.upto Rows.lzwOwnSpec) (k := Rows.uptoSmall) rfl prog_own started (by kernel_rfl) Try.func9
    (OpenSpec.witness (enc := enc) (C := Try.checked) (s := Rows.OpenSpec.upto Rows.lzwOwnSpec) (k := Rows.uptoSmall) rfl false ⟨#[], #[.slice none 0 0, .int .i64 0], []⟩ 8 (by kernel_rfl) (by kernel_rfl) (by kernel_rfl)
      (x := ([.nil, .lit (.int .i64 0)], [], [])) (by kernel_rfl) rfl (by kernel_rfl)) ?_
  intro W base args ds gs before hval hW _ hk _
  exact contract H enc W base args ds gs before hval hW hk

theorem over : Rows.lzwOwnUptoRow.holds Try.pinned (Rows.OpenSpec.upto Rows.lzwOwnSpec) :=
  OpenClaim.holds_of_cond 9 Try.f9 rfl rfl rfl rfl rfl rfl rfl ⟨rfl, rfl, rfl, rfl, rfl⟩ rfl rfl rfl rfl rfl (by kernel_rfl) Try.func9 (by kernel_rfl)
    (of_decide_eq_true (by kernel_rfl)) (by unfold Func.isWrapper; first | (rw [if_pos (by decide +kernel)]; kernel_rfl) | (rw [if_neg (by decide +kernel)]; exact ⟨rfl, rfl⟩))
    (fun os started H enc _ F => lifted os started H enc F)
end LzwOwn

theorem lzwOwn_holds : Rows.LzwOwnUptoSaid := LzwOwn.over
#print axioms lzwOwn_holds
end Go.Proofs.Ythnfnfaiicfenaa
