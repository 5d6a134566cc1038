/- Proved: any bytes are unfiltered, each row by its own kind, or refused: for every list and every two numbers, no condition. -/
import Derived.Test.YtjcnjnkcpempoaaFa
import Derived.Test.YtjcnjnkcpempoaaEj
import Derived.Test.YtjcnjnkcpempoaaOp
set_option linter.unusedVariables false
set_option linter.unusedSimpArgs false
namespace Go.Proofs.Ytjcnjnkcpempoaa
open Go.ChangeShapes Go.WideShapes Go.ChangeAt Go.RowKit
namespace ChunkRows

set_option maxHeartbeats 1000000 in
set_option maxRecDepth 100000 in
theorem walk (A : Option Addr) (c : Nat) (l : List UInt8) (wd bp : Int) (w : World) (hbs : Bs w w.heap.size A l) (_ : l.length ≤ c) (hl : l.length ≤ 140737488355328) (h1 : -9223372036854775808 ≤ wd ∧ wd ≤ 9223372036854775807) (h2 : -9223372036854775808 ≤ bp ∧ bp ≤ 9223372036854775807) :
    Calls Try.prog 7 #[.slice A l.length c, .int .i64 wd, .int .i64 bp] w fun e w' => e = .returned (.bool true) ∧ Below w.heap.size w w' := by
  obtain ⟨n, hn⟩ : ∃ n, l.length = n := ⟨_, rfl⟩
  rw [hn] at hl ⊢
  have HN := Lib.hid hn
  have HBS := Lib.hid hbs
  clear hn hbs
  go_enter Try.func7, Try.ntmps7
  go_upto_region 3 with (go_at_call 10; refine (wakes_any w).mono ?_; rintro e w1 ⟨rfl, hb1⟩)
  have hs1 := hb1.size
  have HB1 := Lib.hid hb1
  have HBS1 := Lib.hid (HBS.out.below hb1)
  have HC := Lib.hid (own_any A c n l HN.out w.heap.size w1 HBS1.out hs1 (by omega))
  clear hb1
  have HU := Lib.hid (fun (A2 : Option Addr) (c2 : Nat) (w2 : World) (ho : w2.ownsRow w1.heap.size 5 1 (.slice A2 n c2) n (bytesV l)) => unf_any wd bp A2 n c2 l HN.out (own_room ho).1 (own_room ho).2 (by omega) w2.heap.size w2 (bs_own ho).1 (Nat.le_refl _))
  have HD := Lib.hid (fun (w3 : World) (hb : Below w1.heap.size w1 w3) => refUnf_any wd bp A n c l HN.out (by omega) w.heap.size w3 (HBS1.out.below (hb.mono hs1)) (Nat.le_trans hs1 hb.size))
  generalize ufM wd bp l = R at *
  cases R with
  | error k =>
    go_upto_region 4 with (first
      | (go_at_call 12; refine HC.out.mono ?_; rintro e w2 ⟨A2, c2, rfl, o2, hb2⟩; have HO2 := Lib.hid o2; have HB2 := Lib.hid hb2; have hs2 := hb2.size; clear o2 hb2 HC)
      | (go_at_call 21; refine (HU.out A2 c2 w2 HO2.out).mono ?_; rintro e w3 ⟨hb3, rfl⟩))
    have hs3 := hb3.size
    have HB3 := Lib.hid (HB2.out.trans (hb3.mono hs2))
    clear hb3 HO2 HB2 HU
    go_upto_region 5 with (go_at_call 22; refine (HD.out w3 HB3.out).mono ?_; rintro e w4 ⟨hb4, rfl⟩)
    have hs4 := hb4.size
    have HB4 := Lib.hid (HB3.out.trans (hb4.mono (Nat.le_trans hs2 hs3)))
    clear hb4 HB3 HD
    have HS := Lib.hid (same_n none none 0 0 0 0 [] [] rfl rfl 0 w4 (fun h => absurd h (by simp)) (fun h => absurd h (by simp)) (Nat.zero_le _))
    go_wp2_with (go_at_call 18; refine HS.out.mono ?_; rintro e w5 ⟨rfl, q, rfl⟩)
    go_ret
    exact ⟨rfl, (HB1.out.trans (HB4.out.mono hs1)).trans ((Upd.drewN (Upd.refl (fun _ => False) w4) q).below (B := w.heap.size) (by omega) (fun _ _ h => h))⟩
  | ok L =>
    go_upto_region 4 with (first
      | (go_at_call 12; refine HC.out.mono ?_; rintro e w2 ⟨A2, c2, rfl, o2, hb2⟩; have HO2 := Lib.hid o2; have HB2 := Lib.hid hb2; have hs2 := hb2.size; clear o2 hb2 HC)
      | (go_at_call 21; refine (HU.out A2 c2 w2 HO2.out).mono ?_; rintro e w3 ⟨hb3, A3, c3, rfl, o3⟩))
    have hs3 := hb3.size
    have HB3 := Lib.hid (HB2.out.trans (hb3.mono hs2))
    have HO3 := Lib.hid (bs_own o3).1
    have hL : L.length ≤ maxLen := Nat.le_trans (own_room o3).1 (own_room o3).2
    clear hb3 o3 HO2 HB2 HU
    go_upto_region 5 with (go_at_call 22; refine (HD.out w3 HB3.out).mono ?_; rintro e w4 ⟨hb4, A4, c4, rfl, o4⟩)
    have hs4 := hb4.size
    have HB4 := Lib.hid (HB3.out.trans (hb4.mono (Nat.le_trans hs2 hs3)))
    have HS := Lib.hid (same_n A3 A4 L.length L.length c3 c4 L L rfl rfl w4.heap.size w4 (fun h => by
      obtain ⟨ad, e, hlt, hc⟩ := (HO3.out.below hb4) h
      exact ⟨ad, e, by omega, hc⟩) (bs_own o4).1 hL)
    clear hb4 o4 HB3 HD
    go_wp2_with (go_at_call 18; refine HS.out.mono ?_; rintro e w5 ⟨rfl, q, rfl⟩)
    go_ret
    exact ⟨rfl, (HB1.out.trans (HB4.out.mono hs1)).trans ((Upd.drewN (Upd.refl (fun _ => False) w4) q).below (B := w.heap.size) (by omega) (fun _ _ h => h))⟩
set_option maxRecDepth 100000 in
theorem lifted (os : Os) (started : os.Started) (H : Type) (enc : TypeId × Value → H) :
    ReturnsInHanded {} Try.checked os 7 .any (Rows.chunkRowsSpec.pre6 enc Try.prog Try.f7 Rows.chunkRowsRow.domain false) (Rows.chunkRowsSpec.post enc Try.prog Try.f7 false true false false) := by
  refine returnsInHanded_of_change_sized (C := Try.checked) prog_own started (by kernel_rfl) Try.func7
    (ChangeSpec.witness6 (enc := enc) (C := Try.checked) false ⟨#[], #[.slice none 0 0, .int .i64 0, .int .i64 0], []⟩ 8 (by kernel_rfl) (by kernel_rfl) (by kernel_rfl) (by kernel_rfl)) ?_
  intro W base args ds gs before hval0 hW hcnd hsz _
  have hval : ∀ (j : Nat) t v, Try.f7.params[j]? = some t → args[j]? = some v → Value.okWide Try.prog W .any base t v := hval0
  have hW' := hW
  obtain ⟨p, q, hA0, hV, rfl, hfz, hnd⟩ := hW
  have hA : DataW.TrodAll enc Try.prog W 0 (fun _ => true) true Try.f7.params.toList args.toList ds p := hA0
  rw [Try.params7] at hA hval
  obtain ⟨v0, vs0, d0, ds0, p0, q0, hargs, rfl, rfl, h0, r0⟩ := trodAll_cons hA
  obtain ⟨v1, vs1, d1, ds1, p1, q1, rfl, rfl, rfl, h1, r1⟩ := trodAll_cons r0
  obtain ⟨v2, vs2, d2, ds2, p2, q2, rfl, rfl, rfl, h2, r2⟩ := trodAll_cons r1
  obtain ⟨rfl, rfl, rfl⟩ := trodAll_nil r2
  obtain rfl : args = #[v0, v1, v2] := by cases args; simp_all
  obtain ⟨rfl, rfl⟩ := trodVars_none hV
  obtain ⟨A0, l0, c0, rfl, hb0, hcp0, hd0⟩ := open_bytes (hval 0 22 v0 rfl rfl) h0
  obtain ⟨a1, rfl, rfl, rfl, w1⟩ := open_int Try.underlying3 (hval 1 3 v1 rfl rfl) h1
  obtain ⟨a2, rfl, rfl, rfl, w2⟩ := open_int Try.underlying3 (hval 2 3 v2 rfl rfl) h2
  have hl0 : l0.length ≤ 140737488355328 := by
    rcases hd0 with ⟨_, rfl⟩ | ⟨e, s, rfl, hle⟩
    · simp
    · have this : (e.length + s.length) * Try.prog.bytesOf 5 ≤ reachBytes := sized_slice hsz (j := 0) (t := 22) (e := 5) rfl rfl Try.underlying22
      rw [bytes_u8] at this
      unfold reachBytes at this
      omega
  have lt0 : ∀ x ∈ p0, x.block < W.heap.size := by obtain ⟨m, hm⟩ := h0; exact DataW.trod_lt m _ _ _ hm
  clear hA0 hval0
  refine (walk A0 c0 l0 a1 a2 W hb0 hcp0 hl0 (bounds_i64 w1) (bounds_i64 w2)).mono fun e W' ⟨he, bel⟩ => ?_
  subst he
  exact ⟨_, rfl, _, _, _, [], _, [], hW', trodAll_mk1 (shut_bool Try.underlying4 _), (trodAll_cons_mk (Below.trod prog_laid (by kernel_rfl) (of_decide_eq_true (by kernel_rfl)) h0 bel lt0) (trodAll_cons_mk (shut_int Try.underlying3 w1) (trodAll_cons_mk (shut_int Try.underlying3 w2) trodAll_mk0))), rfl, bel.frame _, fun h => by cases h⟩

theorem over : Rows.chunkRowsRow.holds Try.pinned (OpenSpec.ofChange Rows.chunkRowsSpec) :=
  OpenClaim.holds_of_wide 7 Try.f7 rfl rfl rfl rfl rfl rfl rfl ⟨rfl, rfl, rfl, rfl, rfl⟩ rfl rfl rfl rfl rfl (by kernel_rfl) Try.func7 (by kernel_rfl)
    (of_decide_eq_true (by kernel_rfl)) (by unfold Func.isWrapper; first | (rw [if_pos (by decide +kernel)]; kernel_rfl) | (rw [if_neg (by decide +kernel)]; exact ⟨rfl, rfl⟩))
    (fun os started H enc _ => lifted os started H enc)
end ChunkRows

theorem chunkRows_holds : Rows.ChunkRowsSaid := ChunkRows.over
#print axioms chunkRows_holds
end Go.Proofs.Ytjcnjnkcpempoaa
