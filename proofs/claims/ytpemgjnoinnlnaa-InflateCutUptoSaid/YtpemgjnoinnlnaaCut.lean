/- Proved: a right stream that ends too early is refused as such, and what stands behind it isn't looked at: for every list of bytes, place and further bytes whose readings are together of bulk at most 1048576 (the second form). -/
import Derived.Test.YtpemgjnoinnlnaaIt
import Derived.Test.YtpemgjnoinnlnaaJa
import Derived.Test.YtpemgjnoinnlnaaSame
import Derived.Test.YtpemgjnoinnlnaaOp
import Derived.Deep.CutBlock
namespace Go.Proofs.Ytpemgjnoinnlnaa
open Go.ChangeShapes Go.WideShapes Go.ChangeAt Go.RowKit
/-- Any number, rounded off to a place below n. -/
theorem spot_any (at_ : Int) (n : Nat) (hn : 0 < n) (hl : n ≤ 140737488355328) : ∃ k : Nat, k < n ∧ wrap64 ((IntKind.u64.wrap at_).tmod (n : Int)) = (k : Int) := by
  have e : IntKind.u64.wrap at_ = at_ % 18446744073709551616 := by rw [IntKind.wrap_u64]
  obtain ⟨m, hm⟩ : ∃ m : Nat, IntKind.u64.wrap at_ = (m : Int) := ⟨(at_ % 18446744073709551616).toNat, by rw [e]; omega⟩
  rw [hm]
  have hk : m % n < n := Nat.mod_lt _ hn
  refine ⟨m % n, hk, ?_⟩
  have e2 : ((m : Int).tmod (n : Int)) = ((m % n : Nat) : Int) := by rw [Int.tmod_eq_emod_of_nonneg (by omega)]; rfl
  rw [e2]
  generalize m % n = q at hk
  exact IntWalk.wrap64_in _ (by omega)
namespace InflateCut

theorem raw_k (w : World) (A : Option Addr) (c : Nat) (b : List UInt8) (n : Nat) (hn : b.length = n) (hbs : Bs w w.heap.size A b) (hl : n ≤ 3000000) :
    Calls Try.prog 10 #[.slice A n c, .int .i64 100000] w (RawR w (rawM b 100000)) := by
  have h := raw_n w A c b n hn 100000 hbs (by omega) ⟨by decide, fun k h1 _ => by have : (100000 : Int).toNat = 100000 := rfl; omega, by omega⟩
  exact h
theorem agree_take (b : List UInt8) (k : Nat) (h : k ≤ b.length) : Agree b (b.take k) k := ⟨by rw [List.take_take, Nat.min_self], h, by rw [List.length_take]; omega⟩
theorem agree_more (b more : List UInt8) (k : Nat) (h : k ≤ b.length) : Agree b (b.take k ++ more) k :=
  ⟨by rw [List.take_append_of_le_length (by rw [List.length_take]; omega), List.take_take, Nat.min_self], h, by rw [List.length_append, List.length_take]; omega⟩

set_option maxHeartbeats 8000000 in
set_option maxRecDepth 100000 in
theorem walk (A0 : Option Addr) (c0 : Nat) (b : List UInt8) (a1 : Int) (A2 : Option Addr) (c2 : Nat) (more : List UInt8) (w : World) (hb : Bs w w.heap.size A0 b) (hcb : b.length ≤ c0) (hl : b.length ≤ 1048576)
    (_ : -9223372036854775808 ≤ a1 ∧ a1 ≤ 9223372036854775807) (hm : Bs w w.heap.size A2 more) (_ : more.length ≤ c2) (hlm : more.length ≤ 1048576) :
    Calls Try.prog 6 #[.slice A0 b.length c0, .int .i64 a1, .slice A2 more.length c2] w fun e w' => e = .returned (.bool true) ∧ Below w.heap.size w w' := by
  obtain ⟨i0, hi, hz0, hz1, hz2⟩ := info_parts info_u8
  go_enter Try.func6, Try.ntmps6
  go_wp2_with fail
  refine (wakes_any w).mono ?_
  rintro e w1 ⟨rfl, hb1⟩
  have hs1 := hb1.size
  have HB1 := Lib.hid hb1
  clear hb1
  go_wp2_with fail
  refine (own_n A0 c0 b.length b rfl w.heap.size w1 (hb.below HB1.out) (by omega) hs1).mono ?_
  rintro e w2 ⟨A3, c3, rfl, o3, hb2⟩
  have HB2 := Lib.hid (HB1.out.trans (hb2.mono hs1))
  have hs2 := HB2.out.size
  have HR := Lib.hid (raw_k w2 A3 c3 b b.length rfl (own_bs rfl o3) (by omega))
  clear o3 hb2
  go_wp2_with fail
  rcases hx : rawM b 100000 with ke | ⟨out, n⟩
  · have hk0 := rawM_err hx
    rw [hx] at HR
    have d1 : ((ke : Int) != 0) = true := by rw [bne_iff_ne]; omega
    clear hx hk0
    refine HR.out.mono ?_
    rintro e w3 ⟨rfl, hb3⟩
    have HB3 := Lib.hid (HB2.out.trans (hb3.mono hs2))
    clear hb3
    go_wp2_with fail
    go_ret
    exact ⟨rfl, HB3.out⟩
  · obtain ⟨g1, g2, g3, _⟩ := rawM_used hx
    rw [hx] at HR
    refine HR.out.mono ?_
    rintro e w3 ⟨Ao, co, rfl, ho, hb3⟩
    have HB3 := Lib.hid (HB2.out.trans (hb3.mono hs2))
    have HX3 := Lib.hid (Bs.of_own ho)
    have hs3 := HB3.out.size
    clear ho hb3 HR
    obtain ⟨k, hkn, hk⟩ := spot_any a1 n g1 (by omega)
    have HC := Lib.hid ((rawM_loc (agree_take b k (by omega)) hx).2 hkn (by rw [List.length_take]; omega))
    have HM := Lib.hid ((rawM_loc (agree_more b more n g2) hx).1 (Nat.le_refl n))
    clear hx
    have d1 : decide ((n : Int) < 1) = false := by simp; omega
    have d2 : decide (b.length < n) = false := by simp; omega
    have hn1 : ¬ n = 0 := by omega
    have s1 : IntKind.u64.wrap (n : Int) = (n : Int) := by rw [IntKind.wrap_u64]; omega
    have s2 : (k : Int) ≤ (c0 : Int) := by omega
    have s3 : (n : Int) ≤ (c0 : Int) := by omega
    go_wp2_with fail
    refine (own_n A0 c0 k (b.take k) (by rw [List.length_take]; omega) w.heap.size w3 ((hb.below HB3.out).take k) (by omega) hs3).mono ?_
    rintro e w4 ⟨A4, c4, rfl, o4, hb4⟩
    have HB4 := Lib.hid (HB3.out.trans (hb4.mono hs3))
    have hs4 := HB4.out.size
    have hs34 := hb4.size
    have HX4 := Lib.hid ((HX3.out.below hb4).more hs34)
    have HR4 := Lib.hid (raw_k w4 A4 c4 (b.take k) k (by rw [List.length_take]; omega) (own_bs (by rw [List.length_take]; omega) o4) (by omega))
    rw [HC.out] at HR4
    clear o4 hb4 HC
    go_wp2_with fail
    refine HR4.out.mono ?_
    rintro e w5 ⟨rfl, hb5⟩
    have HB5 := Lib.hid (HB4.out.trans (hb5.mono hs4))
    have hs5 := HB5.out.size
    have HX5 := Lib.hid ((HX4.out.below hb5).more hb5.size)
    clear hb5 HR4
    go_wp2_with fail
    refine (own_n A0 c0 n (b.take n) (by rw [List.length_take]; omega) w.heap.size w5 ((hb.below HB5.out).take n) (by omega) hs5).mono ?_
    rintro e w6 ⟨A6, c6, rfl, o6, hb6⟩
    have HB6 := Lib.hid (HB5.out.trans (hb6.mono hs5))
    have hs6 := HB6.out.size
    have hs56 := hb6.size
    have HX6 := Lib.hid (HX5.out.below hb6)
    have HO6 := Lib.hid o6
    have HM6 := Lib.hid (hm.below HB6.out)
    clear o6 hb6
    go_wp2_with (at_builtin; refine wpList_append_bs _ rfl (.tmp 62) (.tmp 63) _ rfl w5.heap.size 5 i0 Try.underlying22 hi hz0 hz1 hz2 (.slice A6 n c6) n (bytesV (b.take n)) rfl HO6.out w.heap.size A2 c2 more rfl HM6.out (by omega) hs56 ?_; intro A7 c7 w7 o7 hg7 _; have HB7 := Lib.hid (HB6.out.grown hg7 (by omega) (fun k hk => by have := (HO6.out.lt k hk).1; omega)); have hs57 := Nat.le_trans hs56 hg7.size; have HX7 := Lib.hid (HX6.out.grown hg7 hs56 (fun k hk => (HO6.out.lt k hk).1)); rw [← bytesV_append] at o7; have HR7 := Lib.hid (raw_k w7 A7 c7 (b.take n ++ more) (n + more.length) (by rw [List.length_append, List.length_take]; omega) (own_bs (by rw [List.length_append, List.length_take]; omega) o7) (by omega)); clear o7 hg7)
    rw [HM.out] at HR7
    have hs7 := HB7.out.size
    clear HO6 HM6 HM
    refine HR7.out.mono ?_
    rintro e w8 ⟨Ay, cy, rfl, oy, hb8⟩
    have HB8 := Lib.hid (HB7.out.trans (hb8.mono hs7))
    have HY8 := Lib.hid (Bs.of_own oy)
    have hx78 : w5.heap.size ≤ w7.heap.size := hs57
    have HX8 := Lib.hid (((HX7.out.more hx78).below hb8).more hb8.size)
    clear oy hb8 HR7
    go_wp2_with fail
    refine (same_any Ao Ay co cy out out w8.heap.size w8 HX8.out HY8.out (by unfold maxLen; omega)).mono ?_
    rintro e w9 ⟨rfl, n9, rfl⟩
    rw [beq_self_eq_true]
    go_wp2_with fail
    go_ret
    exact ⟨rfl, below_drewN HB8.out n9⟩

set_option maxRecDepth 100000 in
theorem contract (H : Type) (enc : TypeId × Value → H) (W : World) (base : Nat) (args : Array Value) (ds gs : List (DataW H)) (before : List MemPlace)
    (hval : ∀ (j : Nat) t v, Try.f6.params[j]? = some t → args[j]? = some v → Value.okWide Try.prog W .any base t v)
    (hW : DataW.Whole enc Try.prog Try.f6.params.toList Rows.inflateCutSpec.vars false W args.toList ds gs before) (hk : Rows.uptoSmall H (ds ++ gs) = true) :
    Calls Try.prog 6 args W fun e W' => ∃ v, e = .returned v ∧ Rows.inflateCutSpec.post enc Try.prog Try.f6 false true false false W args v W' := by
  have hW' := hW
  obtain ⟨p, q, hA0, hV, rfl, hfz, hnd⟩ := hW
  have hA : DataW.TrodAll enc Try.prog W 0 (fun _ => true) true Try.f6.params.toList args.toList ds p := hA0
  rw [Try.params6] at hA hval
  obtain ⟨v0, vs0, d0, ds0, p0, q0, hargs, rfl, rfl, h0, r0⟩ := trodAll_cons hA
  obtain ⟨v1, vs1, d1, ds1, p1, q1, rfl, rfl, rfl, h1, r1⟩ := trodAll_cons r0
  obtain ⟨v2, vs2, d2, ds2, p2, q2, rfl, rfl, rfl, h2, r2⟩ := trodAll_cons r1
  obtain ⟨rfl, rfl, rfl⟩ := trodAll_nil r2
  obtain rfl : args = #[v0, v1, v2] := by cases args; simp_all
  obtain ⟨rfl, rfl⟩ := trodVars_none hV
  obtain ⟨A0, l0, c0, rfl, hb0, hcp0, hd0⟩ := open_bytes (hval 0 22 v0 rfl rfl) h0
  obtain ⟨a1, rfl, rfl, rfl, w1⟩ := open_int Try.underlying3 (hval 1 3 v1 rfl rfl) h1
  obtain ⟨A2, l2, c2, rfl, hb2, hcp2, hd2⟩ := open_bytes (hval 2 22 v2 rfl rfl) h2
  have hl0 : l0.length ≤ 1048576 := by
    rcases hd0 with ⟨_, rfl⟩ | ⟨e, s, rfl, hle⟩
    · simp
    · have h1 := bulk_le hk
      simp only [List.cons_append, List.nil_append] at h1
      have h2 := Nat.le_trans (bulk_slice e s _) h1
      omega
  have hl2 : l2.length ≤ 1048576 := by
    rcases hd2 with ⟨_, rfl⟩ | ⟨e, s, rfl, hle⟩
    · simp
    · have h1 := bulk_le hk
      simp only [List.cons_append, List.nil_append] at h1
      replace h1 := Nat.le_trans (bulk_tail _ _) h1
      replace h1 := Nat.le_trans (bulk_tail _ _) h1
      have h2 := Nat.le_trans (bulk_slice e s _) h1
      omega
  have lt0 : ∀ x ∈ p0, x.block < W.heap.size := by obtain ⟨m, hm⟩ := h0; exact DataW.trod_lt m _ _ _ hm
  have lt2 : ∀ x ∈ p2, x.block < W.heap.size := by obtain ⟨m, hm⟩ := h2; exact DataW.trod_lt m _ _ _ hm
  clear hA0
  refine (walk A0 c0 l0 a1 A2 c2 l2 W hb0 hcp0 hl0 (bounds_i64 w1) hb2 hcp2 hl2).mono fun e W' ⟨he, bel⟩ => ?_
  subst he
  exact ⟨_, rfl, _, _, _, [], _, [], hW', trodAll_mk1 (shut_bool Try.underlying4 _), (trodAll_cons_mk (Below.trod prog_laid (by kernel_rfl) (of_decide_eq_true (by kernel_rfl)) h0 bel lt0) (trodAll_cons_mk (shut_int Try.underlying3 w1) (trodAll_cons_mk (Below.trod prog_laid (by kernel_rfl) (of_decide_eq_true (by kernel_rfl)) h2 bel lt2) trodAll_mk0))), rfl, bel.frame _, fun h => by cases h⟩

set_option maxRecDepth 100000 in
theorem lifted (os : Os) (started : os.Started) (H : Type) (enc : TypeId × Value → H) (F : Stop.Interp) :
    ReturnsInHanded {} Try.checked os 6 .any ((Rows.OpenSpec.upto Rows.inflateCutSpec).pre6 enc Try.prog Try.f6 Rows.inflateCutUptoRow.domain false) (((Rows.OpenSpec.upto Rows.inflateCutSpec).at F).post enc Try.prog Try.f6 false true false false) := by
  refine returnsInHanded_of_cond (C := Try.checked) (s := Rows.OpenSpec.upto Rows.inflateCutSpec) (k := Rows.uptoSmall) rfl prog_own started (by kernel_rfl) Try.func6
    (OpenSpec.witness (enc := enc) (C := Try.checked) (s := Rows.OpenSpec.upto Rows.inflateCutSpec) (k := Rows.uptoSmall) rfl false ⟨#[], #[.slice none 0 0, .int .i64 0, .slice none 0 0], []⟩ 8 (by kernel_rfl) (by kernel_rfl) (by kernel_rfl)
      (x := ([.nil, .lit (.int .i64 0), .nil], [], [])) (by kernel_rfl) rfl (by kernel_rfl)) ?_
  intro W base args ds gs before hval hW _ hk _
  exact contract H enc W base args ds gs before hval hW hk

theorem over : Rows.inflateCutUptoRow.holds Try.pinned (Rows.OpenSpec.upto Rows.inflateCutSpec) :=
  OpenClaim.holds_of_cond 6 Try.f6 rfl rfl rfl rfl rfl rfl rfl ⟨rfl, rfl, rfl, rfl, rfl⟩ rfl rfl rfl rfl rfl (by kernel_rfl) Try.func6 (by kernel_rfl)
    (of_decide_eq_true (by kernel_rfl)) (by unfold Func.isWrapper; first | (rw [if_pos (by decide +kernel)]; kernel_rfl) | (rw [if_neg (by decide +kernel)]; exact ⟨rfl, rfl⟩))
    (fun os started H enc _ F => lifted os started H enc F)
end InflateCut

theorem inflateCut_holds : Rows.InflateCutUptoSaid := InflateCut.over
#print axioms inflateCut_holds
end Go.Proofs.Ytpemgjnoinnlnaa
