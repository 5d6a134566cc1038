/- Proved: a right stream is right with zlib's head and sum, and wrong with any other sum: for every list of bytes and number whose readings are together of bulk at most 1048576 (the second form). -/
import Derived.Test.YtpemgjnoinnlnaaIt
import Derived.Test.YtpemgjnoinnlnaaJa
import Derived.Test.YtpemgjnoinnlnaaJb
import Derived.Test.YtpemgjnoinnlnaaSame
import Derived.Test.YtpemgjnoinnlnaaOp
import Derived.Deep.CutBlock
namespace Go.Proofs.Ytpemgjnoinnlnaa
open Go.ChangeShapes Go.WideShapes Go.ChangeAt Go.RowKit
namespace InflateWraps

theorem raw_k (w : World) (A : Option Addr) (c : Nat) (b : List UInt8) (n : Nat) (hn : b.length = n) (hbs : Bs w w.heap.size A b) (hl : n ≤ 3000000) :
    Calls Try.prog 10 #[.slice A n c, .int .i64 100000] w (RawR w (rawM b 100000)) := by
  have h := raw_n w A c b n hn 100000 hbs (by omega) ⟨by decide, fun k h1 _ => by have : (100000 : Int).toNat = 100000 := rfl; omega, by omega⟩
  exact h
/-- The wrapped stream. -/
def wrapL (b : List UInt8) (n s : Nat) : List UInt8 := [120, 1] ++ b.take n ++ [UInt8.ofNat (s / 16777216), UInt8.ofNat (s / 65536), UInt8.ofNat (s / 256), UInt8.ofNat s, 9]
theorem agree_wrap (b : List UInt8) (n s : Nat) (h : n ≤ b.length) : Agree b ((wrapL b n s).drop 2) n := by
  have e : (wrapL b n s).drop 2 = b.take n ++ [UInt8.ofNat (s / 16777216), UInt8.ofNat (s / 65536), UInt8.ofNat (s / 256), UInt8.ofNat s, 9] := by unfold wrapL; rfl
  rw [e]
  exact ⟨by rw [List.take_append_of_le_length (by rw [List.length_take]; omega), List.take_take, Nat.min_self], h, by rw [List.length_append, List.length_take]; omega⟩
theorem wrapL_len (b : List UInt8) (n s : Nat) (h : n ≤ b.length) : (wrapL b n s).length = n + 7 := by
  unfold wrapL
  simp
  omega
theorem wrap_head (b : List UInt8) (n s : Nat) : headM (wrapL b n s) = 0 := by
  unfold headM wrapL byteAt
  simp
theorem wrap_sum (b : List UInt8) (n s : Nat) (h : n ≤ b.length) (hs : s < 4294967296) : sumAt (wrapL b n s) (2 + n) = s := by
  have e : ∀ i x, [UInt8.ofNat (s / 16777216), UInt8.ofNat (s / 65536), UInt8.ofNat (s / 256), UInt8.ofNat s, (9 : UInt8)][i]? = some x → byteAt (wrapL b n s) (2 + n + i) = x.toNat := fun i x hx => by
    unfold byteAt wrapL
    rw [List.getElem?_append_right (by simp; omega)]
    have : 2 + n + i - ([120, 1] ++ b.take n).length = i := by simp; omega
    rw [this, hx]
    rfl
  unfold sumAt numB
  simp only [if_true, beNum]
  rw [e 0 _ rfl, e 1 _ rfl, e 2 _ rfl, e 3 _ rfl]
  simp only [UInt8.toNat_ofNat']
  omega
theorem zlib_wrap (b out : List UInt8) (n s most : Nat) (h : rawM b most = .ok (out, n)) (hs : s < 4294967296) : zlibM (wrapL b n s) out.length = if s ≠ adOn 1 out then .error 44 else .ok out := by
  obtain ⟨_, g2, _, _⟩ := rawM_used h
  have h1 : rawM ((wrapL b n s).drop 2) out.length = .ok (out, n) := (rawM_loc (agree_wrap b n s g2) (rawM_room h (Nat.le_refl _))).1 (Nat.le_refl n)
  unfold zlibM
  rw [wrap_head, if_neg (by decide), h1]
  dsimp only
  rw [wrapL_len b n s g2, if_neg (by omega), wrap_sum b n s g2 hs]
theorem head_own (w : World) (t : TypeId) : (w.alloc (.cells #[.int .u8 120, .int .u8 1] t)).ownsRow w.heap.size t 1 (.slice (some ⟨w.heap.size, 0, none⟩) 2 2) 2 (bytesV [120, 1]) :=
  ⟨rfl, .inr ⟨w.heap.size, 2, _, rfl, Nat.le_refl _, heap_alloc_new w _, Nat.le_refl _, by decide, rfl, rfl⟩⟩

def tailL (s : Nat) : List UInt8 := [UInt8.ofNat (s / 16777216), UInt8.ofNat (s / 65536), UInt8.ofNat (s / 256), UInt8.ofNat s, 9]
theorem tail_cells (s : Nat) (h : s < 4294967296) : (#[.int .u8 ((s : Int) / 16777216), .int .u8 ((s : Int) / 65536 % 256), .int .u8 ((s : Int) / 256 % 256), .int .u8 ((s : Int) % 256), .int .u8 9] : Array Value) = (bytesV (tailL s)).toArray := by
  have e1 : ((UInt8.ofNat (s / 16777216)).toNat : Int) = (s : Int) / 16777216 := by rw [UInt8.toNat_ofNat']; omega
  have e2 : ((UInt8.ofNat (s / 65536)).toNat : Int) = (s : Int) / 65536 % 256 := by rw [UInt8.toNat_ofNat']; omega
  have e3 : ((UInt8.ofNat (s / 256)).toNat : Int) = (s : Int) / 256 % 256 := by rw [UInt8.toNat_ofNat']; omega
  have e4 : ((UInt8.ofNat s).toNat : Int) = (s : Int) % 256 := by rw [UInt8.toNat_ofNat']; omega
  rw [← e1, ← e2, ← e3, ← e4]
  rfl
theorem tail_bs (w : World) (s : Nat) (h : s < 4294967296) : Bs (w.alloc (.cells #[.int .u8 ((s : Int) / 16777216), .int .u8 ((s : Int) / 65536 % 256), .int .u8 ((s : Int) / 256 % 256), .int .u8 ((s : Int) % 256), .int .u8 9] 5)) (w.heap.size + 1) (some ⟨w.heap.size, 0, none⟩) (tailL s) := by
  rw [tail_cells s h]
  exact bs_lit2 w 5 (tailL s)
theorem zlib_n (w : World) (A : Option Addr) (c : Nat) (b : List UInt8) (n : Nat) (hn : b.length = n) (mo : Int) (hbs : Bs w w.heap.size A b) (hmo : 0 ≤ mo ∧ mo ≤ 100000) (hl : n ≤ 3000000) (hc : n ≤ c) :
    Calls Try.prog 14 #[.slice A n c, .int .i64 mo] w (ZlibR w (zlibM b mo.toNat)) := by
  subst hn
  exact zlib_any w A c b mo hbs (by omega) ⟨by omega, fun k h1 _ => by omega, by omega⟩ hc

set_option maxHeartbeats 8000000 in
set_option maxRecDepth 100000 in
theorem walk (A0 : Option Addr) (c0 : Nat) (b : List UInt8) (a1 : Int) (w : World) (hb : Bs w w.heap.size A0 b) (hcb : b.length ≤ c0) (hl : b.length ≤ 1048576)
    (ha : 0 ≤ a1 ∧ a1 ≤ 4294967295) :
    Calls Try.prog 7 #[.slice A0 b.length c0, .int .u32 a1] w fun e w' => e = .returned (.bool true) ∧ Below w.heap.size w w' := by
  obtain ⟨i0, hi, hz0, hz1, hz2⟩ := info_parts info_u8
  obtain ⟨y, rfl⟩ : ∃ y : Nat, a1 = (y : Int) := ⟨a1.toNat, by omega⟩
  have hy : y < 4294967296 := by omega
  clear ha
  go_enter Try.func7, Try.ntmps7
  go_wp2_with fail
  refine (wakes_any w).mono ?_
  rintro e w1 ⟨rfl, hb1⟩
  have hs1 := hb1.size
  have HB1 := Lib.hid hb1
  clear hb1
  go_wp2_with fail
  refine (own_n A0 c0 b.length b rfl w.heap.size w1 (hb.below HB1.out) (by omega) hs1).mono ?_
  rintro e w2 ⟨A3, c3, rfl, o3, hb2⟩
  have HB2 := Lib.hid (HB1.out.trans (hb2.mono hs1))
  have hs2 := HB2.out.size
  have HR := Lib.hid (raw_k w2 A3 c3 b b.length rfl (own_bs rfl o3) (by omega))
  clear o3 hb2
  go_wp2_with fail
  rcases hx : rawM b 100000 with ke | ⟨out, n⟩
  · have hk0 := rawM_err hx
    rw [hx] at HR
    have d1 : ((ke : Int) != 0) = true := by rw [bne_iff_ne]; omega
    clear hx hk0
    refine HR.out.mono ?_
    rintro e w3 ⟨rfl, hb3⟩
    have HB3 := Lib.hid (HB2.out.trans (hb3.mono hs2))
    clear hb3
    go_wp2_with fail
    go_ret
    exact ⟨rfl, HB3.out⟩
  · obtain ⟨g1, g2, g3, _⟩ := rawM_used hx
    rw [hx] at HR
    refine HR.out.mono ?_
    rintro e w3 ⟨Ao, co, rfl, ho, hb3⟩
    have HB3 := Lib.hid (HB2.out.trans (hb3.mono hs2))
    have HX3 := Lib.hid (Bs.of_own ho)
    have hs3 := HB3.out.size
    clear ho hb3 HR
    have hal : adOn 1 out < 4294967296 := adOn_lt 1 out
    obtain ⟨sm, hsm⟩ : ∃ s, adOn 1 out ^^^ y = s := ⟨_, rfl⟩
    have hsl : sm < 4294967296 := by rw [← hsm]; exact xor_lt hal hy
    have HZ := Lib.hid (zlib_wrap b out n sm 100000 hx hsl)
    have hxr := xor_u32 (adOn 1 out) y hal hy
    rw [hsm] at hxr
    have HLW := Lib.hid (wrapL_len b n sm g2)
    have HSM := Lib.hid hsm
    clear hx hsm
    have d1 : decide ((n : Int) < 1) = false := by simp; omega
    have d2 : decide (b.length < n) = false := by simp; omega
    have s3 : (n : Int) ≤ (c0 : Int) := by omega
    go_wp2_with fail
    refine (refAdler_any Ao co out w3.heap.size w3 HX3.out (by unfold maxLen; omega)).mono ?_
    rintro e w4 ⟨rfl, rfl⟩
    have HBt := Lib.hid ((hb.below HB3.out).take n)
    have HO5 := Lib.hid (head_own w3 5)
    have HLt : Hid ((b.take n).length = n) := Lib.hid (by rw [List.length_take]; omega)
    go_upto_region 10 with (at_builtin; refine wpList_append_bs _ rfl (.tmp 38) (.tmp 41) _ rfl w3.heap.size 5 i0 Try.underlying22 hi hz0 hz1 hz2 (.slice (some ⟨w3.heap.size, 0, none⟩) 2 2) 2 (bytesV [120, 1]) rfl HO5.out w.heap.size A0 c0 (b.take n) (by rw [HLt.out]; rfl) (HBt.out.alloc hs3 _) (by rw [HLt.out]; omega) (by simp) ?_; intro A6 c6 w6 o6 hg6 _)
    have HB6 := Lib.hid ((HB3.out.alloc hs3 (.cells #[.int .u8 120, .int .u8 1] 5)).grown hg6 (by simp; omega) (fun k hk => by have := (HO5.out.lt k hk).1; omega))
    have HX6 := Lib.hid ((HX3.out.alloc (Nat.le_refl _) (.cells #[.int .u8 120, .int .u8 1] 5)).grown hg6 (by simp) (fun k hk => (HO5.out.lt k hk).1))
    rw [← bytesV_append, HLt.out] at o6
    have hs36 : w3.heap.size ≤ w6.heap.size := by have h1 := hg6.size; simp at h1; omega
    have HO6 := Lib.hid o6
    clear o6 hg6 HO5 HBt
    have HT := Lib.hid (tail_bs w6 sm hsl)
    have HTl : Hid ((tailL sm).length = 5) := Lib.hid rfl
    have hs6 := HB6.out.size
    go_wp2_with (at_builtin; refine wpList_append_bs _ rfl (.tmp 43) (.tmp 55) _ rfl w3.heap.size 5 i0 Try.underlying22 hi hz0 hz1 hz2 (.slice A6 (2 + n) c6) (2 + n) (bytesV ([120, 1] ++ b.take n)) rfl (HO6.out.alloc _) (w6.heap.size + 1) (some ⟨w6.heap.size, 0, none⟩) 5 (tailL sm) rfl HT.out (by rw [HTl.out]; omega) (by simp; omega) ?_; intro A7 c7 w7 o7 hg7 _; have HB7 := Lib.hid ((HB6.out.alloc hs6 (.cells #[.int .u8 ((sm : Int) / 16777216), .int .u8 ((sm : Int) / 65536 % 256), .int .u8 ((sm : Int) / 256 % 256), .int .u8 ((sm : Int) % 256), .int .u8 9] 5)).grown hg7 (by simp; omega) (fun k hk => by have := (HO6.out.lt k hk).1; omega)); have HX7 := Lib.hid ((HX6.out.alloc hs36 (.cells #[.int .u8 ((sm : Int) / 16777216), .int .u8 ((sm : Int) / 65536 % 256), .int .u8 ((sm : Int) / 256 % 256), .int .u8 ((sm : Int) % 256), .int .u8 9] 5)).grown hg7 (by simp; omega) (fun k hk => (HO6.out.lt k hk).1)); rw [← bytesV_append, HTl.out] at o7; have hs37 : w3.heap.size ≤ w7.heap.size := by { have h1 := hg7.size; simp at h1; omega }; have HO7 := Lib.hid o7; clear o7 hg7)
    obtain ⟨_, _, hc7, _⟩ := row_form HO7.out (by omega)
    have HZ7 := Lib.hid (zlib_n w7 A7 c7 (wrapL b n sm) (2 + n + 5) (by rw [HLW.out]; omega) (out.length : Int) (own_bs (by rw [HLW.out]; omega) HO7.out) (by omega) (by omega) hc7)
    rw [Int.toNat_natCast, HZ.out] at HZ7
    have hs7 := HB7.out.size
    clear HO6 HO7 HT HTl HLt HLW HX6 hc7 HZ
    by_cases hy0 : y = 0
    · subst hy0
      have he : ¬ sm ≠ adOn 1 out := by rw [← HSM.out]; simp
      rw [if_neg he] at HZ7
      clear he HSM hxr
      refine HZ7.out.mono ?_
      rintro e w8 ⟨Ay, cy, rfl, oy, hb8⟩
      have HB8 := Lib.hid (HB7.out.trans (hb8.mono hs7))
      have HY8 := Lib.hid (Bs.of_own oy)
      have HX8 := Lib.hid (((HX7.out.more hs37).below hb8).more hb8.size)
      clear oy hb8 HZ7
      go_wp2_with fail
      refine (same_any Ao Ay co cy out out w8.heap.size w8 HX8.out HY8.out (by unfold maxLen; omega)).mono ?_
      rintro e w9 ⟨rfl, n9, rfl⟩
      rw [beq_self_eq_true]
      go_wp2_with fail
      go_ret
      exact ⟨rfl, below_drewN HB8.out n9⟩
    · have he : sm ≠ adOn 1 out := fun e => hy0 (by
        have h1 := HSM.out
        rw [e] at h1
        have h2 : adOn 1 out ^^^ (adOn 1 out ^^^ y) = adOn 1 out ^^^ adOn 1 out := by rw [h1]
        rw [← Nat.xor_assoc, Nat.xor_self, Nat.zero_xor] at h2
        exact h2)
      rw [if_pos he] at HZ7
      have d3 : ((y : Int) == 0) = false := by rw [beq_eq_false_iff_ne]; omega
      clear he HSM hxr hy0
      refine HZ7.out.mono ?_
      rintro e w8 ⟨rfl, hb8⟩
      have HB8 := Lib.hid (HB7.out.trans (hb8.mono hs7))
      clear hb8 HZ7
      go_wp2_with fail
      go_ret
      exact ⟨rfl, HB8.out⟩

set_option maxRecDepth 100000 in
theorem contract (H : Type) (enc : TypeId × Value → H) (W : World) (base : Nat) (args : Array Value) (ds gs : List (DataW H)) (before : List MemPlace)
    (hval : ∀ (j : Nat) t v, Try.f7.params[j]? = some t → args[j]? = some v → Value.okWide Try.prog W .any base t v)
    (hW : DataW.Whole enc Try.prog Try.f7.params.toList Rows.inflateWrapsSpec.vars false W args.toList ds gs before) (hk : Rows.uptoSmall H (ds ++ gs) = true) :
    Calls Try.prog 7 args W fun e W' => ∃ v, e = .returned v ∧ Rows.inflateWrapsSpec.post enc Try.prog Try.f7 false true false false W args v W' := by
  have hW' := hW
  obtain ⟨p, q, hA0, hV, rfl, hfz, hnd⟩ := hW
  have hA : DataW.TrodAll enc Try.prog W 0 (fun _ => true) true Try.f7.params.toList args.toList ds p := hA0
  rw [Try.params7] at hA hval
  obtain ⟨v0, vs0, d0, ds0, p0, q0, hargs, rfl, rfl, h0, r0⟩ := trodAll_cons hA
  obtain ⟨v1, vs1, d1, ds1, p1, q1, rfl, rfl, rfl, h1, r1⟩ := trodAll_cons r0
  obtain ⟨rfl, rfl, rfl⟩ := trodAll_nil r1
  obtain rfl : args = #[v0, v1] := by cases args; simp_all
  obtain ⟨rfl, rfl⟩ := trodVars_none hV
  obtain ⟨A0, l0, c0, rfl, hb0, hcp0, hd0⟩ := open_bytes (hval 0 22 v0 rfl rfl) h0
  obtain ⟨a1, rfl, rfl, rfl, w1⟩ := open_int Try.underlying40 (hval 1 40 v1 rfl rfl) h1
  have hl0 : l0.length ≤ 1048576 := by
    rcases hd0 with ⟨_, rfl⟩ | ⟨e, s, rfl, hle⟩
    · simp
    · have h1 := bulk_le hk
      simp only [List.cons_append, List.nil_append] at h1
      have h2 := Nat.le_trans (bulk_slice e s _) h1
      omega
  have lt0 : ∀ x ∈ p0, x.block < W.heap.size := by obtain ⟨m, hm⟩ := h0; exact DataW.trod_lt m _ _ _ hm
  clear hA0
  refine (walk A0 c0 l0 a1 W hb0 hcp0 hl0 (bounds_u32 w1)).mono fun e W' ⟨he, bel⟩ => ?_
  subst he
  exact ⟨_, rfl, _, _, _, [], _, [], hW', trodAll_mk1 (shut_bool Try.underlying4 _), (trodAll_cons_mk (Below.trod prog_laid (by kernel_rfl) (of_decide_eq_true (by kernel_rfl)) h0 bel lt0) (trodAll_cons_mk (shut_int Try.underlying40 w1) trodAll_mk0)), rfl, bel.frame _, fun h => by cases h⟩

set_option maxRecDepth 100000 in
theorem lifted (os : Os) (started : os.Started) (H : Type) (enc : TypeId × Value → H) (F : Stop.Interp) :
    ReturnsInHanded {} Try.checked os 7 .any ((Rows.OpenSpec.upto Rows.inflateWrapsSpec).pre6 enc Try.prog Try.f7 Rows.inflateWrapsUptoRow.domain false) (((Rows.OpenSpec.upto Rows.inflateWrapsSpec).at F).post enc Try.prog Try.f7 false true false false) := by
  refine returnsInHanded_of_cond (C := Try.checked) (s := Rows.OpenSpec.upto Rows.inflateWrapsSpec) (k := Rows.uptoSmall) rfl prog_own started (by kernel_rfl) Try.func7
    (OpenSpec.witness (enc := enc) (C := Try.checked) (s := Rows.OpenSpec.upto Rows.inflateWrapsSpec) (k := Rows.uptoSmall) rfl false ⟨#[], #[.slice none 0 0, .int .u32 0], []⟩ 8 (by kernel_rfl) (by kernel_rfl) (by kernel_rfl)
      (x := ([.nil, .lit (.int .u32 0)], [], [])) (by kernel_rfl) rfl (by kernel_rfl)) ?_
  intro W base args ds gs before hval hW _ hk _
  exact contract H enc W base args ds gs before hval hW hk

theorem over : Rows.inflateWrapsUptoRow.holds Try.pinned (Rows.OpenSpec.upto Rows.inflateWrapsSpec) :=
  OpenClaim.holds_of_cond 7 Try.f7 rfl rfl rfl rfl rfl rfl rfl ⟨rfl, rfl, rfl, rfl, rfl⟩ rfl rfl rfl rfl rfl (by kernel_rfl) Try.func7 (by kernel_rfl)
    (of_decide_eq_true (by kernel_rfl)) (by unfold Func.isWrapper; first | (rw [if_pos (by decide +kernel)]; kernel_rfl) | (rw [if_neg (by decide +kernel)]; exact ⟨rfl, rfl⟩))
    (fun os started H enc _ F => lifted os started H enc F)
end InflateWraps

theorem inflateWraps_holds : Rows.InflateWrapsUptoSaid := InflateWraps.over
#print axioms inflateWraps_holds
end Go.Proofs.Ytpemgjnoinnlnaa
