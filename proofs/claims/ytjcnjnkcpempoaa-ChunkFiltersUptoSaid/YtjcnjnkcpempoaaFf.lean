/- Joined texts (a claim has at most 60 files). -/
import Derived.Test.YtjcnjnkcpempoaaOp
import Derived.Laws.IdiomArrays
import Derived.Lib.SmallJoins
import Derived.Deep.Strs
import Derived.Test.YtjcnjnkcpempoaaFd
import Derived.Test.YtjcnjnkcpempoaaFa
/- How an argument of three numbers is opened. -/
set_option linter.unusedVariables false
namespace Go.Proofs.Ytjcnjnkcpempoaa
open Go.ChangeShapes Go.WideShapes Go.ChangeAt Go.RowKit

section
variable {H : Type} {enc : TypeId × Value → H} {W : World} {base : Nat} {v : Value} {d : DataW H} {p : List MemPlace}
theorem open_three (hv : Value.okWide Try.prog W .any base 42 v) (hj : DataW.Trod enc Try.prog W 0 (fun _ => true) true 42 v d p) :
    ∃ a b c : Int, v = .agg #[.int .i64 a, .int .i64 b, .int .i64 c] ∧ (-9223372036854775808 ≤ a ∧ a ≤ 9223372036854775807) ∧ (-9223372036854775808 ≤ b ∧ b ≤ 9223372036854775807) ∧ (-9223372036854775808 ≤ c ∧ c ≤ 9223372036854775807) := by
  simp only [Value.okWide, Try.underlying42] at hv
  obtain ⟨cs, rfl, hsz, _⟩ := hv
  have h3 : Try.prog.cellsOf 42 = 3 := by kernel_rfl
  obtain ⟨c0, c1, c2, rfl⟩ := Joins.array3 (hsz.trans h3)
  obtain ⟨fuel, hf⟩ := hj
  obtain ⟨y0, y1, y2, n, _, h0, h1, h2⟩ := trod_array3 Try.underlying42 (by kernel_rfl) hf
  obtain ⟨a, e0, _, wa⟩ := DataW.trod_int Try.underlying3 h0
  obtain ⟨b, e1, _, wb⟩ := DataW.trod_int Try.underlying3 h1
  obtain ⟨c, e2, _, wc⟩ := DataW.trod_int Try.underlying3 h2
  simp at e0 e1 e2
  subst e0 e1 e2
  exact ⟨a, b, c, rfl, bounds_i64 wa, bounds_i64 wb, bounds_i64 wc⟩
end
end Go.Proofs.Ytjcnjnkcpempoaa

/- What is filtered comes back: mathematics. No walk. -/
set_option linter.unusedVariables false
set_option linter.unusedSimpArgs false
namespace Go.Proofs.Ytjcnjnkcpempoaa

theorem flt_at (K bpp : Nat) (r ab : List UInt8) : ∀ (W n : Nat), n < W → byteAt (flt K bpp r ab W) n = (byteAt r n + 256 - gsB K bpp n r ab) % 256
  | 0, n, h => by omega
  | W + 1, n, h => by
    rw [flt]
    by_cases hn : n < W
    · rw [byteAt_app_l (by rw [flt_length]; exact hn)]
      exact flt_at K bpp r ab W n hn
    · obtain rfl : n = W := by omega
      rw [byteAt_app_r (by rw [flt_length]; omega), flt_length, Nat.sub_self]
      simp [byteAt]
theorem ofNat_byteAt (l : List UInt8) (n : Nat) (h : n < l.length) : UInt8.ofNat (byteAt l n) = l[n] := by
  rw [← byteAt_get l n h]
  simp
theorem uRow_flt (K bpp W : Nat) (r ab : List UInt8) (hb : 1 ≤ bpp) (hr : r.length = W) : ∀ n, n ≤ W → uRow K bpp (flt K bpp r ab W) ab n = r.take n
  | 0, _ => by simp [uRow]
  | n + 1, h => by
    rw [uRow, uRow_flt K bpp W r ab hb hr n (by omega), List.take_succ_eq_append_getElem (by omega), flt_at K bpp r ab W n (by omega)]
    congr 2
    have hg : gsB K bpp n (r.take n) ab = gsB K bpp n r ab := gsB_congr (fun h => byteAt_take (by omega)) rfl (fun _ => rfl)
    rw [hg, ← ofNat_byteAt r n (by omega)]
    have h1 := byteAt_lt r n
    have h2 := gsB_lt K bpp n r ab
    apply UInt8.toNat_inj.1
    simp only [UInt8.toNat_ofNat']
    omega
theorem outF_pre (K W bpp : Nat) (lb : List UInt8) (k : Nat) : ∀ N, k < N → ∃ rest, outF K W bpp lb N = outF K W bpp lb k ++ (([UInt8.ofNat K] ++ flt K bpp (pcF W lb k) (abF W lb k) W) ++ rest)
  | 0, h => by omega
  | N + 1, h => by
    rw [outF]
    by_cases hk : k < N
    · obtain ⟨rest, e⟩ := outF_pre K W bpp lb k N hk
      rw [e]
      exact ⟨rest ++ ([UInt8.ofNat K] ++ flt K bpp (pcF W lb N) (abF W lb N) W), by simp [List.append_assoc]⟩
    · obtain rfl : k = N := by omega
      exact ⟨[], by simp [List.append_assoc]⟩
theorem pcU_outF (K W bpp : Nat) (lb : List UInt8) (k N : Nat) (hk : k < N) : pcU W (outF K W bpp lb N) k = [UInt8.ofNat K] ++ flt K bpp (pcF W lb k) (abF W lb k) W := by
  obtain ⟨rest, e⟩ := outF_pre K W bpp lb k N hk
  rw [pcU, e, List.drop_append_of_le_length (by rw [outF_length]; omega), List.drop_of_length_le (by rw [outF_length]; omega), List.nil_append, List.take_append_of_le_length (by rw [List.length_append, flt_length]; simp; omega), List.take_of_length_le (by rw [List.length_append, flt_length]; simp; omega)]
theorem pcF_len {W : Nat} {lb : List UInt8} {N k : Nat} (h : W * N = lb.length) (hk : k < N) : (pcF W lb k).length = W := by
  have := Nat.mul_le_mul_left W (show k + 1 ≤ N by omega)
  rw [Nat.mul_succ, h] at this
  rw [pcF, List.length_take, List.length_drop]
  omega
theorem kind_at (K : Nat) (hK : K ≤ 4) (l : List UInt8) : byteAt ([UInt8.ofNat K] ++ l) 0 = K := by
  simp [byteAt]
  omega
theorem rowU_outF (K W bpp : Nat) (hK : K ≤ 4) (hb : 1 ≤ bpp) (lb : List UInt8) (N : Nat) (hN : W * N = lb.length) : ∀ k, k ≤ N → rowU W bpp (outF K W bpp lb N) k = abF W lb k
  | 0, _ => rfl
  | k + 1, h => by
    rw [rowU, rowU_outF K W bpp hK hb lb N hN k (by omega), pcU_outF K W bpp lb k N (by omega), kind_at K hK]
    rw [show ([UInt8.ofNat K] ++ flt K bpp (pcF W lb k) (abF W lb k) W).drop 1 = flt K bpp (pcF W lb k) (abF W lb k) W from rfl]
    rw [uRow_flt K bpp W (pcF W lb k) (abF W lb k) hb (pcF_len hN (by omega)) W (Nat.le_refl _), List.take_of_length_le (by rw [pcF_len hN (by omega)]; omega)]
    rfl
theorem outU_outF (K W bpp : Nat) (hK : K ≤ 4) (hb : 1 ≤ bpp) (lb : List UInt8) (N : Nat) (hN : W * N = lb.length) : ∀ k, k ≤ N → outU W bpp (outF K W bpp lb N) k = lb.take (W * k)
  | 0, _ => by simp [outU]
  | k + 1, h => by
    rw [outU, outU_outF K W bpp hK hb lb N hN k (by omega), rowU_outF K W bpp hK hb lb N hN (k + 1) h, abF, pcF, Nat.mul_succ, List.take_add]
/-- What is filtered comes back. -/
theorem uf_back (width bpp kind : Int) (lb b : List UInt8) (h : filtM width bpp kind lb = .ok b) : ufM width bpp b = .ok lb := by
  unfold filtM at h
  split at h
  · cases h
  · rename_i hc
    injection h with h
    have hmay : mayC width bpp = true := by
      cases hm : mayC width bpp with
      | true => rfl
      | false => exact absurd (.inl hm) hc
    obtain ⟨W, p, rfl, rfl, W1, W2, b1, b2⟩ := mayC_ok hmay
    simp only [Int.toNat_natCast] at h hc
    have hN : W * (lb.length / W) = lb.length := by
      have := Nat.div_add_mod lb.length W
      have : lb.length % W = 0 := Classical.byContradiction fun hn => hc (.inr (.inr (.inr hn)))
      omega
    have hK : kind.toNat ≤ 4 := by
      rcases Int.lt_or_le 4 kind with hk | hk
      · exact absurd (.inr (.inr (.inl hk))) hc
      · omega
    generalize lb.length / W = N at *
    have hl : b.length = (W + 1) * N := by rw [← h, outF_length]
    have hdiv : (W + 1) * N / (W + 1) = N := Nat.mul_div_cancel_left _ (by omega)
    unfold ufM
    simp only [Int.toNat_natCast]
    rw [if_neg (by rw [hmay]; simp), if_neg (by rw [hl]; simp), if_neg, hl, hdiv, ← h, outU_outF _ _ _ hK b1 lb N hN N (Nat.le_refl _), hN, List.take_length]
    rintro ⟨k, hk, h4⟩
    rw [hl, hdiv] at hk
    rw [← h, pcU_outF _ _ _ _ k N hk, kind_at _ hK] at h4
    omega
end Go.Proofs.Ytjcnjnkcpempoaa

/- Proved: rows are filtered each way as the document says, and come back. Condition: the form's own (rows of at most 1048576 bytes). -/
set_option linter.unusedVariables false
set_option linter.unusedSimpArgs false
namespace Go.Proofs.Ytjcnjnkcpempoaa
open Go.ChangeShapes Go.WideShapes Go.ChangeAt Go.RowKit
namespace ChunkFilters

theorem ret_tt {a : Bool} (h : a = true) : Ending.returned (.bool a) = .returned (.bool true) := by rw [h]
theorem filt_len {width bpp kind : Int} {lb b : List UInt8} (h : filtM width bpp kind lb = .ok b) : b.length ≤ 2 * lb.length := by
  unfold filtM at h
  split at h
  · cases h
  · rename_i hc
    injection h with h
    have hmay : mayC width bpp = true := by
      cases hm : mayC width bpp with
      | true => rfl
      | false => exact absurd (.inl hm) hc
    obtain ⟨W, p, rfl, rfl, W1, W2, b1, b2⟩ := mayC_ok hmay
    simp only [Int.toNat_natCast] at h
    rw [← h, outF_length, Nat.add_mul, Nat.one_mul]
    have e1 := Nat.mul_div_le lb.length W
    have e2 := Nat.div_le_self lb.length W
    omega
set_option maxHeartbeats 1000000 in
set_option maxRecDepth 100000 in
theorem walk (A : Option Addr) (c : Nat) (l : List UInt8) (wd bp kd : Int) (w : World) (hbs : Bs w w.heap.size A l) (_ : l.length ≤ c) (hl : l.length ≤ 1048576) (h1 : -9223372036854775808 ≤ wd ∧ wd ≤ 9223372036854775807) (h2 : -9223372036854775808 ≤ bp ∧ bp ≤ 9223372036854775807) (h3 : -9223372036854775808 ≤ kd ∧ kd ≤ 9223372036854775807) :
    Calls Try.prog 6 #[.slice A l.length c, .agg #[.int .i64 wd, .int .i64 bp, .int .i64 kd]] w fun e w' => e = .returned (.bool true) ∧ Below w.heap.size w w' := by
  obtain ⟨n, hn⟩ : ∃ n, l.length = n := ⟨_, rfl⟩
  rw [hn] at hl ⊢
  have HN := Lib.hid hn
  have HBS := Lib.hid hbs
  have bel0 := (Below.refl w.heap.size w).alloc (Nat.le_refl _) (.cells #[.int .i64 wd, .int .i64 bp, .int .i64 kd] 42)
  have kb := Blk.new w 42 #[.int .i64 wd, .int .i64 bp, .int .i64 kd]
  clear hn hbs
  go_enter Try.func6, Try.ntmps6
  go_upto_region 1 with (fail)
  generalize w.alloc (.cells #[.int .i64 wd, .int .i64 bp, .int .i64 kd] 42) = w0 at *
  go_upto_region 3 with (go_at_call 10; refine (wakes_any w0).mono ?_; rintro e w1 ⟨rfl, hb1⟩)
  have hs0 := bel0.size
  have hs1 := hb1.size
  have HB1 := Lib.hid (bel0.trans (hb1.mono hs0))
  have HBS1 := Lib.hid (HBS.out.below HB1.out)
  have kb1 := kb.upd (Upd.of_fresh hb1) id
  have z0 : w1.cell? ⟨w.heap.size, 0, none⟩ = some (.int .i64 wd) := kb1.cell 0
  have z1 : w1.cell? ⟨w.heap.size, 1, none⟩ = some (.int .i64 bp) := kb1.cell 1
  have z2 : w1.cell? ⟨w.heap.size, 2, none⟩ = some (.int .i64 kd) := kb1.cell 2
  clear hb1 kb kb1 bel0
  go_quiet (fail)
  rename_i nq
  have HB2 : Hid (Below w.heap.size w (w1.drewN nq)) := Lib.hid (HB1.out.trans ((Upd.drewN (Upd.refl (fun _ => False) w1) nq).below (B := w.heap.size) HB1.out.size (fun _ _ h => h)))
  have HBS2 : Hid (Bs (w1.drewN nq) w.heap.size A l) := Lib.hid HBS1.out
  clear HB1 HBS1 z0 z1 z2
  generalize w1.drewN nq = w2 at *
  have hs2 := HB2.out.size
  have HC := Lib.hid (own_any A c n l HN.out w.heap.size w2 HBS2.out hs2 (by omega))
  have HU := Lib.hid (fun (A3 : Option Addr) (c3 : Nat) (w3 : World) (ho : w3.ownsRow w2.heap.size 5 1 (.slice A3 n c3) n (bytesV l)) => filt_any wd bp kd A3 n c3 l HN.out (own_room ho).1 (own_room ho).2 (by omega) w3.heap.size w3 (bs_own ho).1 (Nat.le_refl _))
  have HD := Lib.hid (fun (w4 : World) (hb : Below w2.heap.size w2 w4) => refFilt_any wd bp kd A n c l HN.out (by omega) w.heap.size w4 (HBS2.out.below (hb.mono hs2)) (Nat.le_trans hs2 hb.size))
  have hlen : ∀ b, filtM wd bp kd l = .ok b → b.length ≤ 2 * n := fun b h => by have := filt_len h; rw [HN.out] at this; exact this
  have hback : ∀ b, filtM wd bp kd l = .ok b → ufM wd bp b = .ok l := fun b h => uf_back wd bp kd l b h
  have herr : ∀ k, filtM wd bp kd l = .error k → k = 190 := fun k h => by
    unfold filtM at h
    split at h
    · injection h with h; exact h.symm
    · cases h
  generalize filtM wd bp kd l = R at *
  cases R with
  | error k =>
    obtain rfl := herr k rfl
    clear hlen hback herr
    go_upto_region 5 with (first
      | (go_at_call 12; refine HC.out.mono ?_; rintro e w3 ⟨A3, c3, rfl, o3, hb3⟩; have HO3 := Lib.hid o3; have HB3 := Lib.hid hb3; have hs3 := hb3.size; clear o3 hb3 HC)
      | (go_at_call 19; refine (HU.out A3 c3 w3 HO3.out).mono ?_; rintro e w4 ⟨hb4, rfl⟩))
    have hs4 := hb4.size
    have HB4 := Lib.hid (HB3.out.trans (hb4.mono hs3))
    clear hb4 HO3 HB3 HU
    go_upto_region 6 with (go_at_call 20; refine (HD.out w4 HB4.out).mono ?_; rintro e w5 ⟨hb5, rfl⟩)
    have hs5 := hb5.size
    have HB5 := Lib.hid (HB4.out.trans (hb5.mono (Nat.le_trans hs3 hs4)))
    clear hb5 HB4 HD
    have HS := Lib.hid (same_n none none 0 0 0 0 [] [] rfl rfl 0 w5 (fun h => absurd h (by simp)) (fun h => absurd h (by simp)) (Nat.zero_le _))
    go_wp2_with (go_at_call 18; refine HS.out.mono ?_; rintro e w6 ⟨rfl, q, rfl⟩)
    go_ret
    exact ⟨rfl, (HB2.out.trans (HB5.out.mono hs2)).trans ((Upd.drewN (Upd.refl (fun _ => False) w5) q).below (B := w.heap.size) (by omega) (fun _ _ h => h))⟩
  | ok b =>
    have hbl := hlen b rfl
    have HBK := Lib.hid (hback b rfl)
    clear hlen hback herr
    go_upto_region 5 with (first
      | (go_at_call 12; refine HC.out.mono ?_; rintro e w3 ⟨A3, c3, rfl, o3, hb3⟩; have HO3 := Lib.hid o3; have HB3 := Lib.hid hb3; have hs3 := hb3.size; clear o3 hb3 HC)
      | (go_at_call 19; refine (HU.out A3 c3 w3 HO3.out).mono ?_; rintro e w4 ⟨hb4, A4, c4, rfl, o4⟩))
    have hs4 := hb4.size
    have HB4 := Lib.hid (HB3.out.trans (hb4.mono hs3))
    have HO4 := Lib.hid (bs_own o4).1
    clear hb4 o4 HO3 HB3 HU
    go_upto_region 6 with (go_at_call 20; refine (HD.out w4 HB4.out).mono ?_; rintro e w5 ⟨hb5, A5, c5, rfl, o5⟩)
    have hs5 := hb5.size
    have HB5 := Lib.hid (HB4.out.trans (hb5.mono (Nat.le_trans hs3 hs4)))
    have HO5 := Lib.hid (HO4.out.below hb5)
    have HS := Lib.hid (same_n A4 A5 b.length b.length c4 c5 b b rfl rfl w5.heap.size w5 (fun h => by
      obtain ⟨ad, e, hlt, hc⟩ := HO5.out h
      exact ⟨ad, e, by omega, hc⟩) (bs_own o5).1 (by unfold maxLen; omega))
    clear hb5 o5 HB4 HD
    go_upto_region 10 with (go_at_call 18; refine HS.out.mono ?_; rintro e w6 ⟨rfl, q, rfl⟩)
    have HB6 : Hid (Below w2.heap.size w2 (w5.drewN q)) := Lib.hid (HB5.out.trans ((Upd.drewN (Upd.refl (fun _ => False) w5) q).below (B := w2.heap.size) (by omega) (fun _ _ h => h)))
    have HO6 : Hid (Bs (w5.drewN q) w4.heap.size A4 b) := Lib.hid HO5.out
    have hs6 : w5.heap.size ≤ (w5.drewN q).heap.size := Nat.le_refl _
    clear HS HB5 HO5
    generalize w5.drewN q = w6 at *
    have HC6 := Lib.hid (own_any A4 c4 b.length b rfl w4.heap.size w6 HO6.out (by omega) (by omega))
    have HU6 := Lib.hid (fun (A7 : Option Addr) (c7 : Nat) (w7 : World) (ho : w7.ownsRow w6.heap.size 5 1 (.slice A7 b.length c7) b.length (bytesV b)) => unf_any wd bp A7 b.length c7 b rfl (own_room ho).1 (own_room ho).2 (by omega) w7.heap.size w7 (bs_own ho).1 (Nat.le_refl _))
    rw [HBK.out] at HU6
    go_upto_region 11 with (first
      | (go_at_call 12; refine HC6.out.mono ?_; rintro e w7 ⟨A7, c7, rfl, o7, hb7⟩; have HO7 := Lib.hid o7; have HB7 := Lib.hid hb7; have hs7 := hb7.size; clear o7 hb7 HC6)
      | (go_at_call 21; refine (HU6.out A7 c7 w7 HO7.out).mono ?_; rintro e w8 ⟨hb8, A8, c8, rfl, o8⟩))
    have hs8 := hb8.size
    have HB8 := Lib.hid ((HB2.out.trans (HB6.out.mono hs2)).trans ((HB7.out.trans (hb8.mono hs7)).mono (by omega)))
    have HS8 := Lib.hid (same_n A8 A l.length n c8 c l l rfl HN.out w8.heap.size w8 (bs_own o8).1 (fun h => by
      obtain ⟨ad, e, hlt, hc⟩ := (HBS.out.below HB8.out) h
      exact ⟨ad, e, by omega, hc⟩) (by have := HN.out; unfold maxLen; omega))
    clear hb8 o8 HO7 HB7 HU6 HB6 HO6
    go_wp2_with (go_at_call 18; refine HS8.out.mono ?_; rintro e w9 ⟨rfl, q, rfl⟩)
    go_ret
    exact ⟨ret_tt (by simp), HB8.out.trans ((Upd.drewN (Upd.refl (fun _ => False) w8) q).below (B := w.heap.size) (by omega) (fun _ _ h => h))⟩
set_option maxRecDepth 100000 in
theorem contract (H : Type) (enc : TypeId × Value → H) (W : World) (base : Nat) (args : Array Value) (ds gs : List (DataW H)) (before : List MemPlace)
    (hval : ∀ (j : Nat) t v, Try.f6.params[j]? = some t → args[j]? = some v → Value.okWide Try.prog W .any base t v)
    (hW : DataW.Whole enc Try.prog Try.f6.params.toList Rows.chunkFiltersSpec.vars false W args.toList ds gs before) (hk : Rows.uptoSmall H (ds ++ gs) = true) :
    Calls Try.prog 6 args W fun e W' => ∃ v, e = .returned v ∧ Rows.chunkFiltersSpec.post enc Try.prog Try.f6 false true false false W args v W' := by
  have hW' := hW
  obtain ⟨p, q, hA0, hV, rfl, hfz, hnd⟩ := hW
  have hA : DataW.TrodAll enc Try.prog W 0 (fun _ => true) true Try.f6.params.toList args.toList ds p := hA0
  rw [Try.params6] at hA hval
  obtain ⟨v0, vs0, d0, ds0, p0, q0, hargs, rfl, rfl, h0, r0⟩ := trodAll_cons hA
  obtain ⟨v1, vs1, d1, ds1, p1, q1, rfl, rfl, rfl, h1, r1⟩ := trodAll_cons r0
  obtain ⟨rfl, rfl, rfl⟩ := trodAll_nil r1
  obtain rfl : args = #[v0, v1] := by cases args; simp_all
  obtain ⟨rfl, rfl⟩ := trodVars_none hV
  obtain ⟨A0, l0, c0, rfl, hb0, hcp0, hd0⟩ := open_bytes (hval 0 22 v0 rfl rfl) h0
  obtain ⟨x1, y1, z1, rfl, bx1, by1, bz1⟩ := open_three (hval 1 42 v1 rfl rfl) h1
  have hl0 : l0.length ≤ 1048576 := by
    rcases hd0 with ⟨_, rfl⟩ | ⟨e, s, rfl, hle⟩
    · simp
    · have h1 := bulk_le hk
      simp only [List.cons_append, List.nil_append] at h1
      have h2 := Nat.le_trans (bulk_slice e s _) h1
      omega
  have lt0 : ∀ x ∈ p0, x.block < W.heap.size := by obtain ⟨m, hm⟩ := h0; exact DataW.trod_lt m _ _ _ hm
  have lt1 : ∀ x ∈ p1, x.block < W.heap.size := by obtain ⟨m, hm⟩ := h1; exact DataW.trod_lt m _ _ _ hm
  clear hA0
  refine (walk A0 c0 l0 x1 y1 z1 W hb0 hcp0 hl0 bx1 by1 bz1).mono fun e W' ⟨he, bel⟩ => ?_
  subst he
  exact ⟨_, rfl, _, _, _, [], _, [], hW', trodAll_mk1 (shut_bool Try.underlying4 _), (trodAll_cons_mk (Below.trod prog_laid (by kernel_rfl) (of_decide_eq_true (by kernel_rfl)) h0 bel lt0) (trodAll_cons_mk (Below.trod prog_laid (by kernel_rfl) (of_decide_eq_true (by kernel_rfl)) h1 bel lt1) trodAll_mk0)), rfl, bel.frame _, fun h => by cases h⟩

set_option maxRecDepth 100000 in
theorem lifted (os : Os) (started : os.Started) (H : Type) (enc : TypeId × Value → H) (F : Stop.Interp) :
    ReturnsInHanded {} Try.checked os 6 .any ((Rows.OpenSpec.upto Rows.chunkFiltersSpec).pre6 enc Try.prog Try.f6 Rows.chunkFiltersUptoRow.domain false) (((Rows.OpenSpec.upto Rows.chunkFiltersSpec).at F).post enc Try.prog Try.f6 false true false false) := by
  refine returnsInHanded_of_cond (C := Try.checked) (s := Rows.OpenSpec.upto Rows.chunkFiltersSpec) (k := Rows.uptoSmall) rfl prog_own started (by kernel_rfl) Try.func6
    (OpenSpec.witness (enc := enc) (C := Try.checked) (s := Rows.OpenSpec.upto Rows.chunkFiltersSpec) (k := Rows.uptoSmall) rfl false ⟨#[], #[.slice none 0 0, .agg #[.int .i64 0, .int .i64 0, .int .i64 0]], []⟩ 8 (by kernel_rfl) (by kernel_rfl) (by kernel_rfl)
      (x := ([.nil, .agg [.lit (.int .i64 0), .lit (.int .i64 0), .lit (.int .i64 0)]], [], [])) (by kernel_rfl) rfl (by kernel_rfl)) ?_
  intro W base args ds gs before hval hW _ hk _
  exact contract H enc W base args ds gs before hval hW hk

theorem over : Rows.chunkFiltersUptoRow.holds Try.pinned (Rows.OpenSpec.upto Rows.chunkFiltersSpec) :=
  OpenClaim.holds_of_cond 6 Try.f6 rfl rfl rfl rfl rfl rfl rfl ⟨rfl, rfl, rfl, rfl, rfl⟩ rfl rfl rfl rfl rfl (by kernel_rfl) Try.func6 (by kernel_rfl)
    (of_decide_eq_true (by kernel_rfl)) (by unfold Func.isWrapper; first | (rw [if_pos (by decide +kernel)]; kernel_rfl) | (rw [if_neg (by decide +kernel)]; exact ⟨rfl, rfl⟩))
    (fun os started H enc _ F => lifted os started H enc F)
end ChunkFilters

theorem chunkFilters_holds : Rows.ChunkFiltersUptoSaid := ChunkFilters.over
#print axioms chunkFilters_holds
end Go.Proofs.Ytjcnjnkcpempoaa
