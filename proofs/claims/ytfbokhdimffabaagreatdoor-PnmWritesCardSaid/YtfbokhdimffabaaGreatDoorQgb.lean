/- Grid: an image as a grid of its pixels, walked. -/
import Derived.Test.YtfbokhdimffabaaGreatDoorDa
namespace Go.Proofs.YtfbokhdimffabaaGreatDoor
open Go.ChangeShapes Go.WideShapes Go.ChangeAt Go.RowKit Go.Shelf
attribute [local go_sem] Oper.semAt_some

/-- The first k pixels. -/
def pxL (l : List Int) : Nat → List Col
  | 0 => []
  | k + 1 => pxL l k ++ [pxAt l (4 * k)]
theorem pxL_length (l : List Int) : ∀ k, (pxL l k).length = k
  | 0 => rfl
  | k + 1 => by simp [pxL, pxL_length l k]
theorem pxL_get (l : List Int) : ∀ M i, i < M → (pxL l M).getD i col0 = pxAt l (4 * i)
  | 0, i, h => by omega
  | M + 1, i, h => by
    have hl := pxL_length l M
    rw [pxL, List.getD_eq_getElem?_getD]
    rcases Nat.lt_or_ge i M with h1 | h1
    · rw [List.getElem?_append_left (by omega), ← List.getD_eq_getElem?_getD]
      exact pxL_get l M i h1
    · obtain rfl : i = M := by omega
      rw [List.getElem?_append_right (by omega), hl, Nat.sub_self]
      rfl
/-- The world behind k pixels: the list's box, its row; the iterator's box. -/
structure GrI (w2 : World) (bl bx : Nat) (l : List Int) (W H : Int) (sl : Value) (k : Nat) (V : World) : Prop where
  row : ∃ A c, Blk V bl 103 #[.slice A k c] ∧ V.ownsRow w2.heap.size 70 4 (.slice A k c) k (colsV (pxL l k))
  im : IB V bx (.int .i64 W) (.int .i64 H) sl
  bel : Below w2.heap.size w2 V
theorem GrI.call {w2 V V' : World} {bl bx : Nat} {l : List Int} {W H : Int} {sl : Value} {k : Nat} (h : GrI w2 bl bx l W H sl k V) (u : Upd No V V') : GrI w2 bl bx l W H sl k V' := by
  obtain ⟨⟨A, c, h1, h2⟩, h3, h4⟩ := h
  exact ⟨⟨A, c, h1.upd u id, own_upd h2 u (fun _ _ => id)⟩, IB.of (h3.blk.upd u id), h4.trans (u.fresh.mono h4.size)⟩
theorem GrI.put {w2 V : World} {bl bx : Nat} {l : List Int} {W H : Int} {sl : Value} {k : Nat} (h : GrI w2 bl bx l W H sl k V) {ll : Nat} {o : Obj} (hll : w2.heap.size ≤ ll) (ho : V.heap[ll]? = some o) (hoc : o.isCells = false) (o' : Obj) : GrI w2 bl bx l W H sl k (V.putObj ll o') := by
  have hu := upd_putObj (S := (· = ll)) V ll o' rfl
  have hne : ∀ (b : Nat) (t : TypeId) (cs : Array Value), Blk V b t cs → b ≠ ll := fun b t cs hb e => by
    subst e
    unfold Blk at hb
    rw [hb] at ho
    injection ho with ho
    subst ho
    cases hoc
  obtain ⟨⟨A, c, h1, h2⟩, h3, h4⟩ := h
  exact ⟨⟨A, c, h1.upd hu (hne _ _ _ h1), own_put h2 ho hoc o'⟩, IB.of (h3.blk.upd hu (hne _ _ _ h3.blk)), h4.trans (hu.below h4.size (fun i hi e => by omega))⟩
/-- One pixel more. -/
theorem GrI.step {w2 V w9 : World} {bl bx : Nat} {l : List Int} {W H : Int} {sl : Value} {k : Nat} {A A9 : Option Addr} {c c9 : Nat} (hbw : w2.heap.size ≤ bl) (h1 : Blk V bl 103 #[.slice A k c]) (h2 : V.ownsRow w2.heap.size 70 4 (.slice A k c) k (colsV (pxL l k))) (h3 : IB V bx (.int .i64 W) (.int .i64 H) sl) (h4 : Below w2.heap.size w2 V)
    (o9 : w9.ownsRow w2.heap.size 70 4 (.slice A9 (k + 1) c9) (k + 1) (colsV (pxL l (k + 1)))) (x : Array Value) (hg9 : (V.alloc (.cells x 70)).grownBy w9 (Value.slice A k c).ownBlock) :
    KeepsOthers V (w9.setCell ⟨bl, 0, none⟩ (.slice A9 (k + 1) c9)) ∧ GrI w2 bl bx l W H sl (k + 1) (w9.setCell ⟨bl, 0, none⟩ (.slice A9 (k + 1) c9)) ∧ w9.cell? ⟨bl, 0, none⟩ = some (.slice A k c) ∧ w9.frozen? ⟨bl, 0, none⟩ = false := by
  have h2a := own_upd h2 ((Upd.refl No V).alloc (.cells x 70)) (fun _ _ => id)
  have h1a := h1.upd ((Upd.refl No V).alloc (.cells x 70)) id
  have h3a := h3.blk.upd ((Upd.refl No V).alloc (.cells x 70)) id
  have hkr := keeps_row h2a hg9
  have b9 := h1a.upd (Upd.of_grown hg9) (fun e => own_blk_ne h2a h1a (by decide) e.symm)
  have i9 := h3a.upd (Upd.of_grown hg9) (fun e => own_blk_ne h2a h3a (by decide) e.symm)
  have us := (Upd.refl (· = bl) w9).setCell (p := ⟨bl, 0, none⟩) (fun _ => rfl) (.slice A9 (k + 1) c9)
  have hbb : Below w2.heap.size w2 w9 := (h4.trans (((Below.refl _ V).alloc (Nat.le_refl _) _).mono h4.size)).grown hg9 (by simp; have := h4.size; omega) (fun q hq => (h2a.lt q hq).1)
  refine ⟨((KeepsOthers.alloc V _).trans hkr).trans (KeepsOthers.setCell _ _ _), ⟨⟨A9, c9, by simpa using b9.set_ 0 (.slice A9 (k + 1) c9), own_upd o9 us (fun j hj e => by have e : j = bl := e; subst e; exact own_blk_ne o9 b9 (by decide) hj)⟩, IB.of (i9.upd us (fun e => by have e : bx = bl := e; subst e; exact Blk.ne_ b9 i9 (by decide) rfl)), hbb.trans (us.below hbb.size (fun i hi e => by have e : i = bl := e; omega))⟩, by rw [b9.cell]; rfl, b9.frozen 0⟩
/-- What Grid answers. -/
def GrR (w : World) (W H : Int) (l : List Int) (e : Ending) (w' : World) : Prop :=
  (goodB W H l.length = false ∧ e = .returned (.tuple #[.pointer none, .int .i64 6]) ∧ Below w.heap.size w w') ∨
  (goodB W H l.length = true ∧ ∃ g r c', e = .returned (.tuple #[.pointer (some ⟨g, 0, none⟩), .int .i64 0]) ∧ CG w' w.heap.size g r c' W.toNat H.toNat (pxL l (W.toNat * H.toNat)) ∧ Below w.heap.size w w')
set_option maxRecDepth 100000 in
set_option maxHeartbeats 4000000 in
theorem grid_any (W H : Int) (A : Option Addr) (n c : Nat) (l : List Int) (hn : l.length = n) (hc : n ≤ c) (B : Nat) (w : World) (h : Us w B A l) (hB : B ≤ w.heap.size) :
    Calls Tryz.prog 26 #[imgV W H A n c] w (GrR w W H l) := by
  refine (callsIn_wide (n := 3)).1 ?_
  refine callsIn_of_wp_marks Tryz.func26 rfl trivial ?_ rfl
  simp only [Tryz.ntmps26, List.size_toArray, List.length_cons, List.length_nil, Nat.reduceAdd, Nat.reduceSub, Array.replicate_succ, Array.replicate_zero, List.push_toArray, List.append_toArray, List.nil_append, List.cons_append]
  refine wpIn_wide.2 ?_
  obtain ⟨w1, hw1, hi, hb⟩ := newImg W H A n c w
  have HW1 := Lib.hid hw1
  have HI := Lib.hid hi
  have HB := Lib.hid hb
  have HV := Lib.hid (Vs.below h (hb.mono hB))
  clear hw1 hi hb h
  go_upto_region 1 with (fail)
  rw [HW1.out]
  clear HW1
  have q0 := HI.out.c0; have q1 := HI.out.c1; have q2 := HI.out.c2
  go_wp2_with fail
  refine (good_any W H A n c w1).mono ?_
  rintro e w2 ⟨rfl, hb2⟩
  have HI2 := Lib.hid (HI.out.call hb2)
  have HB2 := Lib.hid (HB.out.trans (hb2.mono HB.out.size))
  have HV2 := Lib.hid (Vs.below HV.out (hb2.mono (by have := HB.out.size; omega)))
  clear HI HB HV hb2 q0 q1 q2
  cases hg : goodB W H n with
  | false =>
    have HG := Lib.hid hg
    clear hg
    go_wp2_with fail
    refine ⟨.tuple #[.pointer none, .int .i64 6], by simp [results, Tryz.results26, go_sem], ?_⟩
    exact .inl ⟨by rw [hn]; exact HG.out, rfl, HB2.out⟩
  | true =>
    obtain ⟨W, H, rfl, rfl, hn4, hf, hw1, hw2, hh1, hh2⟩ := goodB_nat hg
    have HR : Hid (∀ e w', (∃ g r c', e = .returned (.tuple #[.pointer (some ⟨g, 0, none⟩), .int .i64 0]) ∧ CG w' w.heap.size g r c' W H (pxL l (W * H)) ∧ Below w.heap.size w w') → GrR w W H l e w') := Lib.hid (fun e w' k => .inr ⟨by rw [hn]; exact hg, by simpa only [Int.toNat_natCast] using k⟩)
    have hmay : mayB (W : Int) (H : Int) = true := by
      unfold goodB at hg
      exact (Bool.and_eq_true_iff.1 hg).1
    have HMAY := Lib.hid hmay
    obtain ⟨r, o, rfl, hrB, hsm⟩ := Us.smp HV2.out (by have := Nat.mul_pos hw1 hh1; omega)
    have q0 := HI2.out.c0; have q1 := HI2.out.c1; have q2 := HI2.out.c2
    have HSM := Lib.hid hsm
    obtain ⟨M, hM⟩ : ∃ M, W * H = M := ⟨_, rfl⟩
    have hM0 : 0 < M := by rw [← hM]; exact Nat.mul_pos hw1 hh1
    rw [hM] at hn4 hf HR
    have HN4 := Lib.hid hn4
    have HM := Lib.hid hM
    have m1 : wrap64 ((W : Int) * (H : Int)) = (M : Int) := by rw [← Int.natCast_mul, hM]; exact IntWalk.wrap64_in _ (by omega)
    clear hg hsm HV2 hn4 hM hmay
    obtain ⟨i0, hi, hz0, hz1, hz2⟩ := info_parts info_col
    have hs2 := HB2.out.size
    go_upto_region 4 with (at_make; refine wpList_make_own _ rfl (.const (.int .i64 0)) (.tmp 13) 103 rfl w2.heap.size 70 i0 _ 4 Tryz.underlying103 hi hz0 hz1 .i64 .i64 _ M rfl rfl (by simp [m1]) (by rw [hz2]; omega) (by unfold maxLen; omega) (Nat.le_refl _) ?_; intro w4 hown4 hg4; have HB4 := Lib.hid ((Below.refl w2.heap.size w2).grown hg4 (by simp) (by simp)); have O4 := Lib.hid hown4; have HI4 := Lib.hid (HI2.out.call HB4.out); clear hown4 hg4)
    have hb5 := (Below.refl w4.heap.size w4).alloc (Nat.le_refl _) (.cells #[.slice (some ⟨w2.heap.size, 0, none⟩) 0 M] 103)
    have hl5 := Blk.new w4 103 #[.slice (some ⟨w2.heap.size, 0, none⟩) 0 M]
    have ho5 := own_upd O4.out (Upd.of_fresh hb5) (fun _ _ => id)
    have hs4 := HB4.out.size
    obtain ⟨w5, hw5⟩ : ∃ w5, w4.alloc (.cells #[.slice (some ⟨w2.heap.size, 0, none⟩) 0 M] 103) = w5 := ⟨_, rfl⟩
    have HS5 : Hid (w5.heap.size = w4.heap.size + 1) := Lib.hid (by rw [← hw5]; simp)
    rw [hw5] at hb5 hl5 ho5 ⊢
    have HI5 := Lib.hid (HI4.out.call hb5)
    have HB5 := Lib.hid (HB4.out.trans (hb5.mono HB4.out.size))
    have HL5 := Lib.hid hl5
    have HO5 := Lib.hid ho5
    clear hw5 hb5 hl5 ho5 HI4 HB4 O4 q0 q1 q2
    have q0 := HI5.out.c0; have q1 := HI5.out.c1; have q2 := HI5.out.c2
    go_wp2_with fail
    refine (pixels_any _ _ _ _ _ _).mono ?_
    rintro e w6 ⟨rfl, rfl⟩
    clear q0 q1 q2
    go_wp2_with fail
    have hbx := (Below.refl w5.heap.size w5).alloc (Nat.le_refl _) (.cells #[.int .i64 (W : Int), .int .i64 (H : Int), .slice (some ⟨r, o, none⟩) n c] 26)
    have hpx := IB.of (Blk.new w5 26 #[.int .i64 (W : Int), .int .i64 (H : Int), .slice (some ⟨r, o, none⟩) n c])
    obtain ⟨w6, hw6⟩ : ∃ w6, w5.alloc (.cells #[.int .i64 (W : Int), .int .i64 (H : Int), .slice (some ⟨r, o, none⟩) n c] 26) = w6 := ⟨_, rfl⟩
    have hs26 : w2.heap.size ≤ w6.heap.size := by have := HS5.out; have e : w6.heap.size = w5.heap.size + 1 := (by rw [← hw6]; simp); omega
    rw [hw6] at hbx hpx ⊢
    have hst : GrI w2 w4.heap.size w5.heap.size l (W : Int) (H : Int) (.slice (some ⟨r, o, none⟩) n c) 0 w6 := ⟨⟨_, _, HL5.out.upd (Upd.of_fresh hbx) id, own_upd HO5.out (Upd.of_fresh hbx) (fun _ _ => id)⟩, hpx, HB5.out.trans (hbx.mono HB5.out.size)⟩
    have hinp : ∀ k V, GrI w2 w4.heap.size w5.heap.size l (W : Int) (H : Int) (.slice (some ⟨r, o, none⟩) n c) k V → V.cell? ⟨w5.heap.size, 2, none⟩ = some (.slice (some ⟨r, o, none⟩) n c) ∧ Smp V r o l := by
      rintro k V ⟨_, hi, hb⟩
      exact ⟨hi.c2, HSM.out.below hb (by omega)⟩
    clear hw6 hbx hpx HL5 HO5 HI5 HB5
    have hn4 := HN4.out
    refine wpIn_wide.1 (wpIn_range_box1 (α := Col) (F := Fence.wide) (n := 3) rfl (by omega) (gf := 76) (lb := #[.pointer (some ⟨w5.heap.size, 0, none⟩)]) rfl trivial (enters_of Tryz.func76 (by kernel_rfl) rfl) colEnc M
      (fun k V => GrI w2 w4.heap.size w5.heap.size l (W : Int) (H : Int) (.slice (some ⟨r, o, none⟩) n c) k V ∧ w6.heap.size ≤ V.heap.size)
      (fun k x _ => x = pxAt l (4 * k))
      (fun _ _ => False)
      ?seq (fun _ => rfl) ?ia ?ip (fun _ _ _ _ h => h) (fun _ _ _ _ _ _ _ _ _ h => h) (fun _ _ _ _ _ _ _ _ h => h) ?start (fun k V h => h.2) 70 (fun x => #[.int .u16 x.r, .int .u16 x.g, .int .u16 x.b, .int .u16 x.a]) ?Fa ?assign ?body ?done ?stop)
    case seq =>
      intro ll R Jx V hRb hY h0 hR
      refine pix1_in (3 - 1) (by omega) ll w5.heap.size r o c n M l hn hn4 (by omega) hc (fun k V => GrI w2 w4.heap.size w5.heap.size l (W : Int) (H : Int) (.slice (some ⟨r, o, none⟩) n c) k V ∧ w6.heap.size ≤ V.heap.size) R Jx (fun k V h => hinp k V h.1) (fun k V V' h hb => ⟨h.1.call (Upd.of_fresh hb), Nat.le_trans h.2 hb.size⟩) (fun V V' h hb => hRb _ _ h hb) (fun k x V hk hI hR hx => hY k x V hk hI hR hx) V h0 hR
    case ia => rintro k V o ⟨h, hs⟩; exact ⟨h.call ((Upd.refl No V).alloc o), by rw [World.size_alloc]; omega⟩
    case ip =>
      rintro k V ll o o' hll ho hoc ⟨h, hs⟩
      exact ⟨h.put (by omega) ho hoc o', by have := (upd_putObj (S := (· = ll)) V ll o' rfl).size; omega⟩
    case start => exact ⟨hst, Nat.le_refl _⟩
    case assign =>
      intro ll x V Bx K hBx hK
      dsimp only [colEnc]
      have HK := Lib.hid hK
      clear hK
      gi_wp2
      exact HK.out
    case body =>
      rintro ll k x V Bx hk ⟨⟨⟨A', c', h1, h2⟩, h3, h4⟩, hVs⟩ rfl hBx hbx
      have hcx := CB.of hbx
      have HDN : Hid (pxL l (k + 1) = pxL l k ++ [pxAt l (4 * k)]) := Lib.hid rfl
      generalize pxAt l (4 * k) = x at hcx hbx HDN
      have kbl : V.cell? ⟨w4.heap.size, 0, none⟩ = some (.slice A' k c') := by rw [h1.cell]; rfl
      obtain ⟨A9, c9, w9, hrun, o9, hg9⟩ := append_cols w2.heap.size (V.alloc (.cells #[.int .u16 x.r, .int .u16 x.g, .int .u16 x.b, .int .u16 x.a] 70)) (.slice A' k c') k (colsV (pxL l k)) (h2.alloc _) (by rw [World.size_alloc]; have := h4.size; omega) _ _ 1 1 [x] rfl (cs_lit V x) (by omega) 103
      rw [← colsV_append, ← HDN.out] at o9
      obtain ⟨hKO, hGI, k9, kf⟩ := GrI.step (by omega) h1 h2 h3 h4 o9 _ hg9
      have hsz := hKO.size
      have HRN := Lib.hid hrun
      have HG := Lib.hid (And.intro hKO (And.intro hGI (Nat.le_trans hVs hsz)))
      obtain ⟨_, x0, x1, x2, x3, _, _, _, _⟩ := hcx
      clear hrun o9 hg9 hKO hGI hsz h1 h2 h3 h4 hbx hVs hst hinp hs4 hs26
      gi_wp2_with (gi_at_builtin; refine wpListIn_append_run rfl (.tmp 18) (.tmp 20) _ rfl rfl rfl HRN.out ?_)
      exact HG.out
    case done =>
      rintro D V hD ⟨hI, hVs⟩ hK
      have hI2 := hI.put (by omega) hK rfl (.deferred none)
      obtain ⟨⟨A', c', h1, h2⟩, _, h4⟩ := hI
      have HIM := Lib.hid (HI2.out.call h4)
      have q0 := HIM.out.c0; have q1 := HIM.out.c1
      have kbl : V.cell? ⟨w4.heap.size, 0, none⟩ = some (.slice A' M c') := by rw [h1.cell]; rfl
      obtain ⟨r', rfl, hc2, _, _, hrl⟩ := crow_form h2 hM0
      have HO := Lib.hid (ofC_any W H M c' r' 0 (pxL l M) (pxL_length l M) HM.out HMAY.out V.heap.size V (by have := h2; rw [← List.append_nil (colsV (pxL l M))] at this; exact Cs.of_own this hrl) (Nat.le_refl _))
      have HB := Lib.hid (HB2.out.trans (h4.mono hs2))
      have HK := Lib.hid hK
      clear hI2 h1 h2 h4 hK hst hinp
      go_wp2_with fail
      refine HO.out.mono ?_
      rintro e w7 ⟨g, r7, c7, rfl, hcg, hb7⟩
      have HKD : Hid (w7.heap[D]? = some (.deferred (some []))) := Lib.hid ((hb7.block D (Array.getElem?_eq_some_iff.1 HK.out).1).trans HK.out)
      have HB7 := Lib.hid (HB.out.trans (hb7.mono HB.out.size))
      have HCG := Lib.hid hcg
      have hV := HB.out.size
      clear hcg hb7 HO q0 q1 kbl
      go_wp2_with fail
      refine ⟨by simp, .inl ⟨_, _, rfl, run_takeDeferred HKD.out, ?_⟩⟩
      have hu := upd_putObj (S := (· = D)) w7 D (.deferred none) rfl
      have hDne : ∀ (b : Nat) (t : TypeId) (cs : Array Value), Blk w7 b t cs → ¬ b = D := fun b t cs hb e => by
        subst e
        unfold Blk at hb
        rw [HKD.out] at hb
        cases hb
      refine ⟨.tuple #[.pointer (some ⟨g, 0, none⟩), .int .i64 0], by simp [results, Tryz.results26, go_sem], HR.out _ _ ⟨g, r7, c7, rfl, ?_, HB7.out.trans (hu.below HB7.out.size (fun i hi e => by omega))⟩⟩
      have hcgl := HCG.out.low hV
      have ho7 := own_put hcgl.row HKD.out rfl (.deferred none)
      rw [HM.out] at ho7
      refine ⟨hcgl.blk.upd hu (hDne _ _ _ hcgl.blk), ?_, hcgl.fresh, hcgl.w1, hcgl.w2, hcgl.h1, hcgl.h2, hcgl.few⟩
      rw [HM.out]
      exact ho7
    case stop => rintro D cc V hD h; exact h.elim
end Go.Proofs.YtfbokhdimffabaaGreatDoor
