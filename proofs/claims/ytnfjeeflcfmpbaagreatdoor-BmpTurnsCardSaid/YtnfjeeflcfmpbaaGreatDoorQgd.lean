/- Of: a grid of colours as an image, walked. -/
import Derived.Test.YtnfjeeflcfmpbaaGreatDoorYe
import Derived.Test.YtnfjeeflcfmpbaaGreatDoorRo
namespace Go.Proofs.YtnfjeeflcfmpbaaGreatDoor
open Go.ChangeShapes Go.WideShapes Go.ChangeAt Go.RowKit Go.Shelf
attribute [local go_sem] Oper.semAt_some

/-- The samples of the first k colours. -/
def flatL (L : List Col) : Nat → List Int
  | 0 => []
  | k + 1 => flatL L k ++ colQ (L.getD k col0)
theorem flatL_length (L : List Col) : ∀ k, (flatL L k).length = 4 * k
  | 0 => rfl
  | k + 1 => by simp [flatL, flatL_length L k, colQ]; omega
theorem flatL_px (l : List Int) (M : Nat) (hl : l.length = 4 * M) : ∀ k, k ≤ M → flatL (pxL l M) k = l.take (4 * k)
  | 0, _ => by simp [flatL]
  | k + 1, hk => by
    have h := take_px l 0 k (by omega)
    simp only [List.drop_zero, Nat.zero_add] at h
    rw [flatL, flatL_px l M hl k (by omega), pxL_get l M k (by omega), h]
theorem flatL_all (l : List Int) (M : Nat) (hl : l.length = 4 * M) : flatL (pxL l M) M = l := by
  rw [flatL_px l M hl M (Nat.le_refl _), ← hl, List.take_length]
/-- The world behind k colours. -/
structure OfI (w2 : World) (bl bx g : Nat) (L : List Col) (k : Nat) (V : World) : Prop where
  row : ∃ A n c, n = 4 * k ∧ Blk V bl 24 #[.slice A n c] ∧ V.ownsRow w2.heap.size 42 1 (.slice A n c) n (usV (flatL L k))
  it : Blk V bx 77 #[.pointer (some ⟨g, 0, none⟩)]
  bel : Below w2.heap.size w2 V
theorem OfI.call {w2 V V' : World} {bl bx g : Nat} {L : List Col} {k : Nat} (h : OfI w2 bl bx g L k V) (u : Upd No V V') : OfI w2 bl bx g L k V' := by
  obtain ⟨⟨A, n, c, h0, h1, h2⟩, h3, h4⟩ := h
  exact ⟨⟨A, n, c, h0, h1.upd u id, own_upd h2 u (fun _ _ => id)⟩, h3.upd u id, h4.trans (u.fresh.mono h4.size)⟩
theorem blk_ne_obj {V : World} {b ll : Nat} {t : TypeId} {cs : Array Value} {o : Obj} (hb : Blk V b t cs) (ho : V.heap[ll]? = some o) (hoc : o.isCells = false) : ¬ b = ll := fun e => by
  subst e
  unfold Blk at hb
  rw [hb] at ho
  injection ho with ho
  subst ho
  cases hoc
theorem OfI.put {w2 V : World} {bl bx g : Nat} {L : List Col} {k : Nat} (h : OfI w2 bl bx g L k V) {ll : Nat} {o : Obj} (hll : w2.heap.size ≤ ll) (ho : V.heap[ll]? = some o) (hoc : o.isCells = false) (o' : Obj) : OfI w2 bl bx g L k (V.putObj ll o') := by
  have hu := upd_putObj (S := (· = ll)) V ll o' rfl
  obtain ⟨⟨A, n, c, h0, h1, h2⟩, h3, h4⟩ := h
  exact ⟨⟨A, n, c, h0, h1.upd hu (blk_ne_obj h1 ho hoc), own_put h2 ho hoc o'⟩, h3.upd hu (blk_ne_obj h3 ho hoc), h4.trans (hu.below h4.size (fun i hi e => by omega))⟩
theorem OfI.step {w2 V w9 : World} {bl bx g : Nat} {L : List Col} {k n : Nat} {A A9 : Option Addr} {c c9 : Nat} (hbw : w2.heap.size ≤ bl) (hn : n = 4 * k) (h1 : Blk V bl 24 #[.slice A n c]) (h2 : V.ownsRow w2.heap.size 42 1 (.slice A n c) n (usV (flatL L k))) (h3 : Blk V bx 77 #[.pointer (some ⟨g, 0, none⟩)]) (h4 : Below w2.heap.size w2 V)
    (o9 : w9.ownsRow w2.heap.size 42 1 (.slice A9 (n + 4) c9) (n + 4) (usV (flatL L (k + 1)))) (x : Array Value) (hg9 : (V.alloc (.cells x 42)).grownBy w9 (Value.slice A n c).ownBlock) :
    KeepsOthers V (w9.setCell ⟨bl, 0, none⟩ (.slice A9 (n + 4) c9)) ∧ OfI w2 bl bx g L (k + 1) (w9.setCell ⟨bl, 0, none⟩ (.slice A9 (n + 4) c9)) ∧ w9.cell? ⟨bl, 0, none⟩ = some (.slice A n c) ∧ w9.frozen? ⟨bl, 0, none⟩ = false := by
  have h2a := own_upd h2 ((Upd.refl No V).alloc (.cells x 42)) (fun _ _ => id)
  have h1a := h1.upd ((Upd.refl No V).alloc (.cells x 42)) id
  have h3a := h3.upd ((Upd.refl No V).alloc (.cells x 42)) id
  have hkr := keeps_row h2a hg9
  have b9 := h1a.upd (Upd.of_grown hg9) (fun e => own_blk_ne h2a h1a (by decide) e.symm)
  have i9 := h3a.upd (Upd.of_grown hg9) (fun e => own_blk_ne h2a h3a (by decide) e.symm)
  have us := (Upd.refl (· = bl) w9).setCell (p := ⟨bl, 0, none⟩) (fun _ => rfl) (.slice A9 (n + 4) c9)
  have hbb : Below w2.heap.size w2 w9 := (h4.trans (((Below.refl _ V).alloc (Nat.le_refl _) _).mono h4.size)).grown hg9 (by simp; have := h4.size; omega) (fun q hq => (h2a.lt q hq).1)
  refine ⟨((KeepsOthers.alloc V _).trans hkr).trans (KeepsOthers.setCell _ _ _), ⟨⟨A9, n + 4, c9, by omega, by simpa using b9.set_ 0 (.slice A9 (n + 4) c9), own_upd o9 us (fun j hj e => by have e : j = bl := e; subst e; exact own_blk_ne o9 b9 (by decide) hj)⟩, i9.upd us (fun e => by have e : bx = bl := e; subst e; exact Blk.ne_ b9 i9 (by decide) rfl), hbb.trans (us.below hbb.size (fun i hi e => by have e : i = bl := e; omega))⟩, by rw [b9.cell]; rfl, b9.frozen 0⟩
set_option maxRecDepth 100000 in
theorem ofImg_nil (w : World) : Calls Tryz.prog 69 #[.pointer none] w fun e w' => e = .returned (.tuple #[imgV 0 0 none 0 0, .int .i64 1]) ∧ Below w.heap.size w w' := by
  have hi := IB.of (Blk.new w 26 (imgC 0 0 none 0 0))
  have hb := (Below.refl w.heap.size w).alloc (Nat.le_refl _) (.cells (imgC 0 0 none 0 0) 26)
  go_enter Tryz.func69, Tryz.ntmps69
  go_upto_region 1 with (fail)
  obtain ⟨w1, hw1⟩ : ∃ w1, w.alloc (.cells (imgC 0 0 none 0 0) 26) = w1 := ⟨_, rfl⟩
  rw [hw1] at hi hb ⊢
  obtain ⟨t1, t2, _⟩ := IB.put hi (.int .i64 0) (.int .i64 0) (.slice none 0 0) w.heap.size (Nat.le_refl _)
  have HP := Lib.hid (And.intro t1 (hb.trans t2))
  obtain ⟨_, d0, d1, d2, f0, f1, f2⟩ := hi
  clear hw1 t1 t2 hb
  go_wp2_with fail
  have n0 := HP.out.1.c0; have n1 := HP.out.1.c1; have n2 := HP.out.1.c2
  refine bodyPost_ret (v := .tuple #[imgV 0 0 none 0 0, .int .i64 1]) (by simp [results, Tryz.results69, go_sem, n0, n1, n2]) rfl ?_
  exact ⟨rfl, HP.out.2⟩
set_option maxRecDepth 100000 in
set_option maxHeartbeats 4000000 in
theorem ofImg_any {w : World} {base g r c W H : Nat} {L : List Col} (h : CG w base g r c W H L) :
    Calls Tryz.prog 69 #[.pointer (some ⟨g, 0, none⟩)] w (ImR w ⟨W, H, 0, flatL L (W * H)⟩) := by
  refine (callsIn_wide (n := 3)).1 ?_
  refine callsIn_of_wp_marks Tryz.func69 rfl trivial ?_ rfl
  simp only [Tryz.ntmps69, List.size_toArray, List.length_cons, List.length_nil, Nat.reduceAdd, Nat.reduceSub, Array.replicate_succ, Array.replicate_zero, List.push_toArray, List.append_toArray, List.nil_append, List.cons_append]
  refine wpIn_wide.2 ?_
  have hi := IB.of (Blk.new w 26 (imgC 0 0 none 0 0))
  have hb := (Below.refl w.heap.size w).alloc (Nat.le_refl _) (.cells (imgC 0 0 none 0 0) 26)
  go_upto_region 3 with (fail)
  obtain ⟨w2, hw2⟩ : ∃ w2, w.alloc (.cells (imgC 0 0 none 0 0) 26) = w2 := ⟨_, rfl⟩
  have HS2 : Hid (w2.heap.size = w.heap.size + 1) := Lib.hid (by rw [← hw2]; simp)
  rw [hw2] at hi hb ⊢
  have hcg := h.call hb
  have HI2 := Lib.hid hi
  have HB2 := Lib.hid hb
  have HCG := Lib.hid hcg
  obtain ⟨M, hM⟩ : ∃ M, W * H = M := ⟨_, rfl⟩
  have HM := Lib.hid hM
  have hM0 : 0 < M := by rw [← hM]; exact h.pos
  have hM2 : M ≤ 65536 := by rw [← hM]; exact h.few
  have hW2 := h.w2
  have hH2 := h.h2
  have hWW := Lib.hid (wC_any hcg)
  have hHH := Lib.hid (hC_any hcg)
  obtain ⟨N, hN⟩ : ∃ N, 4 * M = N := ⟨_, rfl⟩
  have m1 : wrap64 (4 * (W : Int) * (H : Int)) = (N : Int) := by rw [four_mul, ← Int.natCast_mul, hM, ← hN]; exact IntWalk.wrap64_in _ (by omega)
  have hN2 : N ≤ 262144 := by omega
  obtain ⟨i0, hzi, hz0, hz1, hz2⟩ := info_parts info_u16
  clear hw2 hi hb hcg h hM hN hM0
  go_wp2_with fail
  refine hWW.out.mono ?_
  rintro e w3 ⟨rfl, rfl⟩
  go_wp2_with fail
  refine hHH.out.mono ?_
  rintro e w4 ⟨rfl, rfl⟩
  go_upto_region 4 with (at_make; refine wpList_make_own _ rfl (.const (.int .i64 0)) (.tmp 15) 24 rfl w4.heap.size 42 i0 (.int .u16 0) 1 Tryz.underlying24 hzi hz0 hz1 .i64 .i64 _ N rfl rfl (by exact m1) (by rw [hz2]; omega) (by unfold maxLen; omega) (Nat.le_refl _) ?_; intro w5 hown5 hg5; have HB5 := Lib.hid ((Below.refl w4.heap.size w4).grown hg5 (by simp) (by simp)); have O5 := Lib.hid hown5; clear hown5 hg5)
  clear m1
  have hb6 := (Below.refl w5.heap.size w5).alloc (Nat.le_refl _) (.cells #[.slice (some ⟨w4.heap.size, 0, none⟩) 0 N] 24)
  have hl6 := Blk.new w5 24 #[.slice (some ⟨w4.heap.size, 0, none⟩) 0 N]
  have ho6 := own_upd O5.out (Upd.of_fresh hb6) (fun _ _ => id)
  obtain ⟨w6, hw6⟩ : ∃ w6, w5.alloc (.cells #[.slice (some ⟨w4.heap.size, 0, none⟩) 0 N] 24) = w6 := ⟨_, rfl⟩
  rw [hw6] at hb6 hl6 ho6 ⊢
  have HB6 := Lib.hid (HB5.out.trans (hb6.mono HB5.out.size))
  have HL6 := Lib.hid hl6
  have HO6 := Lib.hid ho6
  clear hw6 hb6 hl6 ho6 O5 hWW hHH
  go_wp2_with fail
  refine (allC_any _ _).mono ?_
  rintro e w7 ⟨rfl, rfl⟩
  go_wp2_with fail
  have hbx := (Below.refl w6.heap.size w6).alloc (Nat.le_refl _) (.cells #[.pointer (some ⟨g, 0, none⟩)] 77)
  have hpx := Blk.new w6 77 #[.pointer (some ⟨g, 0, none⟩)]
  obtain ⟨w7, hw7⟩ : ∃ w7, w6.alloc (.cells #[.pointer (some ⟨g, 0, none⟩)] 77) = w7 := ⟨_, rfl⟩
  rw [hw7] at hbx hpx ⊢
  have h67 := HB6.out.trans (hbx.mono HB6.out.size)
  have hs27 := h67.size
  have hs5 := HB5.out.size
  have hst : OfI w4 w5.heap.size w6.heap.size g L 0 w7 := ⟨⟨_, 0, _, rfl, HL6.out.upd (Upd.of_fresh hbx) id, own_upd HO6.out (Upd.of_fresh hbx) (fun _ _ => id)⟩, hpx, h67⟩
  have hinp : ∀ k V, OfI w4 w5.heap.size w6.heap.size g L k V → V.cell? ⟨w6.heap.size, 0, none⟩ = some (.pointer (some ⟨g, 0, none⟩)) ∧ CG V base g r c W H L := by
    rintro k V ⟨_, hi, hb⟩
    exact ⟨by rw [hi.cell]; rfl, HCG.out.call hb⟩
  clear hw7 hbx hpx HL6 HO6 HB5 HB6 h67
  have hMM := HM.out
  refine wpIn_wide.1 (wpIn_range_box1 (α := CellC) (F := Fence.wide) (n := 3) rfl (by omega) (gf := 123) (lb := #[.pointer (some ⟨w6.heap.size, 0, none⟩)]) rfl trivial (enters_of Tryz.func123 (by kernel_rfl) rfl) cellEncC M
    (fun k V => OfI w4 w5.heap.size w6.heap.size g L k V ∧ w7.heap.size ≤ V.heap.size)
    (fun k x _ => x = cellC W L k)
    (fun _ _ => False)
    ?seq (fun _ => rfl) ?ia ?ip (fun _ _ _ _ h => h) (fun _ _ _ _ _ _ _ _ _ h => h) (fun _ _ _ _ _ _ _ _ h => h) ?start (fun k V h => h.2) 49 (fun x => #[.int .u16 x.2.r, .int .u16 x.2.g, .int .u16 x.2.b, .int .u16 x.2.a]) ?Fa ?assign ?body ?done ?stop)
  case seq =>
    intro ll R Jx V hRb hY h0 hR
    rw [← hMM]
    exact all1C_in (3 - 1) (by omega) ll w6.heap.size g r c W H base L (fun k V => OfI w4 w5.heap.size w6.heap.size g L k V ∧ w7.heap.size ≤ V.heap.size) R Jx (fun k V h => hinp k V h.1) (fun k x V hk hI hR hx => hY k x V (by rw [← hMM]; exact hk) hI hR hx) V h0 hR
  case ia => rintro k V o ⟨h, hs⟩; exact ⟨h.call ((Upd.refl No V).alloc o), by rw [World.size_alloc]; omega⟩
  case ip =>
    rintro k V ll o o' hll ho hoc ⟨h, hs⟩
    exact ⟨h.put (by omega) ho hoc o', by have := (upd_putObj (S := (· = ll)) V ll o' rfl).size; omega⟩
  case start => exact ⟨hst, Nat.le_refl _⟩
  case assign =>
    intro ll x V Bx K hBx hK
    dsimp only [cellEncC]
    have HK := Lib.hid hK
    clear hK
    gi_wp2
    exact HK.out
  case body =>
    rintro ll k x V Bx hk ⟨⟨⟨A', n, c', hn, h1, h2⟩, h3, h4⟩, hVs⟩ hx hBx hbx
    have hx2 : x.2 = L.getD k col0 := by rw [hx]; rfl
    have HDN : Hid (flatL L (k + 1) = flatL L k ++ colQ x.2) := Lib.hid (by rw [hx2]; rfl)
    have hcx := CB.of (x := x.2) hbx
    have kbl : V.cell? ⟨w5.heap.size, 0, none⟩ = some (.slice A' n c') := by rw [h1.cell]; rfl
    obtain ⟨i1, hyi, hy0, hy1, hy2⟩ := info_parts info_u16
    obtain ⟨A9, c9, w9, hrun, o9, hg9, _⟩ := run_append_vs (P := Tryz.prog) (V.alloc (.cells #[.int .u16 x.2.r, .int .u16 x.2.g, .int .u16 x.2.b, .int .u16 x.2.a] 42)) w4.heap.size 24 24 42 i1 (.int .u16 0) 2 Tryz.underlying24 hyi hy0 hy1 hy2 rfl (.slice A' n c') n (usV (flatL L k)) (h2.alloc _) (V.heap.size + 1) (some ⟨V.heap.size, 0, none⟩) 4 4 (usV (colQ x.2)) rfl (vs_lit V 42 (usV (colQ x.2)) _ (by omega)) (usV_one _) (by unfold maxLen; omega) (by omega) (by rw [World.size_alloc]; have := h4.size; omega)
    rw [← usV_append, ← HDN.out] at o9
    obtain ⟨hKO, hGI, k9, kf⟩ := OfI.step (by omega) hn h1 h2 h3 h4 o9 _ hg9
    have hsz := hKO.size
    have HRN := Lib.hid hrun
    have HG := Lib.hid (And.intro hKO (And.intro hGI (Nat.le_trans hVs hsz)))
    obtain ⟨_, x0, x1, x2, x3, _, _, _, _⟩ := hcx
    clear hrun o9 hg9 hKO hGI hsz h1 h2 h3 h4 hbx hVs hst hinp hs5 hs27 hx hx2 hMM hyi hy0 hy1 hy2 hn
    gi_wp2_with (gi_at_builtin; refine wpListIn_append_run rfl (.tmp 21) (.tmp 30) _ rfl rfl rfl HRN.out ?_)
    exact HG.out
  case done =>
    rintro D V hD ⟨hI, hVs⟩ hK
    obtain ⟨⟨A', n, c', hn, h1, h2⟩, _, h4⟩ := hI
    have hcg := HCG.out.call h4
    have HWV : Hid (∀ k, Calls Tryz.prog 106 #[.pointer (some ⟨g, 0, none⟩)] (V.drewN k) fun e w' => e = .returned (.int .i64 (W : Int)) ∧ w' = V.drewN k) := Lib.hid (fun k => wC_any (hcg.upd ((Upd.refl No V).drewN k) id id))
    have HHV : Hid (∀ k, Calls Tryz.prog 79 #[.pointer (some ⟨g, 0, none⟩)] (V.drewN k) fun e w' => e = .returned (.int .i64 (H : Int)) ∧ w' = V.drewN k) := Lib.hid (fun k => hC_any (hcg.upd ((Upd.refl No V).drewN k) id id))
    have HIV := Lib.hid (HI2.out.call h4)
    have kbl : V.cell? ⟨w5.heap.size, 0, none⟩ = some (.slice A' n c') := by rw [h1.cell]; rfl
    have HB := Lib.hid (HB2.out.trans (h4.mono HB2.out.size))
    have HO := Lib.hid h2
    have HK := Lib.hid hK
    have HLn := Lib.hid hn
    have hWD := HWV.out 1
    have hHD := HHV.out 1
    clear h1 h2 h4 hK hst hinp hcg hn
    obtain ⟨_, d0, d1, d2, f0, f1, f2⟩ := HIV.out
    have hiv := HIV.out
    obtain ⟨t1, t2, t3⟩ := IB.put hiv (.int .i64 W) (.int .i64 H) (.slice A' n c') w.heap.size (Nat.le_refl _)
    obtain ⟨W9, hW9⟩ : ∃ W9, (((V.setCell ⟨w.heap.size, 0, none⟩ (.int .i64 W)).setCell ⟨w.heap.size, 1, none⟩ (.int .i64 H)).setCell ⟨w.heap.size, 2, none⟩ (.slice A' n c')).drew = W9 := ⟨_, rfl⟩
    replace t1 := IB.of (t1.blk.upd ((Upd.refl No _).drew) id)
    replace t2 := t2.drew
    replace t3 := t3.drew
    rw [hW9] at t1 t2 t3
    have hs2 := HS2.out
    have hDlt : D < V.heap.size := (Array.getElem?_eq_some_iff.1 HK.out).1
    have hKD : W9.heap[D]? = some (.deferred (some [])) := (t3.block D hDlt (fun e => by have e : D = w.heap.size := e; have := HS2.out; omega)).trans HK.out
    have hu := upd_putObj (S := (· = D)) W9 D (.deferred none) rfl
    have hib := IB.of (t1.blk.upd hu (blk_ne_obj t1.blk hKD rfl))
    have hoo := own_low (own_put (own_upd HO.out t3 (fun j hj e => by have e : j = w.heap.size := e; subst e; exact own_blk_ne HO.out hiv.blk (by decide) hj)) hKD rfl (.deferred none)) (show w.heap.size ≤ w4.heap.size by have := HS2.out; omega)
    have hbb : Below w.heap.size w W9 := HB.out.trans t2
    have HFin : Hid (ImR w ⟨W, H, 0, flatL L (W * H)⟩ (.returned (.tuple #[imgV W H A' n c', .int .i64 0])) (W9.putObj D (.deferred none))) := Lib.hid (by
      have hln : (flatL L (W * H)).length = n := by rw [flatL_length, hMM, HLn.out]
      refine ⟨A', c', by rw [hln], ?_, hbb.trans (hu.below hbb.size (fun i hi e => by omega))⟩
      rw [hln, hMM]
      exact hoo)
    have HW9 := Lib.hid hW9; have HKD := Lib.hid hKD; have HIB := Lib.hid hib
    clear hs2 hiv t1 t2 t3 hW9 hDlt hKD hu hib hoo hbb
    go_upto_region 7 with (fail)
    refine wp_region_tail 6 (by kernel_rfl) (by kernel_rfl) ?_
    simp only [List.take_succ_cons, List.take_zero, List.drop_succ_cons, List.drop_zero]
    repeat (go_big_quiet_step (fail))
    go_big_quiet_want
    go_big_quiet_op
    refine ⟨_, hWD, ?_⟩
    go_big_quiet_on
    repeat (go_big_quiet_step (fail))
    go_big_quiet_want
    go_big_quiet_op
    refine ⟨_, hHD, ?_⟩
    go_big_quiet_on
    repeat (go_big_quiet_step (fail))
    refine wpQuiet_nil ?_
    go_wp2_with fail
    rw [HW9.out]
    refine ⟨by simp, .inl ⟨_, _, rfl, run_takeDeferred HKD.out, ?_⟩⟩
    have n0 := HIB.out.c0; have n1 := HIB.out.c1; have n2 := HIB.out.c2
    exact ⟨.tuple #[imgV W H A' n c', .int .i64 0], by simp [results, Tryz.results69, go_sem, n0, n1, n2], HFin.out⟩
  case stop => rintro D cc V hD h; exact h.elim
end Go.Proofs.YtnfjeeflcfmpbaaGreatDoor
