/- The program's Encode. -/
import Derived.Test.YtnfjeeflcfmpbaaGreatDoorYu
import Derived.Test.YtnfjeeflcfmpbaaGreatDoorSu
import Derived.Test.YtnfjeeflcfmpbaaGreatDoorRo
set_option linter.unusedVariables false
set_option linter.unusedSimpArgs false
namespace Go.Proofs.YtnfjeeflcfmpbaaGreatDoor
open Go.ChangeShapes Go.WideShapes Go.ChangeAt Go.RowKit Go.Shelf
attribute [local go_sem] Oper.semAt_some

/-- A file. -/
def encB (al : Bool) (W H : Nat) (L : List Col) : List UInt8 := headB al W H (rowN al W * H) ++ (encR al W L H).reverse.flatten
def EncP (al : Bool) (w : World) (W H : Int) (l : List Int) (e : Ending) (w' : World) : Prop :=
  (goodB W H l.length = false ∧ e = .returned (.tuple #[.slice none 0 0, .int .i64 6]) ∧ Below w.heap.size w w') ∨
  (goodB W H l.length = true ∧ ∃ A c, e = .returned (.tuple #[.slice A (encB al W.toNat H.toNat (pxL l (W.toNat * H.toNat))).length c, .int .i64 0]) ∧ w'.ownsRow w.heap.size 5 1 (.slice A (encB al W.toNat H.toNat (pxL l (W.toNat * H.toNat))).length c) (encB al W.toNat H.toNat (pxL l (W.toNat * H.toNat))).length (bytesV (encB al W.toNat H.toNat (pxL l (W.toNat * H.toNat)))) ∧ Below w.heap.size w w')
theorem encR_flat (al : Bool) (W H : Nat) (L : List Col) (hl : L.length = W * H) : ∀ k, k ≤ H → (encR al W L k).flatten.length = rowN al W * k
  | 0, _ => by simp [encR]
  | k + 1, hk => by
    rw [encR_succ, List.flatten_append, List.length_append, encR_flat al W H L hl k (by omega)]
    simp only [List.flatten_cons, List.flatten_nil, List.append_nil]
    rw [rowB_length _ _ _ (rowL_length hl (show k < H by omega)), Nat.mul_succ]
theorem rev_flat {α : Type} : ∀ l : List (List α), l.reverse.flatten.length = l.flatten.length
  | [] => rfl
  | x :: l => by simp [rev_flat l, Nat.add_comm]
theorem encB_length (al : Bool) (W H : Nat) (L : List Col) (hl : L.length = W * H) : (encB al W H L).length = (if al then 122 else 54) + rowN al W * H := by
  rw [encB, List.length_append, headB_length, rev_flat, encR_flat al W H L hl H (Nat.le_refl _)]
theorem wp_append_run {P : Program} {o : Oper} {a : Act} {w w' : World} {K : Act → World → Prop} {Q : Exit → Act → World → Prop} (s x : Operand) (t : TypeId) (ho : o.op = .call { callee := .builtin .append, args := #[s, x], argTypes := #[t, t] }) {v1 v2 v : Value} (hs : a.eval s = v1) (hx : a.eval x = v2)
    (hrun : (Builtin.append_ #[t, t] o.type #[v1, v2]).run P w = .ok v w') (h : K (a.put o.dst v) w') : Oper.wp P o a w K Q := by
  unfold Oper.wp execOp
  simp only [ho, resolve, invoke, builtin, Sem.run_bind, Sem.run_pure, Result.andThen_ok, List.map_toArray, List.map_cons, List.map_nil, hs, hx, hrun]
  exact h
theorem info_rows : (Tryz.prog.info? 22).map (fun i => (i.zero, i.size, i.bytes)) = some (some (.slice none 0 0), 1, 24) := by kernel_rfl
theorem own_boxes (w : World) : ∀ (t u : TypeId) (a b : Array Value), Upd No w ((w.alloc (.cells a t)).alloc (.cells b u)) := fun _ _ _ _ => ((Upd.refl No w).alloc _).alloc _
theorem Upd.weak8 {w w' : World} {S : Nat → Prop} (h : Upd No w w') : Upd S w w' := h.mono (fun _ _ e => absurd e id)
theorem set3_of {w : World} {g : Nat} {t : TypeId} {a b d e : Value} {x y z : Value} (h : Blk w g t #[a, x, y, z, b, d, e, .int .i64 0]) (u v s : Value) : Blk (((w.setCell ⟨g, 0, none⟩ u).setCell ⟨g, 5, none⟩ v).setCell ⟨g, 6, none⟩ s) g t #[u, x, y, z, b, v, s, .int .i64 0] ∧ Upd (· = g) w (((w.setCell ⟨g, 0, none⟩ u).setCell ⟨g, 5, none⟩ v).setCell ⟨g, 6, none⟩ s) :=
  ⟨by simpa using ((h.set_ 0 u).set_ 5 v).set_ 6 s, (((Upd.refl (· = g) w).setCell (fun _ => rfl) _).setCell (fun _ => rfl) _).setCell (fun _ => rfl) _⟩
set_option maxRecDepth 100000 in
set_option maxHeartbeats 8000000 in
theorem encF_any (W H : Int) (A : Option Addr) (n c : Nat) (l : List Int) (hn : l.length = n) (hc : n ≤ c) (hlb : ∀ v ∈ l, 0 ≤ v ∧ v ≤ 65535) (B : Nat) (w : World) (hT : Tab32 w) (hB1 : 0 < w.heap.size) (h : Us w B A l) (hB : B ≤ w.heap.size) :
    Calls Tryz.prog 13 #[imgV W H A n c, .bool false] w (EncP false w W H l) := by
  refine (callsIn_wide (n := 3)).1 ?_
  refine callsIn_of_wp_marks Tryz.func13 rfl trivial ?_ rfl
  simp only [Tryz.ntmps13, List.size_toArray, List.length_cons, List.length_nil, Nat.reduceAdd, Nat.reduceSub, Array.replicate_succ, Array.replicate_zero, List.push_toArray, List.append_toArray, List.nil_append, List.cons_append]
  refine wpIn_wide.2 ?_
  have hmix : Tryz.prog.follows .mixedOrders = true := by kernel_rfl
  obtain ⟨w1, hw1, hi, hb⟩ := newImg W H A n c w
  have HW1 := Lib.hid hw1
  have HI := Lib.hid hi
  have HB := Lib.hid hb
  have HT := Lib.hid hT
  have HV := Lib.hid (Vs.below h (hb.mono hB))
  clear hw1 hi hb h hT
  go_upto_region 1 with (fail)
  rw [HW1.out]
  clear HW1
  have q0 := HI.out.c0; have q1 := HI.out.c1; have q2 := HI.out.c2
  go_wp2_with fail
  refine (grid_any W H A n c l hn hc B w1 HV.out (by have := HB.out.size; omega)).mono ?_
  intro e w2 hgr
  have hbb : Below w1.heap.size w1 w2 := by rcases hgr with ⟨_, _, h⟩ | ⟨_, _, _, _, _, _, h⟩ <;> exact h
  have HB2 := Lib.hid (HB.out.trans (hbb.mono HB.out.size))
  have HI2 := Lib.hid (HI.out.call hbb)
  have hs12 := hbb.size
  clear hbb HI q0 q1 q2
  rcases hgr with ⟨hg, rfl, _⟩ | ⟨hg, g, r, c', rfl, hcg, _⟩
  · have HG := Lib.hid hg
    clear hg
    go_wp2_with fail
    refine ⟨.tuple #[.slice none 0 0, .int .i64 6], by simp [results, Tryz.results13, go_sem], ?_⟩
    exact .inl ⟨HG.out, rfl, HB2.out⟩
  obtain ⟨W, H, rfl, rfl, hn4, hf, hw1, hw2, hh1, hh2⟩ := goodB_nat hg
  simp only [Int.toNat_natCast] at hcg
  obtain ⟨L, hL⟩ : ∃ L, pxL l (W * H) = L := ⟨_, rfl⟩
  have HR : Hid (∀ e w' N, (encB false W H L).length = N → (∃ A c, e = .returned (.tuple #[.slice A N c, .int .i64 0]) ∧ w'.ownsRow w.heap.size 5 1 (.slice A N c) N (bytesV (encB false W H L)) ∧ Below w.heap.size w w') → EncP false w W H l e w') := Lib.hid (fun e w' N hN k => .inr ⟨by rw [hn] at hg ⊢; exact hg, by simpa only [Int.toNat_natCast, hL, hN] using k⟩)
  have hok : ∀ x ∈ L, ColOk x := by
    intro x hx
    rw [← hL] at hx
    obtain ⟨i, hi, rfl⟩ := List.mem_iff_getElem.1 hx
    rw [pxL_length] at hi
    have := pxL_get l (W * H) i hi
    rw [List.getD_eq_getElem?_getD, List.getElem?_eq_getElem (by rw [pxL_length]; exact hi), Option.getD_some] at this
    rw [this]
    have hd : ∀ j, 0 ≤ l.getD j 0 ∧ l.getD j 0 ≤ 65535 := fun j => by
      by_cases hj : j < l.length
      · rw [List.getD_eq_getElem?_getD, List.getElem?_eq_getElem hj]; exact hlb _ (List.getElem_mem hj)
      · rw [List.getD_eq_getElem?_getD, List.getElem?_eq_none (by omega)]; simp
    exact ⟨hd _, hd _, hd _, hd _⟩
  rw [hL] at hcg
  have HOK := Lib.hid hok
  have q0 := HI2.out.c0; have q1 := HI2.out.c1
  have HCG := Lib.hid hcg
  have HLN : Hid (L.length = W * H) := Lib.hid hcg.len
  have hs1 := HB.out.size
  clear hcg hg hL hlb hok HV HB hn4
  go_upto_region 5 with (fail)
  obtain ⟨bh, hbh⟩ : ∃ bh, w2.heap.size = bh := ⟨_, rfl⟩
  have hs2 := HB2.out.size
  have HU3 : Hid (Upd No w2 (w2.alloc (.cells (hdC 40 0 (W : Nat) (H : Nat) false 24 0 0) 55))) := Lib.hid ((Upd.refl No w2).alloc _)
  have HH3 : Hid (Blk (w2.alloc (.cells (hdC 40 0 (W : Nat) (H : Nat) false 24 0 0) 55)) bh 55 (hdC 40 0 (W : Nat) (H : Nat) false 24 0 0)) := Lib.hid (by rw [← hbh]; exact Blk.new w2 _ _)
  rw [hbh]
  generalize w2.alloc (.cells (hdC 40 0 (W : Nat) (H : Nat) false 24 0 0) 55) = w3 at *
  clear q0 q1 HI2
  go_wp2_with fail
  refine (ofBytes_any w3).mono ?_
  rintro e w4 ⟨rfl, hb4⟩
  have HH4 := Lib.hid (HH3.out.upd (Upd.of_fresh hb4) id)
  have HU4 := Lib.hid (HU3.out.trans (Upd.of_fresh hb4))
  clear hb4 HH3 HU3
  go_upto_region 6 with (fail)
  obtain ⟨bm, hbm⟩ : ∃ bm, w4.heap.size = bm := ⟨_, rfl⟩
  have HU5 : Hid (Upd No w2 (w4.alloc (.cells (mkC 16711680 65280 255 0) 80))) := Lib.hid (HU4.out.alloc _)
  have HM5 : Hid (Blk (w4.alloc (.cells (mkC 16711680 65280 255 0) 80)) bm 80 (mkC 16711680 65280 255 0)) := Lib.hid (by rw [← hbm]; exact Blk.new w4 _ _)
  have HH5 : Hid (Blk (w4.alloc (.cells (mkC 16711680 65280 255 0) 80)) bh 55 (hdC 40 0 (W : Nat) (H : Nat) false 24 0 0)) := Lib.hid (HH4.out.upd ((Upd.refl No w4).alloc _) id)
  rw [hbm]
  have hbhm : bh < bm := by have := HH4.out.lt; omega
  have hbm5 := HM5.out.lt
  generalize w4.alloc (.cells (mkC 16711680 65280 255 0) 80) = w5 at *
  clear HH4 HU4 hbm
  have HH6 := HH5; have HM6 := HM5
  have HU6 : Hid (Upd (fun j => j = bh ∨ j = bm) w2 w5) := Lib.hid HU5.out.weak8
  clear HH5 HM5 HU5
  go_upto_region 9 with (fail)
  generalize w5 = w6 at *
  have v0 : w6.cell? ⟨bh, 0, none⟩ = some (.int .i64 40) := HH6.out.cell 0
  have v1 : w6.cell? ⟨bh, 1, none⟩ = some (.int .i64 0) := HH6.out.cell 1
  have v2 : w6.cell? ⟨bh, 2, none⟩ = some (.int .i64 (W : Nat)) := HH6.out.cell 2
  have v3 : w6.cell? ⟨bh, 3, none⟩ = some (.int .i64 (H : Nat)) := HH6.out.cell 3
  have v4 : w6.cell? ⟨bh, 4, none⟩ = some (.bool false) := HH6.out.cell 4
  have v5 : w6.cell? ⟨bh, 5, none⟩ = some (.int .i64 24) := HH6.out.cell 5
  have v6 : w6.cell? ⟨bh, 6, none⟩ = some (.int .i64 0) := HH6.out.cell 6
  have v7 : w6.cell? ⟨bh, 7, none⟩ = some (.int .i64 0) := HH6.out.cell 7
  go_wp2_with fail
  refine (end_any 40 0 (W : Nat) (H : Nat) false 24 0 0 (by omega) w6).mono ?_
  rintro e w7 ⟨rfl, hb7⟩
  have hh7 := HH6.out.upd (Upd.of_fresh hb7) id
  have hm7 := HM6.out.upd (Upd.of_fresh hb7) id
  have u78 : Upd (· = bh) w7 (w7.setCell ⟨bh, 1, none⟩ (.int .i64 54)) := (Upd.refl (· = bh) w7).setCell (fun _ => rfl) _
  have kf := hh7.frozen 1
  have HH8 : Hid (Blk (w7.setCell ⟨bh, 1, none⟩ (.int .i64 54)) bh 55 (hdC 40 54 (W : Nat) (H : Nat) false 24 0 0)) := Lib.hid (by simpa using hh7.set_ 1 (.int .i64 54))
  have HM8 : Hid (Blk (w7.setCell ⟨bh, 1, none⟩ (.int .i64 54)) bm 80 (mkC 16711680 65280 255 0)) := Lib.hid (hm7.upd u78 (by omega))
  have hu8 := (HU6.out.trans (Upd.of_fresh hb7).weak8).trans (u78.mono (T := fun j => j = bh ∨ j = bm) (fun _ _ e => .inl e))
  have HU8 := Lib.hid hu8
  have o1 : w7.cell? ⟨bh, 1, none⟩ = some (.int .i64 0) := hh7.cell 1
  clear HH6 HM6 HU6 hb7 hm7 u78 hu8 hh7 v0 v1 v2 v3 v4 v5 v6 v7
  go_upto_region 10 with (fail)
  generalize w7.setCell ⟨bh, 1, none⟩ (.int .i64 54) = w8 at *
  clear kf o1
  go_upto_region 11 with (fail)
  obtain ⟨br, hbr⟩ : ∃ br, w8.heap.size = br := ⟨_, rfl⟩
  have u89 : Upd (fun j => j = bh ∨ j = bm) w2 (w8.alloc (.cells #[.slice none 0 0] 83)) := HU8.out.alloc _
  have hr9 : Blk (w8.alloc (.cells #[.slice none 0 0] 83)) br 83 #[.slice none 0 0] := by rw [← hbr]; exact Blk.new w8 _ _
  have hh9 := HH8.out.upd ((Upd.refl No w8).alloc (.cells #[.slice none 0 0] 83)) id
  have hm9 := HM8.out.upd ((Upd.refl No w8).alloc (.cells #[.slice none 0 0] 83)) id
  have hbr8 : bm < br := by have := HM8.out.lt; omega
  have HU9 := Lib.hid u89; have HR9 := Lib.hid hr9; have HH9 := Lib.hid hh9; have HM9 := Lib.hid hm9
  rw [hbr]
  clear u89 hr9 hh9 hm9 HU8 HH8 HM8
  generalize w8.alloc (.cells #[.slice none 0 0] 83) = w9 at *
  go_wp2_with fail
  refine (rowsC_any _ _).mono ?_
  rintro e w10 ⟨rfl, rfl⟩
  go_wp2_with fail
  obtain ⟨bi, hbi⟩ : ∃ bi, w9.heap.size = bi := ⟨_, rfl⟩
  have u10 : Upd (fun j => j = bh ∨ j = bm) w2 (w9.alloc (.cells #[.pointer (some ⟨g, 0, none⟩)] 77)) := HU9.out.alloc _
  have hi10 : Blk (w9.alloc (.cells #[.pointer (some ⟨g, 0, none⟩)] 77)) bi 77 #[.pointer (some ⟨g, 0, none⟩)] := by rw [← hbi]; exact Blk.new w9 _ _
  have un := (Upd.refl No w9).alloc (.cells #[.pointer (some ⟨g, 0, none⟩)] 77)
  have hh10 := HH9.out.upd un id
  have hm10 := HM9.out.upd un id
  have hr10 := HR9.out.upd un id
  rw [hbi]
  clear un HU9 HH9 HM9 HR9
  generalize w9.alloc (.cells #[.pointer (some ⟨g, 0, none⟩)] 77) = w10 at *
  have hgl := HCG.out.blk.lt
  have hgr := HCG.out.form.2.2.2
  have hcg10 : CG w10 w.heap.size g r c' W H L := (HCG.out.low (by omega)).upd u10 (by omega) (by omega)
  have hbel10 : Below w.heap.size w w10 := HB2.out.trans (u10.below (by omega) (fun j hj e => by omega))
  have hst : EncI w bh bm br bi g r c' W H (hdC 40 54 (W : Nat) (H : Nat) false 24 0 0) false L 0 w10 :=
    ⟨hh10, hm10, hi10, hcg10, ⟨none, 0, [], hr10, World.ownsRow_nil w10 _ _ _, RwO.nil_ _ _⟩, hbel10, by omega⟩
  have HST := Lib.hid hst
  have hbrw : w.heap.size ≤ br := by omega
  clear hst u10 hi10 hh10 hm10 hr10 hgl hgr hcg10 hbel10 HCG HB2 hbi hbr hbh hbhm hbm5 hbr8 hs2 hs1 hs12
  refine wpIn_wide.1 (wpIn_range_stop (α := RowC) (F := Fence.wide) (n := 3) rfl (by omega) (gf := 78) (lb := #[.pointer (some ⟨bi, 0, none⟩)]) rfl trivial (enters_of Tryz.func78 (by kernel_rfl) rfl) (rowEncC W) H
    (fun k V => EncI w bh bm br bi g r c' W H (hdC 40 54 (W : Nat) (H : Nat) false 24 0 0) false L k V ∧ w10.heap.size ≤ V.heap.size)
    (fun k x V => RowEnC w10.heap.size W L k x V) (fun _ _ => False)
    ?seq (fun _ => rfl) ?ia ?ip ?ep ?xp ?start ?a1 ?assign ?body ?done ?stop)
  case seq =>
    intro ll R Jx V hRb hY h0 hR
    exact rows1C_in (3 - 1) (by omega) ll bi g r c' W H w.heap.size w10.heap.size L _ R Jx (fun k V h => ⟨h.1.ib.cell 0, h.1.cg, h.2⟩) (fun k V V' h hb => ⟨h.1.keep (Upd.of_fresh hb), Nat.le_trans h.2 hb.size⟩) hRb hY V h0 hR
  case ia => rintro k V o ⟨h, hs⟩; exact ⟨h.keep ((Upd.refl No V).alloc o), by rw [World.size_alloc]; omega⟩
  case ip =>
    rintro k V ll o o' hll ho hoc ⟨h, hs⟩
    exact ⟨h.put (by have := HST.out.bel.size; omega) ho hoc o', by have := (upd_putObj (S := (· = ll)) V ll o' rfl).size; omega⟩
  case ep => rintro k x V ll o o' hll ho hoc ⟨h1, h2⟩; exact ⟨h1, own_put h2 ho hoc o'⟩
  case xp => rintro j V ll o o' _ _ _ h; exact h
  case start => exact ⟨HST.out, Nat.le_refl _⟩
  case assign =>
    intro ll x V K hK
    dsimp only [rowEncC]
    have HK := Lib.hid hK
    clear hK
    gi_wp2
    exact HK.out
  case body =>
    rintro ll k ⟨x1, r3, c3⟩ V hk ⟨hI, hVs⟩ ⟨hx1, hxo⟩
    dsimp only at hx1 hxo
    subst hx1
    obtain ⟨Ar, cr, vs, h1, h2, h3⟩ := hI.rows
    have hw0 := HST.out.bel.size
    have hrl := rowL_length HLN.out hk
    have hS0 : Blk V.drew br 83 #[.slice Ar k cr] ∧ Blk V.drew bh 55 (hdC 40 54 (W : Nat) (H : Nat) false 24 0 0) ∧ Blk V.drew bm 80 (mkC 16711680 65280 255 (mask3 false : Nat)) := ⟨h1, hI.hb, hI.mb⟩
    have hcs : Cs V.drew V.drew.heap.size (some ⟨r3, 0, none⟩) (rowL W L k) := by
      have h9 : V.ownsRow w10.heap.size 49 4 (.slice (some ⟨r3, 0, none⟩) W c3) W (colsV (rowL W L k) ++ []) := by rw [List.append_nil]; exact hxo
      exact Cs.of_own (w := V.drew) h9 (hxo.lt r3 rfl).2
    have hokr : ∀ x ∈ rowL W L k, ColOk x := fun x hx => HOK.out x (List.mem_of_mem_drop (List.mem_of_mem_take hx))
    have HRw := Lib.hid (row_any false 40 54 (H : Nat) 0 0 false W c3 (some ⟨r3, 0, none⟩) (rowL W L k) hrl hokr (by omega) V.drew.heap.size V.drew (HT.out.below hI.bel.drew hB1) (by have := hI.bel.size; show 0 < V.heap.size; omega) hcs (Nat.le_refl _))
    have HSt : Hid (∀ (A1 : Option Addr) (c1 : Nat) (V1 : World), Below V.drew.heap.size V.drew V1 → V1.ownsRow V.drew.heap.size 5 1 (.slice A1 (rowN false W) c1) (rowN false W) (bytesV (rowB false W (rowL W L k))) →
        ∃ A9 c9 w9, (Builtin.append_ #[83, 83] 83 #[.slice Ar k cr, .slice (some ⟨V1.heap.size, 0, none⟩) 1 1]).run Tryz.prog (V1.alloc (.cells #[.slice A1 (rowN false W) c1] 22)) = .ok (.slice A9 (k + 1) c9) w9 ∧
        (Blk V1 br 83 #[.slice Ar k cr] ∧ Blk V1 bh 55 (hdC 40 54 (W : Nat) (H : Nat) false 24 0 0) ∧ Blk V1 bm 80 (mkC 16711680 65280 255 (mask3 false : Nat))) ∧
        (Blk w9 br 83 #[.slice Ar k cr] ∧ Blk w9 bh 55 (hdC 40 54 (W : Nat) (H : Nat) false 24 0 0) ∧ Blk w9 bm 80 (mkC 16711680 65280 255 (mask3 false : Nat))) ∧
        KeepsOthers V (w9.setCell ⟨br, 0, none⟩ (.slice A9 (k + 1) c9)) ∧ EncI w bh bm br bi g r c' W H (hdC 40 54 (W : Nat) (H : Nat) false 24 0 0) false L (k + 1) (w9.setCell ⟨br, 0, none⟩ (.slice A9 (k + 1) c9))) := Lib.hid (by
      intro A1 c1 V1 hb1 o1
      have hb1' : Below V.heap.size V V1 := of_drew hb1
      obtain ⟨i0, hi, hz0, hz1, hz2⟩ := info_parts info_rows
      obtain ⟨A9, c9, w9, hrun, o9, hg9, _⟩ := run_append_vs (P := Tryz.prog) (V1.alloc (.cells #[.slice A1 (rowN false W) c1] 22)) w.heap.size 83 83 22 i0 (.slice none 0 0) 24 Tryz.underlying83 hi hz0 hz1 hz2 rfl (.slice Ar k cr) k vs
        (own_upd h2 ((Upd.of_fresh hb1').alloc _) (fun _ _ => id)) (V1.heap.size + 1) (some ⟨V1.heap.size, 0, none⟩) 1 1 [.slice A1 (rowN false W) c1] rfl (vs_lit V1 22 [.slice A1 (rowN false W) c1] (V1.heap.size + 1) (by omega)) (by simp [Value.oneCell']) (by unfold maxLen; omega) (by omega) (by rw [World.size_alloc]; have := hI.bel.size; have := hb1'.size; omega)
      obtain ⟨e1, e2, e3⟩ := hI.step h1 h2 h3 hb1' (rowB_length false W _ hrl) o1 o9 hg9
      have u1 := Upd.of_fresh hb1'
      exact ⟨A9, c9, w9, hrun, ⟨h1.upd u1 id, hI.hb.upd u1 id, hI.mb.upd u1 id⟩, e3, e1, e2⟩)
    have HS0 := Lib.hid hS0
    have HVS := Lib.hid hVs
    have hVS8 := hI.bel.size
    clear hS0 hcs hokr h1 h2 h3 hI hxo hrl hVs
    gi_wp2_with fail
    refine wpRound_region_T (fun W' => Blk W' br 83 #[.slice Ar k cr] ∧ Blk W' bh 55 (hdC 40 54 (W : Nat) (H : Nat) false 24 0 0) ∧ Blk W' bm 80 (mkC 16711680 65280 255 (mask3 false : Nat))) 7 hmix (by kernel_rfl) (by rintro ⟨_, _, h⟩; exact h) 8 rfl ?_
    refine wpAnyT_take (i := 0) (v := .slice Ar k cr) rfl (by kernel_rfl) (by kernel_rfl) (by kernel_rfl) (by kernel_rfl) (fun _ _ _ h => h) (Or.inl ⟨by rfl, ?_⟩) HS0.out ?_
    · rintro wz ⟨z1, _, _⟩
      have y0 : wz.cell? ⟨br, 0, none⟩ = some (.slice Ar k cr) := z1.cell 0
      go_simp
    simp only [Act.put, List.getElem_toArray, List.getElem_cons_zero, List.setIfInBounds_toArray, List.set_cons_zero, List.set_cons_succ]
    refine wpAnyT_take (i := 1) (v := hdV 40 54 (W : Nat) (H : Nat) false 24 0 0) rfl (by kernel_rfl) (by kernel_rfl) (by kernel_rfl) (by kernel_rfl) (fun _ _ _ h => h) (Or.inl ⟨by rfl, ?_⟩) HS0.out ?_
    · rintro wz ⟨_, z1, _⟩
      have y0 : wz.cell? ⟨bh, 0, none⟩ = some (.int .i64 40) := z1.cell 0
      have y1 : wz.cell? ⟨bh, 1, none⟩ = some (.int .i64 54) := z1.cell 1
      have y2 : wz.cell? ⟨bh, 2, none⟩ = some (.int .i64 (W : Nat)) := z1.cell 2
      have y3 : wz.cell? ⟨bh, 3, none⟩ = some (.int .i64 (H : Nat)) := z1.cell 3
      have y4 : wz.cell? ⟨bh, 4, none⟩ = some (.bool false) := z1.cell 4
      have y5 : wz.cell? ⟨bh, 5, none⟩ = some (.int .i64 24) := z1.cell 5
      have y6 : wz.cell? ⟨bh, 6, none⟩ = some (.int .i64 0) := z1.cell 6
      have y7 : wz.cell? ⟨bh, 7, none⟩ = some (.int .i64 0) := z1.cell 7
      go_simp
    simp only [Act.put, List.getElem_toArray, List.getElem_cons_succ, List.getElem_cons_zero, List.setIfInBounds_toArray, List.set_cons_zero, List.set_cons_succ]
    refine wpAnyT_take (i := 2) (v := .slice (some ⟨r3, 0, none⟩) W c3) rfl (by kernel_rfl) (by kernel_rfl) (by kernel_rfl) (by kernel_rfl) (fun _ _ _ h => h) (Or.inl ⟨by rfl, ?_⟩) HS0.out ?_
    · rintro wz _
      go_simp
    simp only [Act.put, List.getElem_toArray, List.getElem_cons_succ, List.getElem_cons_zero, List.setIfInBounds_toArray, List.set_cons_zero, List.set_cons_succ]
    refine wpAnyT_take (i := 3) (v := mkV 16711680 65280 255 0) rfl (by kernel_rfl) (by kernel_rfl) (by kernel_rfl) (by kernel_rfl) (fun _ _ _ h => h) (Or.inl ⟨by rfl, ?_⟩) HS0.out ?_
    · rintro wz ⟨_, _, z1⟩
      have y0 : wz.cell? ⟨bm, 0, none⟩ = some (.int .u32 16711680) := z1.cell 0
      have y1 : wz.cell? ⟨bm, 1, none⟩ = some (.int .u32 65280) := z1.cell 1
      have y2 : wz.cell? ⟨bm, 2, none⟩ = some (.int .u32 255) := z1.cell 2
      have y3 : wz.cell? ⟨bm, 3, none⟩ = some (.int .u32 0) := z1.cell 3
      go_simp
    simp only [Act.put, List.getElem_toArray, List.getElem_cons_succ, List.getElem_cons_zero, List.setIfInBounds_toArray, List.set_cons_zero, List.set_cons_succ]
    refine wpAnyT_one (i := 4) rfl (by kernel_rfl) (by rfl) ?_
    go_simp
    refine HRw.out.mono ?_
    rintro e V1 ⟨A1, c1, rfl, o1, hb1⟩
    obtain ⟨A9, c9, w12, hrun, hS1, hS9, hK9, hI9⟩ := HSt.out A1 c1 V1 hb1 o1
    have HRN := Lib.hid hrun; have HS1 := Lib.hid hS1; have HS9 := Lib.hid hS9; have HK9 := Lib.hid hK9; have HI9 := Lib.hid hI9
    clear o1 hb1 hrun hS1 hS9 hK9 hI9 HRw HSt
    refine ⟨HS1.out, ?_⟩
    try simp only [Act.put, List.getElem_toArray, List.getElem_cons_succ, List.getElem_cons_zero, List.setIfInBounds_toArray, List.set_cons_zero, List.set_cons_succ]
    refine wpAnyT_one (i := 5) rfl (by kernel_rfl) (by rfl) ?_
    go_simp
    refine ⟨⟨HS1.out.1.alloc _, HS1.out.2.1.alloc _, HS1.out.2.2.alloc _⟩, ?_⟩
    try simp only [Act.put, List.getElem_toArray, List.getElem_cons_succ, List.getElem_cons_zero, List.setIfInBounds_toArray, List.set_cons_zero, List.set_cons_succ]
    refine wpAnyT_one (i := 6) rfl (by kernel_rfl) (by rfl) ?_
    refine wp_append_run (.tmp 40) (.tmp 45) _ rfl rfl rfl HRN.out ⟨fun _ => HS9.out, ?_⟩
    try simp only [Act.put, List.getElem_toArray, List.getElem_cons_succ, List.getElem_cons_zero, List.setIfInBounds_toArray, List.set_cons_zero, List.set_cons_succ]
    refine wpAnyT_one (i := 7) rfl (by kernel_rfl) (by rfl) ?_
    have kf := HS9.out.1.frozen 0
    have k9 : w12.cell? ⟨br, 0, none⟩ = some (.slice Ar k cr) := HS9.out.1.cell 0
    go_simp
    refine wpAnyT_done (by kernel_rfl) ?_
    gi_wp2_with fail
    exact ⟨HK9.out, HI9.out, Nat.le_trans HVS.out HK9.out.size⟩
  case done =>
    rintro D V hD ⟨hI, hVs⟩ hK
    obtain ⟨Ar, cr, vs, h1, h2, h3⟩ := hI.rows
    obtain ⟨gr, rfl, hc2, hcm, hgr1, hgr2⟩ := row_form h2 (by omega)
    have hlen := own_len h2
    have hsl : ∀ i, i < H → ∃ A n c, vs.getD i undef = .slice A n c := by
      intro i hi
      obtain ⟨A, c, e, _⟩ := h3.2 i (by omega) (by rw [← h3.1]; omega)
      exact ⟨A, _, c, by rw [List.getD_eq_getElem?_getD, List.getElem?_eq_getElem (by omega), Option.getD_some]; exact e⟩
    have hDg : ¬ D = gr := fun e => by
      subst e
      rcases h2.2 with ⟨h', _⟩ | ⟨g', c', cur, h', _, hh, _⟩
      · cases h'
      · injection h' with h' _ _
        injection h' with h'
        injection h' with h' _ _
        subst h'
        rw [hK] at hh
        cases hh
    have hDlt := (Array.getElem?_eq_some_iff.1 hK).1
    have HRv := Lib.hid (rev_any V w.heap.size gr H cr vs (by omega) (by omega) hsl h2)
    have kbr : V.cell? ⟨br, 0, none⟩ = some (.slice (some ⟨gr, 0, none⟩) H cr) := h1.cell 0
    have hw0 := HST.out.bel.size
    have HI := Lib.hid hI; have H1 := Lib.hid h1; have H2 := Lib.hid h2; have H3 := Lib.hid h3; have HK := Lib.hid hK
    clear hI h1 h2 h3 hK hsl
    go_wp2_with fail
    refine HRv.out.mono ?_
    rintro e Va ⟨rfl, o2, u2⟩
    have b2 := H1.out.upd u2 (fun e => own_blk_ne H2.out H1.out (by decide) (by rw [e]; rfl))
    have hb2 := HI.out.hb.upd u2 (fun e => own_blk_ne H2.out HI.out.hb (by decide) (by rw [e]; rfl))
    have mb2 := HI.out.mb.upd u2 (fun e => own_blk_ne H2.out HI.out.mb (by decide) (by rw [e]; rfl))
    have r2 := (H3.out.upd u2 (fun v m xs hv j hj e => own_rows_ne hv H2.out (by decide) j hj (by rw [e]; rfl))).reverse
    have k2 : Va.heap[D]? = some (.deferred (some [])) := (u2.block D hDlt hDg).trans HK.out
    have hbel2 : Below w.heap.size w Va := HI.out.bel.trans (u2.below HI.out.bel.size (fun j hj e => by omega))
    have kb2 : Va.cell? ⟨br, 0, none⟩ = some (.slice (some ⟨gr, 0, none⟩) H cr) := b2.cell 0
    have HT2 : Hid ((encR false W L H).reverse.flatten.length = rowN false W * H) := Lib.hid (by rw [rev_flat]; exact encR_flat false W H L HLN.out H (Nat.le_refl _))
    have hTb : rowN false W * H ≤ 67108864 := by
      have e1 := (row_fits false W).2
      have e2 : rowN false W * H ≤ (4 * W + 4) * H := Nat.mul_le_mul_right H e1
      rw [Nat.add_mul, Nat.mul_assoc] at e2
      omega
    have HO2 := Lib.hid o2; have HB2 := Lib.hid hb2; have MB2 := Lib.hid mb2; have R2 := Lib.hid r2; have K2 := Lib.hid k2; have HBel2 := Lib.hid hbel2
    clear b2 hb2 mb2 r2 k2 hbel2 o2 u2 HRv kbr
    obtain ⟨T, hT⟩ : ∃ T, rowN false W * H = T := ⟨_, rfl⟩
    rw [hT] at HT2 hTb
    have HTT := Lib.hid hT
    clear hT
    go_wp2_with fail
    refine (concat8_any Va w.heap.size gr H cr vs.reverse (encR false W L H).reverse (by omega) (by omega) HO2.out R2.out T HT2.out hTb).mono ?_
    rintro e Vb ⟨Ap, cp, rfl, o3, hb3⟩
    have hb3' := HB2.out.upd (Upd.of_fresh hb3) id
    have mb3' := MB2.out.upd (Upd.of_fresh hb3) id
    have HB3 := Lib.hid hb3'; have MB3 := Lib.hid mb3'
    have K3 : Hid (Vb.heap[D]? = some (.deferred (some []))) := Lib.hid ((hb3.block D (Array.getElem?_eq_some_iff.1 K2.out).1).trans K2.out)
    have HBel3 := Lib.hid (HBel2.out.trans (hb3.mono HBel2.out.size))
    have O3 := Lib.hid o3
    have hs3 := hb3.size
    clear hb3' mb3' hb3 o3 HBel2 K2 HB2 MB2 R2 HO2 kb2
    have y0 : Vb.cell? ⟨bh, 0, none⟩ = some (.int .i64 40) := HB3.out.cell 0
    have y1 : Vb.cell? ⟨bh, 1, none⟩ = some (.int .i64 54) := HB3.out.cell 1
    have y2 : Vb.cell? ⟨bh, 2, none⟩ = some (.int .i64 (W : Nat)) := HB3.out.cell 2
    have y3 : Vb.cell? ⟨bh, 3, none⟩ = some (.int .i64 (H : Nat)) := HB3.out.cell 3
    have y4 : Vb.cell? ⟨bh, 4, none⟩ = some (.bool false) := HB3.out.cell 4
    have y5 : Vb.cell? ⟨bh, 5, none⟩ = some (.int .i64 24) := HB3.out.cell 5
    have y6 : Vb.cell? ⟨bh, 6, none⟩ = some (.int .i64 0) := HB3.out.cell 6
    have y7 : Vb.cell? ⟨bh, 7, none⟩ = some (.int .i64 0) := HB3.out.cell 7
    have z0 : Vb.cell? ⟨bm, 0, none⟩ = some (.int .u32 16711680) := MB3.out.cell 0
    have z1 : Vb.cell? ⟨bm, 1, none⟩ = some (.int .u32 65280) := MB3.out.cell 1
    have z2 : Vb.cell? ⟨bm, 2, none⟩ = some (.int .u32 255) := MB3.out.cell 2
    have z3 : Vb.cell? ⟨bm, 3, none⟩ = some (.int .u32 0) := MB3.out.cell 3
    go_wp2_with fail
    refine (bytesF_any W H T (by omega) (by omega) hTb Vb).mono ?_
    rintro e Vc ⟨Ah, ch, rfl, o4, hb4⟩
    have hs4 := hb4.size
    have hsb := HBel3.out.size
    have hbs : Bs Vc Vc.heap.size Ap (encR false W L H).reverse.flatten := by
      have h9 := own_upd O3.out (Upd.of_fresh hb4) (fun _ _ => id)
      refine Bs.of_own (base := Va.heap.size) (e := 5) (c := cp) ?_
      rw [HT2.out]
      exact h9
    obtain ⟨A9, c9, w9, hrun, o9, hg9⟩ := append8 w.heap.size Vc _ _ _ (own_low o4 (by omega)) (by omega) Vc.heap.size Ap T cp _ HT2.out hbs (by omega) 22
    rw [← bytesV_append] at o9
    have hbel9 : Below w.heap.size w w9 := (HBel3.out.trans (hb4.mono (by omega))).grown hg9 (by omega) (fun q hq => by have := (o4.lt q hq).1; omega)
    have k9 : w9.heap[D]? = some (.deferred (some [])) := by
      have e1 := (hb4.block D (Array.getElem?_eq_some_iff.1 K3.out).1).trans K3.out
      exact (keeps_row o4 hg9).same _ _ e1 rfl
    have HRN := Lib.hid hrun; have HO9 := Lib.hid o9; have HBel9 := Lib.hid hbel9; have K9 := Lib.hid k9
    clear o4 hb4 hbs hrun o9 hg9 hbel9 k9 y0 y1 y2 y3 y4 y5 y6 y7 z0 z1 z2 z3
    go_wp2_with (at_builtin; refine wpList_append_run rfl (.tmp 55) (.tmp 56) _ rfl rfl rfl HRN.out ?_)
    refine ⟨by simp, .inl ⟨_, _, rfl, run_takeDeferred K9.out, ?_⟩⟩
    have u := upd_putObj (S := (· = D)) w9 D (.deferred none) rfl
    refine ⟨.tuple #[.slice A9 (54 + T) c9, .int .i64 0], by simp [results, Tryz.results13, go_sem], HR.out _ _ (54 + T) (by rw [encB_length false W H L HLN.out, HTT.out]; rfl) ⟨A9, c9, rfl, ?_, HBel9.out.trans (u.below HBel9.out.size (fun j hj e => by omega))⟩⟩
    rw [encB, HTT.out]
    exact own_put HO9.out K9.out rfl _
  case stop => rintro D j V hD h; exact h.elim

set_option maxRecDepth 100000 in
set_option maxHeartbeats 8000000 in
theorem encT_any (W H : Int) (A : Option Addr) (n c : Nat) (l : List Int) (hn : l.length = n) (hc : n ≤ c) (hlb : ∀ v ∈ l, 0 ≤ v ∧ v ≤ 65535) (B : Nat) (w : World) (hT : Tab32 w) (hB1 : 0 < w.heap.size) (h : Us w B A l) (hB : B ≤ w.heap.size) :
    Calls Tryz.prog 13 #[imgV W H A n c, .bool true] w (EncP true w W H l) := by
  refine (callsIn_wide (n := 3)).1 ?_
  refine callsIn_of_wp_marks Tryz.func13 rfl trivial ?_ rfl
  simp only [Tryz.ntmps13, List.size_toArray, List.length_cons, List.length_nil, Nat.reduceAdd, Nat.reduceSub, Array.replicate_succ, Array.replicate_zero, List.push_toArray, List.append_toArray, List.nil_append, List.cons_append]
  refine wpIn_wide.2 ?_
  have hmix : Tryz.prog.follows .mixedOrders = true := by kernel_rfl
  obtain ⟨w1, hw1, hi, hb⟩ := newImg W H A n c w
  have HW1 := Lib.hid hw1
  have HI := Lib.hid hi
  have HB := Lib.hid hb
  have HT := Lib.hid hT
  have HV := Lib.hid (Vs.below h (hb.mono hB))
  clear hw1 hi hb h hT
  go_upto_region 1 with (fail)
  rw [HW1.out]
  clear HW1
  have q0 := HI.out.c0; have q1 := HI.out.c1; have q2 := HI.out.c2
  go_wp2_with fail
  refine (grid_any W H A n c l hn hc B w1 HV.out (by have := HB.out.size; omega)).mono ?_
  intro e w2 hgr
  have hbb : Below w1.heap.size w1 w2 := by rcases hgr with ⟨_, _, h⟩ | ⟨_, _, _, _, _, _, h⟩ <;> exact h
  have HB2 := Lib.hid (HB.out.trans (hbb.mono HB.out.size))
  have HI2 := Lib.hid (HI.out.call hbb)
  have hs12 := hbb.size
  clear hbb HI q0 q1 q2
  rcases hgr with ⟨hg, rfl, _⟩ | ⟨hg, g, r, c', rfl, hcg, _⟩
  · have HG := Lib.hid hg
    clear hg
    go_wp2_with fail
    refine ⟨.tuple #[.slice none 0 0, .int .i64 6], by simp [results, Tryz.results13, go_sem], ?_⟩
    exact .inl ⟨HG.out, rfl, HB2.out⟩
  obtain ⟨W, H, rfl, rfl, hn4, hf, hw1, hw2, hh1, hh2⟩ := goodB_nat hg
  simp only [Int.toNat_natCast] at hcg
  obtain ⟨L, hL⟩ : ∃ L, pxL l (W * H) = L := ⟨_, rfl⟩
  have HR : Hid (∀ e w' N, (encB true W H L).length = N → (∃ A c, e = .returned (.tuple #[.slice A N c, .int .i64 0]) ∧ w'.ownsRow w.heap.size 5 1 (.slice A N c) N (bytesV (encB true W H L)) ∧ Below w.heap.size w w') → EncP true w W H l e w') := Lib.hid (fun e w' N hN k => .inr ⟨by rw [hn] at hg ⊢; exact hg, by simpa only [Int.toNat_natCast, hL, hN] using k⟩)
  have hok : ∀ x ∈ L, ColOk x := by
    intro x hx
    rw [← hL] at hx
    obtain ⟨i, hi, rfl⟩ := List.mem_iff_getElem.1 hx
    rw [pxL_length] at hi
    have := pxL_get l (W * H) i hi
    rw [List.getD_eq_getElem?_getD, List.getElem?_eq_getElem (by rw [pxL_length]; exact hi), Option.getD_some] at this
    rw [this]
    have hd : ∀ j, 0 ≤ l.getD j 0 ∧ l.getD j 0 ≤ 65535 := fun j => by
      by_cases hj : j < l.length
      · rw [List.getD_eq_getElem?_getD, List.getElem?_eq_getElem hj]; exact hlb _ (List.getElem_mem hj)
      · rw [List.getD_eq_getElem?_getD, List.getElem?_eq_none (by omega)]; simp
    exact ⟨hd _, hd _, hd _, hd _⟩
  rw [hL] at hcg
  have HOK := Lib.hid hok
  have q0 := HI2.out.c0; have q1 := HI2.out.c1
  have HCG := Lib.hid hcg
  have HLN : Hid (L.length = W * H) := Lib.hid hcg.len
  have hs1 := HB.out.size
  clear hcg hg hL hlb hok HV HB hn4
  go_upto_region 5 with (fail)
  obtain ⟨bh, hbh⟩ : ∃ bh, w2.heap.size = bh := ⟨_, rfl⟩
  have hs2 := HB2.out.size
  have HU3 : Hid (Upd No w2 (w2.alloc (.cells (hdC 40 0 (W : Nat) (H : Nat) false 24 0 0) 55))) := Lib.hid ((Upd.refl No w2).alloc _)
  have HH3 : Hid (Blk (w2.alloc (.cells (hdC 40 0 (W : Nat) (H : Nat) false 24 0 0) 55)) bh 55 (hdC 40 0 (W : Nat) (H : Nat) false 24 0 0)) := Lib.hid (by rw [← hbh]; exact Blk.new w2 _ _)
  rw [hbh]
  generalize w2.alloc (.cells (hdC 40 0 (W : Nat) (H : Nat) false 24 0 0) 55) = w3 at *
  clear q0 q1 HI2
  go_wp2_with fail
  refine (ofBytes_any w3).mono ?_
  rintro e w4 ⟨rfl, hb4⟩
  have HH4 := Lib.hid (HH3.out.upd (Upd.of_fresh hb4) id)
  have HU4 := Lib.hid (HU3.out.trans (Upd.of_fresh hb4))
  clear hb4 HH3 HU3
  go_upto_region 6 with (fail)
  obtain ⟨bm, hbm⟩ : ∃ bm, w4.heap.size = bm := ⟨_, rfl⟩
  have HU5 : Hid (Upd No w2 (w4.alloc (.cells (mkC 16711680 65280 255 0) 80))) := Lib.hid (HU4.out.alloc _)
  have HM5 : Hid (Blk (w4.alloc (.cells (mkC 16711680 65280 255 0) 80)) bm 80 (mkC 16711680 65280 255 0)) := Lib.hid (by rw [← hbm]; exact Blk.new w4 _ _)
  have HH5 : Hid (Blk (w4.alloc (.cells (mkC 16711680 65280 255 0) 80)) bh 55 (hdC 40 0 (W : Nat) (H : Nat) false 24 0 0)) := Lib.hid (HH4.out.upd ((Upd.refl No w4).alloc _) id)
  rw [hbm]
  have hbhm : bh < bm := by have := HH4.out.lt; omega
  have hbm5 := HM5.out.lt
  generalize w4.alloc (.cells (mkC 16711680 65280 255 0) 80) = w5 at *
  clear HH4 HU4 hbm
  have HQ := Lib.hid (set3_of HH5.out (.int .i64 108) (.int .i64 32) (.int .i64 3))
  have HP := Lib.hid (HM5.out.upd HQ.out.2 (by omega))
  have kf0 := HH5.out.frozen 0; have kf5 := HH5.out.frozen 5; have kf6 := HH5.out.frozen 6
  have kfm : (((w5.setCell ⟨bh, 0, none⟩ (.int .i64 108)).setCell ⟨bh, 5, none⟩ (.int .i64 32)).setCell ⟨bh, 6, none⟩ (.int .i64 3)).frozen? ⟨bm, 3, none⟩ = false := HP.out.frozen 3
  have kcm : (((w5.setCell ⟨bh, 0, none⟩ (.int .i64 108)).setCell ⟨bh, 5, none⟩ (.int .i64 32)).setCell ⟨bh, 6, none⟩ (.int .i64 3)).cell? ⟨bm, 3, none⟩ = some (.int .u32 0) := HP.out.cell 3
  have b0 : w5.cell? ⟨bh, 0, none⟩ = some (.int .i64 40) := HH5.out.cell 0
  have b5 : w5.cell? ⟨bh, 5, none⟩ = some (.int .i64 24) := HH5.out.cell 5
  have b6 : w5.cell? ⟨bh, 6, none⟩ = some (.int .i64 0) := HH5.out.cell 6
  have us : Upd (· = bm) (((w5.setCell ⟨bh, 0, none⟩ (.int .i64 108)).setCell ⟨bh, 5, none⟩ (.int .i64 32)).setCell ⟨bh, 6, none⟩ (.int .i64 3)) ((((w5.setCell ⟨bh, 0, none⟩ (.int .i64 108)).setCell ⟨bh, 5, none⟩ (.int .i64 32)).setCell ⟨bh, 6, none⟩ (.int .i64 3)).setCell ⟨bm, 3, none⟩ (.int .u32 4278190080)) := (Upd.refl (· = bm) _).setCell (fun _ => rfl) _
  have HH6 : Hid (Blk ((((w5.setCell ⟨bh, 0, none⟩ (.int .i64 108)).setCell ⟨bh, 5, none⟩ (.int .i64 32)).setCell ⟨bh, 6, none⟩ (.int .i64 3)).setCell ⟨bm, 3, none⟩ (.int .u32 4278190080)) bh 55 (hdC 108 0 (W : Nat) (H : Nat) false 32 3 0)) := Lib.hid (HQ.out.1.upd us (by omega))
  have HM6 : Hid (Blk ((((w5.setCell ⟨bh, 0, none⟩ (.int .i64 108)).setCell ⟨bh, 5, none⟩ (.int .i64 32)).setCell ⟨bh, 6, none⟩ (.int .i64 3)).setCell ⟨bm, 3, none⟩ (.int .u32 4278190080)) bm 80 (mkC 16711680 65280 255 4278190080)) := Lib.hid (by simpa using HP.out.set_ 3 (.int .u32 4278190080))
  have HU6 : Hid (Upd (fun j => j = bh ∨ j = bm) w2 ((((w5.setCell ⟨bh, 0, none⟩ (.int .i64 108)).setCell ⟨bh, 5, none⟩ (.int .i64 32)).setCell ⟨bh, 6, none⟩ (.int .i64 3)).setCell ⟨bm, 3, none⟩ (.int .u32 4278190080))) := Lib.hid ((HU5.out.weak8.trans (HQ.out.2.mono (fun _ _ e => .inl e))).trans (us.mono (fun _ _ e => .inr e)))
  clear us HQ HP HH5 HM5 HU5
  go_upto_region 9 with (fail)
  clear kf0 kf5 kf6 kfm kcm b0 b5 b6
  generalize (((w5.setCell ⟨bh, 0, none⟩ (.int .i64 108)).setCell ⟨bh, 5, none⟩ (.int .i64 32)).setCell ⟨bh, 6, none⟩ (.int .i64 3)).setCell ⟨bm, 3, none⟩ (.int .u32 4278190080) = w6 at *
  have v0 : w6.cell? ⟨bh, 0, none⟩ = some (.int .i64 108) := HH6.out.cell 0
  have v1 : w6.cell? ⟨bh, 1, none⟩ = some (.int .i64 0) := HH6.out.cell 1
  have v2 : w6.cell? ⟨bh, 2, none⟩ = some (.int .i64 (W : Nat)) := HH6.out.cell 2
  have v3 : w6.cell? ⟨bh, 3, none⟩ = some (.int .i64 (H : Nat)) := HH6.out.cell 3
  have v4 : w6.cell? ⟨bh, 4, none⟩ = some (.bool false) := HH6.out.cell 4
  have v5 : w6.cell? ⟨bh, 5, none⟩ = some (.int .i64 32) := HH6.out.cell 5
  have v6 : w6.cell? ⟨bh, 6, none⟩ = some (.int .i64 3) := HH6.out.cell 6
  have v7 : w6.cell? ⟨bh, 7, none⟩ = some (.int .i64 0) := HH6.out.cell 7
  go_wp2_with fail
  refine (end_any 108 0 (W : Nat) (H : Nat) false 32 3 0 (by omega) w6).mono ?_
  rintro e w7 ⟨rfl, hb7⟩
  have hh7 := HH6.out.upd (Upd.of_fresh hb7) id
  have hm7 := HM6.out.upd (Upd.of_fresh hb7) id
  have u78 : Upd (· = bh) w7 (w7.setCell ⟨bh, 1, none⟩ (.int .i64 122)) := (Upd.refl (· = bh) w7).setCell (fun _ => rfl) _
  have kf := hh7.frozen 1
  have HH8 : Hid (Blk (w7.setCell ⟨bh, 1, none⟩ (.int .i64 122)) bh 55 (hdC 108 122 (W : Nat) (H : Nat) false 32 3 0)) := Lib.hid (by simpa using hh7.set_ 1 (.int .i64 122))
  have HM8 : Hid (Blk (w7.setCell ⟨bh, 1, none⟩ (.int .i64 122)) bm 80 (mkC 16711680 65280 255 4278190080)) := Lib.hid (hm7.upd u78 (by omega))
  have hu8 := (HU6.out.trans (Upd.of_fresh hb7).weak8).trans (u78.mono (T := fun j => j = bh ∨ j = bm) (fun _ _ e => .inl e))
  have HU8 := Lib.hid hu8
  have o1 : w7.cell? ⟨bh, 1, none⟩ = some (.int .i64 0) := hh7.cell 1
  clear HH6 HM6 HU6 hb7 hm7 u78 hu8 hh7 v0 v1 v2 v3 v4 v5 v6 v7
  go_upto_region 10 with (fail)
  generalize w7.setCell ⟨bh, 1, none⟩ (.int .i64 122) = w8 at *
  clear kf o1
  go_upto_region 11 with (fail)
  obtain ⟨br, hbr⟩ : ∃ br, w8.heap.size = br := ⟨_, rfl⟩
  have u89 : Upd (fun j => j = bh ∨ j = bm) w2 (w8.alloc (.cells #[.slice none 0 0] 83)) := HU8.out.alloc _
  have hr9 : Blk (w8.alloc (.cells #[.slice none 0 0] 83)) br 83 #[.slice none 0 0] := by rw [← hbr]; exact Blk.new w8 _ _
  have hh9 := HH8.out.upd ((Upd.refl No w8).alloc (.cells #[.slice none 0 0] 83)) id
  have hm9 := HM8.out.upd ((Upd.refl No w8).alloc (.cells #[.slice none 0 0] 83)) id
  have hbr8 : bm < br := by have := HM8.out.lt; omega
  have HU9 := Lib.hid u89; have HR9 := Lib.hid hr9; have HH9 := Lib.hid hh9; have HM9 := Lib.hid hm9
  rw [hbr]
  clear u89 hr9 hh9 hm9 HU8 HH8 HM8
  generalize w8.alloc (.cells #[.slice none 0 0] 83) = w9 at *
  go_wp2_with fail
  refine (rowsC_any _ _).mono ?_
  rintro e w10 ⟨rfl, rfl⟩
  go_wp2_with fail
  obtain ⟨bi, hbi⟩ : ∃ bi, w9.heap.size = bi := ⟨_, rfl⟩
  have u10 : Upd (fun j => j = bh ∨ j = bm) w2 (w9.alloc (.cells #[.pointer (some ⟨g, 0, none⟩)] 77)) := HU9.out.alloc _
  have hi10 : Blk (w9.alloc (.cells #[.pointer (some ⟨g, 0, none⟩)] 77)) bi 77 #[.pointer (some ⟨g, 0, none⟩)] := by rw [← hbi]; exact Blk.new w9 _ _
  have un := (Upd.refl No w9).alloc (.cells #[.pointer (some ⟨g, 0, none⟩)] 77)
  have hh10 := HH9.out.upd un id
  have hm10 := HM9.out.upd un id
  have hr10 := HR9.out.upd un id
  rw [hbi]
  clear un HU9 HH9 HM9 HR9
  generalize w9.alloc (.cells #[.pointer (some ⟨g, 0, none⟩)] 77) = w10 at *
  have hgl := HCG.out.blk.lt
  have hgr := HCG.out.form.2.2.2
  have hcg10 : CG w10 w.heap.size g r c' W H L := (HCG.out.low (by omega)).upd u10 (by omega) (by omega)
  have hbel10 : Below w.heap.size w w10 := HB2.out.trans (u10.below (by omega) (fun j hj e => by omega))
  have hst : EncI w bh bm br bi g r c' W H (hdC 108 122 (W : Nat) (H : Nat) false 32 3 0) true L 0 w10 :=
    ⟨hh10, hm10, hi10, hcg10, ⟨none, 0, [], hr10, World.ownsRow_nil w10 _ _ _, RwO.nil_ _ _⟩, hbel10, by omega⟩
  have HST := Lib.hid hst
  have hbrw : w.heap.size ≤ br := by omega
  clear hst u10 hi10 hh10 hm10 hr10 hgl hgr hcg10 hbel10 HCG HB2 hbi hbr hbh hbhm hbm5 hbr8 hs2 hs1 hs12
  refine wpIn_wide.1 (wpIn_range_stop (α := RowC) (F := Fence.wide) (n := 3) rfl (by omega) (gf := 78) (lb := #[.pointer (some ⟨bi, 0, none⟩)]) rfl trivial (enters_of Tryz.func78 (by kernel_rfl) rfl) (rowEncC W) H
    (fun k V => EncI w bh bm br bi g r c' W H (hdC 108 122 (W : Nat) (H : Nat) false 32 3 0) true L k V ∧ w10.heap.size ≤ V.heap.size)
    (fun k x V => RowEnC w10.heap.size W L k x V) (fun _ _ => False)
    ?seq (fun _ => rfl) ?ia ?ip ?ep ?xp ?start ?a1 ?assign ?body ?done ?stop)
  case seq =>
    intro ll R Jx V hRb hY h0 hR
    exact rows1C_in (3 - 1) (by omega) ll bi g r c' W H w.heap.size w10.heap.size L _ R Jx (fun k V h => ⟨h.1.ib.cell 0, h.1.cg, h.2⟩) (fun k V V' h hb => ⟨h.1.keep (Upd.of_fresh hb), Nat.le_trans h.2 hb.size⟩) hRb hY V h0 hR
  case ia => rintro k V o ⟨h, hs⟩; exact ⟨h.keep ((Upd.refl No V).alloc o), by rw [World.size_alloc]; omega⟩
  case ip =>
    rintro k V ll o o' hll ho hoc ⟨h, hs⟩
    exact ⟨h.put (by have := HST.out.bel.size; omega) ho hoc o', by have := (upd_putObj (S := (· = ll)) V ll o' rfl).size; omega⟩
  case ep => rintro k x V ll o o' hll ho hoc ⟨h1, h2⟩; exact ⟨h1, own_put h2 ho hoc o'⟩
  case xp => rintro j V ll o o' _ _ _ h; exact h
  case start => exact ⟨HST.out, Nat.le_refl _⟩
  case assign =>
    intro ll x V K hK
    dsimp only [rowEncC]
    have HK := Lib.hid hK
    clear hK
    gi_wp2
    exact HK.out
  case body =>
    rintro ll k ⟨x1, r3, c3⟩ V hk ⟨hI, hVs⟩ ⟨hx1, hxo⟩
    dsimp only at hx1 hxo
    subst hx1
    obtain ⟨Ar, cr, vs, h1, h2, h3⟩ := hI.rows
    have hw0 := HST.out.bel.size
    have hrl := rowL_length HLN.out hk
    have hS0 : Blk V.drew br 83 #[.slice Ar k cr] ∧ Blk V.drew bh 55 (hdC 108 122 (W : Nat) (H : Nat) false 32 3 0) ∧ Blk V.drew bm 80 (mkC 16711680 65280 255 (mask3 true : Nat)) := ⟨h1, hI.hb, hI.mb⟩
    have hcs : Cs V.drew V.drew.heap.size (some ⟨r3, 0, none⟩) (rowL W L k) := by
      have h9 : V.ownsRow w10.heap.size 49 4 (.slice (some ⟨r3, 0, none⟩) W c3) W (colsV (rowL W L k) ++ []) := by rw [List.append_nil]; exact hxo
      exact Cs.of_own (w := V.drew) h9 (hxo.lt r3 rfl).2
    have hokr : ∀ x ∈ rowL W L k, ColOk x := fun x hx => HOK.out x (List.mem_of_mem_drop (List.mem_of_mem_take hx))
    have HRw := Lib.hid (row_any true 108 122 (H : Nat) 3 0 false W c3 (some ⟨r3, 0, none⟩) (rowL W L k) hrl hokr (by omega) V.drew.heap.size V.drew (HT.out.below hI.bel.drew hB1) (by have := hI.bel.size; show 0 < V.heap.size; omega) hcs (Nat.le_refl _))
    have HSt : Hid (∀ (A1 : Option Addr) (c1 : Nat) (V1 : World), Below V.drew.heap.size V.drew V1 → V1.ownsRow V.drew.heap.size 5 1 (.slice A1 (rowN true W) c1) (rowN true W) (bytesV (rowB true W (rowL W L k))) →
        ∃ A9 c9 w9, (Builtin.append_ #[83, 83] 83 #[.slice Ar k cr, .slice (some ⟨V1.heap.size, 0, none⟩) 1 1]).run Tryz.prog (V1.alloc (.cells #[.slice A1 (rowN true W) c1] 22)) = .ok (.slice A9 (k + 1) c9) w9 ∧
        (Blk V1 br 83 #[.slice Ar k cr] ∧ Blk V1 bh 55 (hdC 108 122 (W : Nat) (H : Nat) false 32 3 0) ∧ Blk V1 bm 80 (mkC 16711680 65280 255 (mask3 true : Nat))) ∧
        (Blk w9 br 83 #[.slice Ar k cr] ∧ Blk w9 bh 55 (hdC 108 122 (W : Nat) (H : Nat) false 32 3 0) ∧ Blk w9 bm 80 (mkC 16711680 65280 255 (mask3 true : Nat))) ∧
        KeepsOthers V (w9.setCell ⟨br, 0, none⟩ (.slice A9 (k + 1) c9)) ∧ EncI w bh bm br bi g r c' W H (hdC 108 122 (W : Nat) (H : Nat) false 32 3 0) true L (k + 1) (w9.setCell ⟨br, 0, none⟩ (.slice A9 (k + 1) c9))) := Lib.hid (by
      intro A1 c1 V1 hb1 o1
      have hb1' : Below V.heap.size V V1 := of_drew hb1
      obtain ⟨i0, hi, hz0, hz1, hz2⟩ := info_parts info_rows
      obtain ⟨A9, c9, w9, hrun, o9, hg9, _⟩ := run_append_vs (P := Tryz.prog) (V1.alloc (.cells #[.slice A1 (rowN true W) c1] 22)) w.heap.size 83 83 22 i0 (.slice none 0 0) 24 Tryz.underlying83 hi hz0 hz1 hz2 rfl (.slice Ar k cr) k vs
        (own_upd h2 ((Upd.of_fresh hb1').alloc _) (fun _ _ => id)) (V1.heap.size + 1) (some ⟨V1.heap.size, 0, none⟩) 1 1 [.slice A1 (rowN true W) c1] rfl (vs_lit V1 22 [.slice A1 (rowN true W) c1] (V1.heap.size + 1) (by omega)) (by simp [Value.oneCell']) (by unfold maxLen; omega) (by omega) (by rw [World.size_alloc]; have := hI.bel.size; have := hb1'.size; omega)
      obtain ⟨e1, e2, e3⟩ := hI.step h1 h2 h3 hb1' (rowB_length true W _ hrl) o1 o9 hg9
      have u1 := Upd.of_fresh hb1'
      exact ⟨A9, c9, w9, hrun, ⟨h1.upd u1 id, hI.hb.upd u1 id, hI.mb.upd u1 id⟩, e3, e1, e2⟩)
    have HS0 := Lib.hid hS0
    have HVS := Lib.hid hVs
    have hVS8 := hI.bel.size
    clear hS0 hcs hokr h1 h2 h3 hI hxo hrl hVs
    gi_wp2_with fail
    refine wpRound_region_T (fun W' => Blk W' br 83 #[.slice Ar k cr] ∧ Blk W' bh 55 (hdC 108 122 (W : Nat) (H : Nat) false 32 3 0) ∧ Blk W' bm 80 (mkC 16711680 65280 255 (mask3 true : Nat))) 7 hmix (by kernel_rfl) (by rintro ⟨_, _, h⟩; exact h) 8 rfl ?_
    refine wpAnyT_take (i := 0) (v := .slice Ar k cr) rfl (by kernel_rfl) (by kernel_rfl) (by kernel_rfl) (by kernel_rfl) (fun _ _ _ h => h) (Or.inl ⟨by rfl, ?_⟩) HS0.out ?_
    · rintro wz ⟨z1, _, _⟩
      have y0 : wz.cell? ⟨br, 0, none⟩ = some (.slice Ar k cr) := z1.cell 0
      go_simp
    simp only [Act.put, List.getElem_toArray, List.getElem_cons_zero, List.setIfInBounds_toArray, List.set_cons_zero, List.set_cons_succ]
    refine wpAnyT_take (i := 1) (v := hdV 108 122 (W : Nat) (H : Nat) false 32 3 0) rfl (by kernel_rfl) (by kernel_rfl) (by kernel_rfl) (by kernel_rfl) (fun _ _ _ h => h) (Or.inl ⟨by rfl, ?_⟩) HS0.out ?_
    · rintro wz ⟨_, z1, _⟩
      have y0 : wz.cell? ⟨bh, 0, none⟩ = some (.int .i64 108) := z1.cell 0
      have y1 : wz.cell? ⟨bh, 1, none⟩ = some (.int .i64 122) := z1.cell 1
      have y2 : wz.cell? ⟨bh, 2, none⟩ = some (.int .i64 (W : Nat)) := z1.cell 2
      have y3 : wz.cell? ⟨bh, 3, none⟩ = some (.int .i64 (H : Nat)) := z1.cell 3
      have y4 : wz.cell? ⟨bh, 4, none⟩ = some (.bool false) := z1.cell 4
      have y5 : wz.cell? ⟨bh, 5, none⟩ = some (.int .i64 32) := z1.cell 5
      have y6 : wz.cell? ⟨bh, 6, none⟩ = some (.int .i64 3) := z1.cell 6
      have y7 : wz.cell? ⟨bh, 7, none⟩ = some (.int .i64 0) := z1.cell 7
      go_simp
    simp only [Act.put, List.getElem_toArray, List.getElem_cons_succ, List.getElem_cons_zero, List.setIfInBounds_toArray, List.set_cons_zero, List.set_cons_succ]
    refine wpAnyT_take (i := 2) (v := .slice (some ⟨r3, 0, none⟩) W c3) rfl (by kernel_rfl) (by kernel_rfl) (by kernel_rfl) (by kernel_rfl) (fun _ _ _ h => h) (Or.inl ⟨by rfl, ?_⟩) HS0.out ?_
    · rintro wz _
      go_simp
    simp only [Act.put, List.getElem_toArray, List.getElem_cons_succ, List.getElem_cons_zero, List.setIfInBounds_toArray, List.set_cons_zero, List.set_cons_succ]
    refine wpAnyT_take (i := 3) (v := mkV 16711680 65280 255 4278190080) rfl (by kernel_rfl) (by kernel_rfl) (by kernel_rfl) (by kernel_rfl) (fun _ _ _ h => h) (Or.inl ⟨by rfl, ?_⟩) HS0.out ?_
    · rintro wz ⟨_, _, z1⟩
      have y0 : wz.cell? ⟨bm, 0, none⟩ = some (.int .u32 16711680) := z1.cell 0
      have y1 : wz.cell? ⟨bm, 1, none⟩ = some (.int .u32 65280) := z1.cell 1
      have y2 : wz.cell? ⟨bm, 2, none⟩ = some (.int .u32 255) := z1.cell 2
      have y3 : wz.cell? ⟨bm, 3, none⟩ = some (.int .u32 4278190080) := z1.cell 3
      go_simp
    simp only [Act.put, List.getElem_toArray, List.getElem_cons_succ, List.getElem_cons_zero, List.setIfInBounds_toArray, List.set_cons_zero, List.set_cons_succ]
    refine wpAnyT_one (i := 4) rfl (by kernel_rfl) (by rfl) ?_
    go_simp
    refine HRw.out.mono ?_
    rintro e V1 ⟨A1, c1, rfl, o1, hb1⟩
    obtain ⟨A9, c9, w12, hrun, hS1, hS9, hK9, hI9⟩ := HSt.out A1 c1 V1 hb1 o1
    have HRN := Lib.hid hrun; have HS1 := Lib.hid hS1; have HS9 := Lib.hid hS9; have HK9 := Lib.hid hK9; have HI9 := Lib.hid hI9
    clear o1 hb1 hrun hS1 hS9 hK9 hI9 HRw HSt
    refine ⟨HS1.out, ?_⟩
    try simp only [Act.put, List.getElem_toArray, List.getElem_cons_succ, List.getElem_cons_zero, List.setIfInBounds_toArray, List.set_cons_zero, List.set_cons_succ]
    refine wpAnyT_one (i := 5) rfl (by kernel_rfl) (by rfl) ?_
    go_simp
    refine ⟨⟨HS1.out.1.alloc _, HS1.out.2.1.alloc _, HS1.out.2.2.alloc _⟩, ?_⟩
    try simp only [Act.put, List.getElem_toArray, List.getElem_cons_succ, List.getElem_cons_zero, List.setIfInBounds_toArray, List.set_cons_zero, List.set_cons_succ]
    refine wpAnyT_one (i := 6) rfl (by kernel_rfl) (by rfl) ?_
    refine wp_append_run (.tmp 40) (.tmp 45) _ rfl rfl rfl HRN.out ⟨fun _ => HS9.out, ?_⟩
    try simp only [Act.put, List.getElem_toArray, List.getElem_cons_succ, List.getElem_cons_zero, List.setIfInBounds_toArray, List.set_cons_zero, List.set_cons_succ]
    refine wpAnyT_one (i := 7) rfl (by kernel_rfl) (by rfl) ?_
    have kf := HS9.out.1.frozen 0
    have k9 : w12.cell? ⟨br, 0, none⟩ = some (.slice Ar k cr) := HS9.out.1.cell 0
    go_simp
    refine wpAnyT_done (by kernel_rfl) ?_
    gi_wp2_with fail
    exact ⟨HK9.out, HI9.out, Nat.le_trans HVS.out HK9.out.size⟩
  case done =>
    rintro D V hD ⟨hI, hVs⟩ hK
    obtain ⟨Ar, cr, vs, h1, h2, h3⟩ := hI.rows
    obtain ⟨gr, rfl, hc2, hcm, hgr1, hgr2⟩ := row_form h2 (by omega)
    have hlen := own_len h2
    have hsl : ∀ i, i < H → ∃ A n c, vs.getD i undef = .slice A n c := by
      intro i hi
      obtain ⟨A, c, e, _⟩ := h3.2 i (by omega) (by rw [← h3.1]; omega)
      exact ⟨A, _, c, by rw [List.getD_eq_getElem?_getD, List.getElem?_eq_getElem (by omega), Option.getD_some]; exact e⟩
    have hDg : ¬ D = gr := fun e => by
      subst e
      rcases h2.2 with ⟨h', _⟩ | ⟨g', c', cur, h', _, hh, _⟩
      · cases h'
      · injection h' with h' _ _
        injection h' with h'
        injection h' with h' _ _
        subst h'
        rw [hK] at hh
        cases hh
    have hDlt := (Array.getElem?_eq_some_iff.1 hK).1
    have HRv := Lib.hid (rev_any V w.heap.size gr H cr vs (by omega) (by omega) hsl h2)
    have kbr : V.cell? ⟨br, 0, none⟩ = some (.slice (some ⟨gr, 0, none⟩) H cr) := h1.cell 0
    have hw0 := HST.out.bel.size
    have HI := Lib.hid hI; have H1 := Lib.hid h1; have H2 := Lib.hid h2; have H3 := Lib.hid h3; have HK := Lib.hid hK
    clear hI h1 h2 h3 hK hsl
    go_wp2_with fail
    refine HRv.out.mono ?_
    rintro e Va ⟨rfl, o2, u2⟩
    have b2 := H1.out.upd u2 (fun e => own_blk_ne H2.out H1.out (by decide) (by rw [e]; rfl))
    have hb2 := HI.out.hb.upd u2 (fun e => own_blk_ne H2.out HI.out.hb (by decide) (by rw [e]; rfl))
    have mb2 := HI.out.mb.upd u2 (fun e => own_blk_ne H2.out HI.out.mb (by decide) (by rw [e]; rfl))
    have r2 := (H3.out.upd u2 (fun v m xs hv j hj e => own_rows_ne hv H2.out (by decide) j hj (by rw [e]; rfl))).reverse
    have k2 : Va.heap[D]? = some (.deferred (some [])) := (u2.block D hDlt hDg).trans HK.out
    have hbel2 : Below w.heap.size w Va := HI.out.bel.trans (u2.below HI.out.bel.size (fun j hj e => by omega))
    have kb2 : Va.cell? ⟨br, 0, none⟩ = some (.slice (some ⟨gr, 0, none⟩) H cr) := b2.cell 0
    have HT2 : Hid ((encR true W L H).reverse.flatten.length = rowN true W * H) := Lib.hid (by rw [rev_flat]; exact encR_flat true W H L HLN.out H (Nat.le_refl _))
    have hTb : rowN true W * H ≤ 67108864 := by
      have e1 := (row_fits true W).2
      have e2 : rowN true W * H ≤ (4 * W + 4) * H := Nat.mul_le_mul_right H e1
      rw [Nat.add_mul, Nat.mul_assoc] at e2
      omega
    have HO2 := Lib.hid o2; have HB2 := Lib.hid hb2; have MB2 := Lib.hid mb2; have R2 := Lib.hid r2; have K2 := Lib.hid k2; have HBel2 := Lib.hid hbel2
    clear b2 hb2 mb2 r2 k2 hbel2 o2 u2 HRv kbr
    obtain ⟨T, hT⟩ : ∃ T, rowN true W * H = T := ⟨_, rfl⟩
    rw [hT] at HT2 hTb
    have HTT := Lib.hid hT
    clear hT
    go_wp2_with fail
    refine (concat8_any Va w.heap.size gr H cr vs.reverse (encR true W L H).reverse (by omega) (by omega) HO2.out R2.out T HT2.out hTb).mono ?_
    rintro e Vb ⟨Ap, cp, rfl, o3, hb3⟩
    have hb3' := HB2.out.upd (Upd.of_fresh hb3) id
    have mb3' := MB2.out.upd (Upd.of_fresh hb3) id
    have HB3 := Lib.hid hb3'; have MB3 := Lib.hid mb3'
    have K3 : Hid (Vb.heap[D]? = some (.deferred (some []))) := Lib.hid ((hb3.block D (Array.getElem?_eq_some_iff.1 K2.out).1).trans K2.out)
    have HBel3 := Lib.hid (HBel2.out.trans (hb3.mono HBel2.out.size))
    have O3 := Lib.hid o3
    have hs3 := hb3.size
    clear hb3' mb3' hb3 o3 HBel2 K2 HB2 MB2 R2 HO2 kb2
    have y0 : Vb.cell? ⟨bh, 0, none⟩ = some (.int .i64 108) := HB3.out.cell 0
    have y1 : Vb.cell? ⟨bh, 1, none⟩ = some (.int .i64 122) := HB3.out.cell 1
    have y2 : Vb.cell? ⟨bh, 2, none⟩ = some (.int .i64 (W : Nat)) := HB3.out.cell 2
    have y3 : Vb.cell? ⟨bh, 3, none⟩ = some (.int .i64 (H : Nat)) := HB3.out.cell 3
    have y4 : Vb.cell? ⟨bh, 4, none⟩ = some (.bool false) := HB3.out.cell 4
    have y5 : Vb.cell? ⟨bh, 5, none⟩ = some (.int .i64 32) := HB3.out.cell 5
    have y6 : Vb.cell? ⟨bh, 6, none⟩ = some (.int .i64 3) := HB3.out.cell 6
    have y7 : Vb.cell? ⟨bh, 7, none⟩ = some (.int .i64 0) := HB3.out.cell 7
    have z0 : Vb.cell? ⟨bm, 0, none⟩ = some (.int .u32 16711680) := MB3.out.cell 0
    have z1 : Vb.cell? ⟨bm, 1, none⟩ = some (.int .u32 65280) := MB3.out.cell 1
    have z2 : Vb.cell? ⟨bm, 2, none⟩ = some (.int .u32 255) := MB3.out.cell 2
    have z3 : Vb.cell? ⟨bm, 3, none⟩ = some (.int .u32 4278190080) := MB3.out.cell 3
    go_wp2_with fail
    refine (bytesT_any W H T (by omega) (by omega) hTb Vb).mono ?_
    rintro e Vc ⟨Ah, ch, rfl, o4, hb4⟩
    have hs4 := hb4.size
    have hsb := HBel3.out.size
    have hbs : Bs Vc Vc.heap.size Ap (encR true W L H).reverse.flatten := by
      have h9 := own_upd O3.out (Upd.of_fresh hb4) (fun _ _ => id)
      refine Bs.of_own (base := Va.heap.size) (e := 5) (c := cp) ?_
      rw [HT2.out]
      exact h9
    obtain ⟨A9, c9, w9, hrun, o9, hg9⟩ := append8 w.heap.size Vc _ _ _ (own_low o4 (by omega)) (by omega) Vc.heap.size Ap T cp _ HT2.out hbs (by omega) 22
    rw [← bytesV_append] at o9
    have hbel9 : Below w.heap.size w w9 := (HBel3.out.trans (hb4.mono (by omega))).grown hg9 (by omega) (fun q hq => by have := (o4.lt q hq).1; omega)
    have k9 : w9.heap[D]? = some (.deferred (some [])) := by
      have e1 := (hb4.block D (Array.getElem?_eq_some_iff.1 K3.out).1).trans K3.out
      exact (keeps_row o4 hg9).same _ _ e1 rfl
    have HRN := Lib.hid hrun; have HO9 := Lib.hid o9; have HBel9 := Lib.hid hbel9; have K9 := Lib.hid k9
    clear o4 hb4 hbs hrun o9 hg9 hbel9 k9 y0 y1 y2 y3 y4 y5 y6 y7 z0 z1 z2 z3
    go_wp2_with (at_builtin; refine wpList_append_run rfl (.tmp 55) (.tmp 56) _ rfl rfl rfl HRN.out ?_)
    refine ⟨by simp, .inl ⟨_, _, rfl, run_takeDeferred K9.out, ?_⟩⟩
    have u := upd_putObj (S := (· = D)) w9 D (.deferred none) rfl
    refine ⟨.tuple #[.slice A9 (122 + T) c9, .int .i64 0], by simp [results, Tryz.results13, go_sem], HR.out _ _ (122 + T) (by rw [encB_length true W H L HLN.out, HTT.out]; rfl) ⟨A9, c9, rfl, ?_, HBel9.out.trans (u.below HBel9.out.size (fun j hj e => by omega))⟩⟩
    rw [encB, HTT.out]
    exact own_put HO9.out K9.out rfl _
  case stop => rintro D j V hD h; exact h.elim

end Go.Proofs.YtnfjeeflcfmpbaaGreatDoor
