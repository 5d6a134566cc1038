/- The numbers of all rows. -/
import Derived.Test.YtnfjeeflcfmpbaaGreatDoorYu
import Derived.Test.YtnfjeeflcfmpbaaGreatDoorYm
import Derived.Test.YtnfjeeflcfmpbaaGreatDoorYj
import Derived.Test.YtnfjeeflcfmpbaaGreatDoorSu
import Derived.Test.YtnfjeeflcfmpbaaGreatDoorRo
set_option linter.unusedVariables false
set_option linter.unusedSimpArgs false
namespace Go.Proofs.YtnfjeeflcfmpbaaGreatDoor
open Go.ChangeShapes Go.WideShapes Go.ChangeAt Go.RowKit Go.Shelf
attribute [local go_sem] Oper.semAt_some

/-- The numbers of the first k rows. -/
def numR (lb : List UInt8) (R d W k : Nat) : List Nat := ((List.range k).map fun j => numsL ((lb.drop (R * j)).take R) d W).flatten
theorem numR_succ (lb : List UInt8) (R d W k : Nat) : numR lb R d W (k + 1) = numR lb R d W k ++ numsL ((lb.drop (R * k)).take R) d W := by
  unfold numR
  rw [List.range_succ, List.map_append, List.flatten_append]
  simp
theorem numsL_length (l : List UInt8) (d n : Nat) : (numsL l d n).length = n := by simp [numsL]
theorem numR_length (lb : List UInt8) (R d W : Nat) : ∀ k, (numR lb R d W k).length = W * k
  | 0 => by simp [numR]
  | k + 1 => by rw [numR_succ, List.length_append, numR_length lb R d W k, numsL_length, Nat.mul_succ]
theorem bs_piece {w : World} {B : Nat} {ad : Addr} {lb : List UInt8} (h : Bs w B (some ad) lb) (j R : Nat) (hj : j ≤ lb.length) : Bs w B (some (ad.add j)) ((lb.drop j).take R) := by
  have := (h.drop (k := j) (cap := lb.length + 1) hj (by omega)).take R
  rw [if_neg (by omega)] at this
  exact this
structure RwS (w : World) (hd : Array Value) (bl bc R d W T c : Nat) (ad : Addr) (B : Nat) (lb : List UInt8) (k : Nat) (V : World) : Prop where
  hb : Blk V w.heap.size 55 hd
  rows : ∃ A9 c9, Blk V bl 63 #[.slice A9 (W * k) c9] ∧ V.ownsRow w.heap.size 45 1 (.slice A9 (W * k) c9) (W * k) (nV (numR lb R d W k))
  cb : Blk V bc 22 #[.slice (some ad) T c]
  ci : Blk V (bc + 1) 3 #[.int .i64 (R : Nat)]
  bs : Bs V B (some ad) lb
  hB : B ≤ w.heap.size
  bel : Below w.heap.size w V
  blf : w.heap.size ≤ bl
theorem RwS.keep {w : World} {hd : Array Value} {bl bc R d W T c B k : Nat} {ad : Addr} {lb : List UInt8} {V V' : World} (h : RwS w hd bl bc R d W T c ad B lb k V) (u : Upd No V V') : RwS w hd bl bc R d W T c ad B lb k V' := by
  obtain ⟨A9, c9, h1, h2⟩ := h.rows
  exact ⟨h.hb.upd u id, ⟨A9, c9, h1.upd u id, own_upd h2 u (fun _ _ => id)⟩, h.cb.upd u id, h.ci.upd u id, h.bs.below (u.fresh.mono (Nat.le_trans h.hB h.bel.size)), h.hB, h.bel.trans (u.fresh.mono h.bel.size), h.blf⟩
theorem RwS.put {w : World} {hd : Array Value} {bl bc R d W T c B k : Nat} {ad : Addr} {lb : List UInt8} {V : World} (h : RwS w hd bl bc R d W T c ad B lb k V) {ll : Nat} {o : Obj} (hll : w.heap.size ≤ ll) (ho : V.heap[ll]? = some o) (hoc : o.isCells = false) (o' : Obj) : RwS w hd bl bc R d W T c ad B lb k (V.putObj ll o') := by
  have u := upd_putObj (S := (· = ll)) V ll o' rfl
  have hub := u.below (B := w.heap.size) h.bel.size (fun i hi e => by omega)
  obtain ⟨A9, c9, h1, h2⟩ := h.rows
  exact ⟨h.hb.upd u (blk_ne_obj h.hb ho hoc), ⟨A9, c9, h1.upd u (blk_ne_obj h1 ho hoc), own_put h2 ho hoc o'⟩, h.cb.upd u (blk_ne_obj h.cb ho hoc), h.ci.upd u (blk_ne_obj h.ci ho hoc), h.bs.below (hub.mono h.hB), h.hB, h.bel.trans hub, h.blf⟩
theorem RwS.step {w : World} {hd : Array Value} {bl bc R d W T c B k : Nat} {ad : Addr} {lb : List UInt8} {V V1 w9 : World} (h : RwS w hd bl bc R d W T c ad B lb k V) {A A9 : Option Addr} {cr c9 : Nat}
    (h1 : Blk V bl 63 #[.slice A (W * k) cr]) (h2 : V.ownsRow w.heap.size 45 1 (.slice A (W * k) cr) (W * k) (nV (numR lb R d W k))) (hb1 : Below V.heap.size V V1)
    (o9 : w9.ownsRow w.heap.size 45 1 (.slice A9 (W * k + W) c9) (W * k + W) (nV (numR lb R d W k) ++ nV (numsL ((lb.drop (R * k)).take R) d W))) (hg9 : V1.grownBy w9 (Value.slice A (W * k) cr).ownBlock) :
    KeepsOthers V (w9.setCell ⟨bl, 0, none⟩ (.slice A9 (W * k + W) c9)) ∧ RwS w hd bl bc R d W T c ad B lb (k + 1) (w9.setCell ⟨bl, 0, none⟩ (.slice A9 (W * k + W) c9)) ∧ (Blk w9 bl 63 #[.slice A (W * k) cr] ∧ Blk w9 w.heap.size 55 hd) := by
  have hV := h.bel.size
  have u1 : Upd No V V1 := Upd.of_fresh hb1
  have hk2 := h.keep u1
  have o2 := own_upd h2 u1 (fun _ _ => id)
  have b2 := h1.upd u1 id
  have u9 : Upd (fun j => some j = (Value.slice A (W * k) cr).ownBlock) V1 w9 := (Upd.of_grown hg9).mono (fun j _ e => e)
  have us := (Upd.refl (· = bl) w9).setCell (p := ⟨bl, 0, none⟩) (fun _ => rfl) (.slice A9 (W * k + W) c9)
  have b9 := b2.upd u9 (fun e => own_blk_ne o2 b2 (by decide) e.symm)
  have hb9 := hk2.hb.upd u9 (fun e => own_blk_ne o2 hk2.hb (by decide) e.symm)
  have cb9 := hk2.cb.upd u9 (fun e => own_blk_ne o2 hk2.cb (by decide) e.symm)
  have ci9 := hk2.ci.upd u9 (fun e => own_blk_ne o2 hk2.ci (by decide) e.symm)
  have hub9 : Below w.heap.size V1 w9 := u9.below hk2.bel.size (fun j hj e => by have := (o2.lt j e.symm).1; omega)
  have hub := hk2.bel.trans hub9
  have husb : Below w.heap.size w9 (w9.setCell ⟨bl, 0, none⟩ (.slice A9 (W * k + W) c9)) := us.below hub.size (fun j hj e => by have := h.blf; omega)
  refine ⟨(keeps_of_fresh hb1).trans ((keeps_row o2 hg9).trans (KeepsOthers.setCell w9 ⟨bl, 0, none⟩ _)), ⟨hb9.upd us (hb9.ne_ b9 (by decide)), ⟨A9, c9, ?_, ?_⟩, cb9.upd us (cb9.ne_ b9 (by decide)), ci9.upd us (ci9.ne_ b9 (by decide)), (hk2.bs.below (hub9.mono h.hB)).below (husb.mono h.hB), h.hB, hub.trans husb, h.blf⟩, b9, hb9⟩
  · rw [Nat.mul_succ]
    simpa using b9.set_ 0 (.slice A9 (W * k + W) c9)
  · rw [Nat.mul_succ, numR_succ, nV_append]
    exact own_upd o9 us (fun j hj e => own_blk_ne o9 b9 (by decide) (by rw [hj, e]))
set_option maxRecDepth 100000 in
set_option maxHeartbeats 8000000 in
theorem rows_any (al : Bool) (s p : Int) (W H : Nat) (k0 n0 : Int) (dn : Bool) (m c : Nat) (A : Option Addr) (lb : List UInt8) (hW1 : 1 ≤ W) (hW : W ≤ 4096) (hH1 : 1 ≤ H) (hH : H ≤ 4096) (hf : W * H ≤ 65536) (hm : lb.length = m) (hmr : rowN al W * H ≤ m) (hmc : m ≤ c) (hmb : m ≤ 67108864) (B : Nat) (w : World) (hbs : Bs w B A lb) (hB : B ≤ w.heap.size) :
    Calls Tryz.prog 63 #[hdV s p (W : Nat) (H : Nat) dn (dep al : Nat) k0 n0, .slice A m c] w fun e w' => ∃ A' c', e = .returned (.tuple #[.slice A' (W * H) c', .bool true]) ∧ w'.ownsRow w.heap.size 45 1 (.slice A' (W * H) c') (W * H) (nV (numR lb (rowN al W) (dep al) W H)) ∧ Below w.heap.size w w' := by
  have hrf := row_fits al W
  have hR1 : 1 ≤ rowN al W := by have : 1 ≤ pxN al := by cases al <;> simp [pxN]
                                 have := Nat.mul_le_mul this hW1
                                 omega
  have HFIT : Hid (dep al * W ≤ 8 * rowN al W) := Lib.hid (by rw [dep_px, Nat.mul_assoc]; omega)
  have hT1 : 1 ≤ rowN al W * H := Nat.mul_le_mul hR1 hH1
  have hTb : rowN al W * H ≤ 8000000 := by
    have e2 : rowN al W * H ≤ (4 * W + 4) * H := Nat.mul_le_mul_right H hrf.2
    rw [Nat.add_mul, Nat.mul_assoc] at e2
    omega
  have HRL : Hid (rowN al W = (W * dep al + 31) / 32 * 4) := Lib.hid rfl
  have hd32 : dep al ≤ 32 := by cases al <;> simp [dep]
  obtain ⟨ad, rfl, _, _⟩ := hbs (by omega)
  have hRb : rowN al W ≤ 65536 := by omega
  have HRL2 := Lib.hid (rowLength_any s p W (dep al) (H : Nat) dn k0 n0 (by omega) hd32)
  generalize rowN al W = R at *
  obtain ⟨T, hT⟩ : ∃ T, R * H = T := ⟨_, rfl⟩
  obtain ⟨M, hM⟩ : ∃ M, W * H = M := ⟨_, rfl⟩
  have HT := Lib.hid hT; have HM := Lib.hid hM; have HLB := Lib.hid hm
  rw [hT] at hmr hT1 hTb
  have HMf : Hid (W * H ≤ 65536) := Lib.hid hf
  rw [hM] at hf
  have HM1 : Hid (wrap64 ((R : Int) * (H : Int)) = (T : Int)) := Lib.hid (by rw [← Int.natCast_mul, hT]; exact IntWalk.wrap64_in _ (by omega))
  have HM2 : Hid (wrap64 ((W : Int) * (H : Int)) = (M : Int)) := Lib.hid (by rw [← Int.natCast_mul, hM]; exact IntWalk.wrap64_in _ (by omega))
  rw [hM]
  clear hT hM hrf hm
  have bel := (Below.refl w.heap.size w).alloc (Nat.le_refl _) (.cells (hdC s p (W : Nat) (H : Nat) dn (dep al : Nat) k0 n0) 55)
  have hb := Blk.new w 55 (hdC s p (W : Nat) (H : Nat) dn (dep al : Nat) k0 n0)
  have hbs1 := hbs.below (bel.mono hB)
  obtain ⟨i0, hti, hz0, hz1, hz2⟩ := info_parts info_u32
  have hmix : Tryz.prog.follows .mixedOrders = true := by kernel_rfl
  refine (callsIn_wide (n := 3)).1 ?_
  refine callsIn_of_wp_marks Tryz.func63 rfl trivial ?_ rfl
  simp only [Tryz.ntmps63, List.size_toArray, List.length_cons, List.length_nil, Nat.reduceAdd, Nat.reduceSub, Array.replicate_succ, Array.replicate_zero, List.push_toArray, List.append_toArray, List.nil_append, List.cons_append]
  refine wpIn_wide.2 ?_
  go_upto_region 1 with (fail)
  generalize w.alloc (.cells (hdC s p (W : Nat) (H : Nat) dn (dep al : Nat) k0 n0) 55) = w1 at *
  have HB := Lib.hid hb; have HBel := Lib.hid bel; have HBs := Lib.hid hbs1
  have hs1 := hb.lt
  have c0 : w1.cell? ⟨w.heap.size, 0, none⟩ = some (.int .i64 s) := hb.cell 0
  have c1 : w1.cell? ⟨w.heap.size, 1, none⟩ = some (.int .i64 p) := hb.cell 1
  have c2 : w1.cell? ⟨w.heap.size, 2, none⟩ = some (.int .i64 (W : Nat)) := hb.cell 2
  have c3 : w1.cell? ⟨w.heap.size, 3, none⟩ = some (.int .i64 (H : Nat)) := hb.cell 3
  have c4 : w1.cell? ⟨w.heap.size, 4, none⟩ = some (.bool dn) := hb.cell 4
  have c5 : w1.cell? ⟨w.heap.size, 5, none⟩ = some (.int .i64 (dep al : Nat)) := hb.cell 5
  have c6 : w1.cell? ⟨w.heap.size, 6, none⟩ = some (.int .i64 k0) := hb.cell 6
  have c7 : w1.cell? ⟨w.heap.size, 7, none⟩ = some (.int .i64 n0) := hb.cell 7
  clear hb bel hbs hbs1
  go_wp2_with fail
  refine (HRL2.out w1).mono ?_
  rintro e w2 ⟨rfl, hb2⟩
  rw [← HRL.out]
  have HB2 := Lib.hid (HB.out.upd (Upd.of_fresh hb2) id)
  have HBel2 := Lib.hid (HBel.out.trans (hb2.mono (by omega)))
  have HBs2 := Lib.hid (HBs.out.below (hb2.mono (by omega)))
  have hs2 := hb2.size
  have d2 : w2.cell? ⟨w.heap.size, 2, none⟩ = some (.int .i64 (W : Nat)) := HB2.out.cell 2
  have d3 : w2.cell? ⟨w.heap.size, 3, none⟩ = some (.int .i64 (H : Nat)) := HB2.out.cell 3
  clear c0 c1 c2 c3 c4 c5 c6 c7 hb2 HB HBel HBs HRL2 HRL
  have i1 : ¬ ((m : Int) < (T : Int)) := by omega
  have i2 : ((T : Int)) ≤ (c : Int) := by omega
  go_upto_region 3 with (fail)
  rw [HM1.out]
  go_upto_region 5 with (fail)
  go_upto_region 6 with (at_make; refine wpList_make_own _ rfl (.const (.int .i64 0)) (.tmp 24) 63 rfl w2.heap.size 45 i0 (.int .u32 0) 1 Tryz.underlying63 hti hz0 hz1 .i64 .i64 _ M rfl rfl HM2.out (by rw [hz2]; omega) (by unfold maxLen; omega) (Nat.le_refl _) ?_; intro w3 hown3 hg3)
  have u3 : Upd No w2 w3 := (Upd.of_grown hg3).mono (fun k _ h => by simp at h)
  have u4 := u3.alloc (.cells #[.slice (some ⟨w2.heap.size, 0, none⟩) 0 M] 63)
  have hl4 := Blk.new w3 63 #[.slice (some ⟨w2.heap.size, 0, none⟩) 0 M]
  have o4 := own_low (own_upd hown3 ((Upd.refl No w3).alloc (.cells #[.slice (some ⟨w2.heap.size, 0, none⟩) 0 M] 63)) (fun _ _ => id)) (show w.heap.size ≤ w2.heap.size by omega)
  have hs3 := u3.size
  obtain ⟨bl, hbl⟩ : ∃ bl, w3.heap.size = bl := ⟨_, rfl⟩
  obtain ⟨g4, hg4⟩ : ∃ g4, w2.heap.size = g4 := ⟨_, rfl⟩
  have HB4 := Lib.hid (HB2.out.upd u4 id)
  have HBel4 := Lib.hid (HBel2.out.trans (u4.fresh.mono HBel2.out.size))
  have HBs4 := Lib.hid (HBs2.out.below (u4.fresh.mono (by omega)))
  rw [hbl] at hl4
  rw [hbl, hg4]
  rw [hg4] at o4 hl4 HB4 HBel4 HBs4
  have HL4 := Lib.hid hl4; have HO4 := Lib.hid o4
  have hs4 : bl < (w3.alloc (.cells #[.slice (some ⟨g4, 0, none⟩) 0 M] 63)).heap.size := by rw [World.size_alloc, hbl]; omega
  generalize w3.alloc (.cells #[.slice (some ⟨g4, 0, none⟩) 0 M] 63) = w4 at *
  have hblw : w.heap.size ≤ bl := by omega
  clear u3 u4 hl4 o4 hown3 hg3 HB2 HBel2 HBs2 hz0 hz1 hz2 hti d2 d3 hs2 hs1 hbl hg4 hs3
  go_wp2_with fail
  refine (chunk8_any w4 (some ad) T c R hR1).mono ?_
  rintro e w5 ⟨rfl, rfl⟩
  go_wp2_with fail
  obtain ⟨bc, hbc⟩ : ∃ bc, w4.heap.size = bc := ⟨_, rfl⟩
  have u5 := ((Upd.refl No w4).alloc (.cells #[.slice (some ad) T c] 22)).alloc (.cells #[.int .i64 (R : Nat)] 3)
  have hcb : Blk ((w4.alloc (.cells #[.slice (some ad) T c] 22)).alloc (.cells #[.int .i64 (R : Nat)] 3)) bc 22 #[.slice (some ad) T c] := by
    rw [← hbc]
    exact (Blk.new w4 _ _).alloc _
  have hci : Blk ((w4.alloc (.cells #[.slice (some ad) T c] 22)).alloc (.cells #[.int .i64 (R : Nat)] 3)) (bc + 1) 3 #[.int .i64 (R : Nat)] := by
    rw [← hbc, ← World.size_alloc w4 (.cells #[.slice (some ad) T c] 22)]
    exact Blk.new (w4.alloc (.cells #[.slice (some ad) T c] 22)) _ _
  have hst : RwS w (hdC s p (W : Nat) (H : Nat) dn (dep al : Nat) k0 n0) bl bc R (dep al) W T c ad B lb 0 ((w4.alloc (.cells #[.slice (some ad) T c] 22)).alloc (.cells #[.int .i64 (R : Nat)] 3)) :=
    ⟨HB4.out.upd u5 id, ⟨some ⟨g4, 0, none⟩, M, by rw [Nat.mul_zero]; exact HL4.out.upd u5 id, by rw [Nat.mul_zero]; exact own_upd HO4.out u5 (fun _ _ => id)⟩, hcb, hci, HBs4.out.below (u5.fresh.mono (Nat.le_trans hB HBel4.out.size)), hB, HBel4.out.trans (u5.fresh.mono HBel4.out.size), hblw⟩
  have HST := Lib.hid hst
  clear hst u5 hcb hci HL4 HO4 HB4 HBel4 HBs4
  rw [hbc]
  generalize (w4.alloc (.cells #[.slice (some ad) T c] 22)).alloc (.cells #[.int .i64 (R : Nat)] 3) = w5 at *
  refine wpIn_wide.1 (wpIn_range_stop (α := Nat) (F := Fence.wide) (n := 3) rfl (by omega) (gf := 120) (lb := #[.pointer (some ⟨bc, 0, none⟩), .pointer (some ⟨bc + 1, 0, none⟩)]) rfl trivial (enters_of Tryz.func120 (by kernel_rfl) rfl) (fun j => pieceC ad R j) H
    (fun k V => RwS w (hdC s p (W : Nat) (H : Nat) dn (dep al : Nat) k0 n0) bl bc R (dep al) W T c ad B lb k V)
    (fun k x _ => x = k) (fun _ _ => False)
    ?seq (fun _ => rfl) ?ia ?ip ?ep ?xp ?start ?a1 ?assign ?body ?done ?stop)
  case seq =>
    intro ll Rr Jx V hRb hY h0 hR
    exact chunk8_in (3 - 1) (by omega) ll bc R H T c ad hR1 HT.out (by omega) (by omega) _ Rr Jx (fun k V h => ⟨h.cb.cell 0, h.ci.cell 0⟩) (fun k V h => h.keep (Upd.refl No V).drew) (fun V h => hRb V V.drew h (Below.refl _ V).drew) (fun k V hk h1 h2 => hY k k V hk h1 h2 rfl) V h0 hR
  case ia => rintro k V o h; exact h.keep ((Upd.refl No V).alloc o)
  case ip =>
    rintro k V ll o o' hll ho hoc h
    exact h.put (Nat.le_trans HST.out.bel.size hll) ho hoc o'
  case ep => rintro k x V ll o o' hll ho hoc h; exact h
  case xp => rintro j V ll o o' _ _ _ h; exact h
  case start => exact HST.out
  case assign =>
    intro ll x V K hK
    dsimp only [pieceC]
    have HK := Lib.hid hK
    clear hK
    gi_wp2
    exact HK.out
  case body =>
    rintro ll k x V hk hI hx
    have hx' : k = x := hx.symm
    subst hx'
    clear hx
    obtain ⟨Ar, cr, h1, h2⟩ := hI.rows
    have hw0 := HST.out.bel.size
    have hkT : R * k ≤ lb.length := by
      rw [HLB.out]
      have e1 := Nat.mul_le_mul_left R (show k ≤ H by omega)
      have e2 := HT.out
      omega
    have hpl : ((lb.drop (R * k)).take R).length = R := by
      have e1 := Nat.mul_le_mul_left R (show k + 1 ≤ H by omega)
      rw [Nat.mul_succ, HT.out] at e1
      rw [List.length_take, List.length_drop, HLB.out]
      omega
    have hWk : W * k + W ≤ 65536 := by
      have e1 := Nat.mul_le_mul_left W (show k + 1 ≤ H by omega)
      have e2 := HMf.out
      rw [Nat.mul_succ] at e1
      omega
    have hS0 : Blk V.drew bl 63 #[.slice Ar (W * k) cr] ∧ Blk V.drew w.heap.size 55 (hdC s p (W : Nat) (H : Nat) dn (dep al : Nat) k0 n0) := ⟨h1, hI.hb⟩
    have HFi := Lib.hid (first_any al s p (W : Nat) (H : Nat) k0 n0 dn W R R (some (ad.add (R * k))) ((lb.drop (R * k)).take R) hpl HFIT.out hW hRb B V.drew (bs_piece hI.bs (R * k) R hkT) (Nat.le_trans hI.hB hI.bel.size))
    have HSt : Hid (∀ (A1 : Option Addr) (c1 : Nat) (V1 : World), Below V.drew.heap.size V.drew V1 → V1.ownsRow V.drew.heap.size 45 1 (.slice A1 W c1) W (nV (numsL ((lb.drop (R * k)).take R) (dep al) W)) →
        ∃ A9 c9 w9, (Builtin.append_ #[63, 63] 63 #[.slice Ar (W * k) cr, .slice A1 W c1]).run Tryz.prog V1 = .ok (.slice A9 (W * k + W) c9) w9 ∧
        (Blk V1 bl 63 #[.slice Ar (W * k) cr] ∧ Blk V1 w.heap.size 55 (hdC s p (W : Nat) (H : Nat) dn (dep al : Nat) k0 n0)) ∧
        (Blk w9 bl 63 #[.slice Ar (W * k) cr] ∧ Blk w9 w.heap.size 55 (hdC s p (W : Nat) (H : Nat) dn (dep al : Nat) k0 n0)) ∧
        KeepsOthers V (w9.setCell ⟨bl, 0, none⟩ (.slice A9 (W * k + W) c9)) ∧ RwS w (hdC s p (W : Nat) (H : Nat) dn (dep al : Nat) k0 n0) bl bc R (dep al) W T c ad B lb (k + 1) (w9.setCell ⟨bl, 0, none⟩ (.slice A9 (W * k + W) c9))) := Lib.hid (by
      intro A1 c1 V1 hb1 o1
      have hb1' : Below V.heap.size V V1 := of_drew hb1
      have u1 := Upd.of_fresh hb1'
      obtain ⟨A9, c9, w9, hrun, o9, hg9⟩ := append32 w.heap.size V1 _ _ _ (own_upd h2 u1 (fun _ _ => id)) (Nat.le_trans hI.bel.size hb1'.size) V1.heap.size A1 W c1 _ (numsL_length _ _ _) (Vs.of_own o1) (by omega) 63
      obtain ⟨e1, e2, e3⟩ := hI.step h1 h2 hb1' o9 hg9
      exact ⟨A9, c9, w9, hrun, ⟨h1.upd u1 id, hI.hb.upd u1 id⟩, e3, e1, e2⟩)
    have HS0 := Lib.hid hS0
    clear hS0 h1 h2 hI hpl hkT
    try dsimp only [pieceC]
    generalize W * k = Z at *
    generalize R * k = F at *
    gi_wp2_with fail
    refine wpRound_region_T (fun W' => Blk W' bl 63 #[.slice Ar Z cr] ∧ Blk W' w.heap.size 55 (hdC s p (W : Nat) (H : Nat) dn (dep al : Nat) k0 n0)) 7 hmix (by kernel_rfl) (by rintro ⟨_, _, h⟩; exact h) 8 rfl ?_
    refine wpAnyT_take (i := 0) (v := .slice Ar Z cr) rfl (by kernel_rfl) (by kernel_rfl) (by kernel_rfl) (by kernel_rfl) (fun _ _ _ h => h) (Or.inl ⟨by rfl, ?_⟩) HS0.out ?_
    · rintro wz ⟨z1, _⟩
      have y0 : wz.cell? ⟨bl, 0, none⟩ = some (.slice Ar Z cr) := z1.cell 0
      go_simp
    simp only [Act.put, List.getElem_toArray, List.getElem_cons_zero, List.setIfInBounds_toArray, List.set_cons_zero, List.set_cons_succ]
    refine wpAnyT_take (i := 1) (v := hdV s p (W : Nat) (H : Nat) dn (dep al : Nat) k0 n0) rfl (by kernel_rfl) (by kernel_rfl) (by kernel_rfl) (by kernel_rfl) (fun _ _ _ h => h) (Or.inl ⟨by rfl, ?_⟩) HS0.out ?_
    · rintro wz ⟨_, z1⟩
      have y0 : wz.cell? ⟨w.heap.size, 0, none⟩ = some (.int .i64 s) := z1.cell 0
      have y1 : wz.cell? ⟨w.heap.size, 1, none⟩ = some (.int .i64 p) := z1.cell 1
      have y2 : wz.cell? ⟨w.heap.size, 2, none⟩ = some (.int .i64 (W : Nat)) := z1.cell 2
      have y3 : wz.cell? ⟨w.heap.size, 3, none⟩ = some (.int .i64 (H : Nat)) := z1.cell 3
      have y4 : wz.cell? ⟨w.heap.size, 4, none⟩ = some (.bool dn) := z1.cell 4
      have y5 : wz.cell? ⟨w.heap.size, 5, none⟩ = some (.int .i64 (dep al : Nat)) := z1.cell 5
      have y6 : wz.cell? ⟨w.heap.size, 6, none⟩ = some (.int .i64 k0) := z1.cell 6
      have y7 : wz.cell? ⟨w.heap.size, 7, none⟩ = some (.int .i64 n0) := z1.cell 7
      go_simp
    simp only [Act.put, List.getElem_toArray, List.getElem_cons_succ, List.getElem_cons_zero, List.setIfInBounds_toArray, List.set_cons_zero, List.set_cons_succ]
    refine wpAnyT_take (i := 2) (v := .pointer (some ⟨w.heap.size, 2, none⟩)) rfl (by kernel_rfl) (by kernel_rfl) (by kernel_rfl) (by kernel_rfl) (fun _ _ _ h => h) (Or.inl ⟨by rfl, ?_⟩) HS0.out ?_
    · rintro wz _
      go_simp
    simp only [Act.put, List.getElem_toArray, List.getElem_cons_succ, List.getElem_cons_zero, List.setIfInBounds_toArray, List.set_cons_zero, List.set_cons_succ]
    refine wpAnyT_take (i := 3) (v := .int .i64 (W : Nat)) rfl (by kernel_rfl) (by kernel_rfl) (by kernel_rfl) (by kernel_rfl) (fun _ _ _ h => h) (Or.inl ⟨by rfl, ?_⟩) HS0.out ?_
    · rintro wz ⟨_, z1⟩
      have y2 : wz.cell? ⟨w.heap.size, 2, none⟩ = some (.int .i64 (W : Nat)) := z1.cell 2
      go_simp
    simp only [Act.put, List.getElem_toArray, List.getElem_cons_succ, List.getElem_cons_zero, List.setIfInBounds_toArray, List.set_cons_zero, List.set_cons_succ]
    refine wpAnyT_take (i := 4) (v := .slice (some (ad.add F)) R R) rfl (by kernel_rfl) (by kernel_rfl) (by kernel_rfl) (by kernel_rfl) (fun _ _ _ h => h) (Or.inl ⟨by rfl, ?_⟩) HS0.out ?_
    · rintro wz _
      go_simp
    simp only [Act.put, List.getElem_toArray, List.getElem_cons_succ, List.getElem_cons_zero, List.setIfInBounds_toArray, List.set_cons_zero, List.set_cons_succ]
    refine wpAnyT_one (i := 5) rfl (by kernel_rfl) (by rfl) ?_
    go_simp
    refine HFi.out.mono ?_
    rintro e V1 ⟨A1, c1, rfl, o1, hb1⟩
    obtain ⟨A9, c9, w12, hrun, hS1, hS9, hK9, hI9⟩ := HSt.out A1 c1 V1 hb1 o1
    have HRN := Lib.hid hrun; have HS1 := Lib.hid hS1; have HS9 := Lib.hid hS9; have HK9 := Lib.hid hK9; have HI9 := Lib.hid hI9
    clear o1 hb1 hrun hS1 hS9 hK9 hI9 HFi HSt
    refine ⟨HS1.out, ?_⟩
    try simp only [Act.put, List.getElem_toArray, List.getElem_cons_succ, List.getElem_cons_zero, List.setIfInBounds_toArray, List.set_cons_zero, List.set_cons_succ]
    refine wpAnyT_one (i := 6) rfl (by kernel_rfl) (by rfl) ?_
    refine wp_append_run (.tmp 32) (.tmp 37) _ rfl rfl rfl HRN.out ⟨fun _ => HS9.out, ?_⟩
    try simp only [Act.put, List.getElem_toArray, List.getElem_cons_succ, List.getElem_cons_zero, List.setIfInBounds_toArray, List.set_cons_zero, List.set_cons_succ]
    refine wpAnyT_one (i := 7) rfl (by kernel_rfl) (by rfl) ?_
    have kf := HS9.out.1.frozen 0
    have k9 : w12.cell? ⟨bl, 0, none⟩ = some (.slice Ar Z cr) := HS9.out.1.cell 0
    go_simp
    refine wpAnyT_done (by kernel_rfl) ?_
    gi_wp2_with fail
    exact ⟨HK9.out, HI9.out⟩
  case done =>
    rintro D V hD hI hK
    obtain ⟨Ar, cr, h1, h2⟩ := hI.rows
    rw [HM.out] at h1 h2
    have kbr : V.cell? ⟨bl, 0, none⟩ = some (.slice Ar M cr) := h1.cell 0
    have H2 := Lib.hid h2; have HBel9 := Lib.hid hI.bel; have HK := Lib.hid hK
    have hw0 := HST.out.bel.size
    clear hI h1 h2 hK HM
    go_wp2_with fail
    refine ⟨by simp, .inl ⟨_, _, rfl, run_takeDeferred HK.out, ?_⟩⟩
    have u := upd_putObj (S := (· = D)) V D (.deferred none) rfl
    refine ⟨.tuple #[.slice Ar M cr, .bool true], by simp [results, Tryz.results63, go_sem], Ar, cr, rfl, own_put H2.out HK.out rfl _, HBel9.out.trans (u.below HBel9.out.size (fun j hj e => by omega))⟩
  case stop => rintro D j V hD h; exact h.elim
end Go.Proofs.YtnfjeeflcfmpbaaGreatDoor
