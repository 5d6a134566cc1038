/- Joined texts (a claim has at most 60 files): Yi Yu. -/
import Derived.Test.YtnfjeeflcfmpbaaGreatDoorYe
import Derived.Test.YtnfjeeflcfmpbaaGreatDoorYg
import Derived.Test.YtnfjeeflcfmpbaaGreatDoorYh
import Derived.Test.YtnfjeeflcfmpbaaGreatDoorQgd
import Derived.Test.YtnfjeeflcfmpbaaGreatDoorYn
import Derived.Test.YtnfjeeflcfmpbaaGreatDoorQg
import Derived.Test.YtnfjeeflcfmpbaaGreatDoorT
/- The world while the rows of a file are made. -/
set_option linter.unusedVariables false
set_option linter.unusedSimpArgs false
namespace Go.Proofs.YtnfjeeflcfmpbaaGreatDoor
open Go.ChangeShapes Go.WideShapes Go.ChangeAt Go.RowKit

theorem own_rows_ne {w : World} {b b' s s' n n' : Nat} {e e' : TypeId} {v v' : Value} {xs xs' : List Value} (h : w.ownsRow b e s v n xs) (h' : w.ownsRow b' e' s' v' n' xs') (hne : e ≠ e') (k : Nat) (hk : v.ownBlock = some k) : v'.ownBlock ≠ some k := by
  rcases h.2 with ⟨rfl, _⟩ | ⟨g, c, u, rfl, _, a, _⟩
  · cases hk
  · have e1 : g = k := by simpa [Value.ownBlock] using hk
    subst e1
    exact own_blk_ne h' (show Blk w g e u from a) (Ne.symm hne)
/-- The rows of an image, from the first on. -/
def encR (al : Bool) (W : Nat) (L : List Col) (k : Nat) : List (List UInt8) := (List.range k).map fun j => rowB al W (rowL W L j)
theorem encR_succ (al : Bool) (W : Nat) (L : List Col) (k : Nat) : encR al W L (k + 1) = encR al W L k ++ [rowB al W (rowL W L k)] := by
  unfold encR
  rw [List.range_succ, List.map_append]
  rfl
structure EncI (w : World) (bh bm br bi g r c W H : Nat) (hd : Array Value) (al : Bool) (L : List Col) (k : Nat) (V : World) : Prop where
  hb : Blk V bh 55 hd
  mb : Blk V bm 80 (mkC 16711680 65280 255 (mask3 al : Nat))
  ib : Blk V bi 77 #[.pointer (some ⟨g, 0, none⟩)]
  cg : CG V w.heap.size g r c W H L
  rows : ∃ A cr vs, Blk V br 83 #[.slice A k cr] ∧ V.ownsRow w.heap.size 22 1 (.slice A k cr) k vs ∧ RwO V w.heap.size vs (encR al W L k)
  bel : Below w.heap.size w V
  brf : w.heap.size ≤ br
theorem EncI.keep {w : World} {bh bm br bi g r c W H : Nat} {hd : Array Value} {al : Bool} {L : List Col} {k : Nat} {V V' : World} (h : EncI w bh bm br bi g r c W H hd al L k V) (u : Upd No V V') : EncI w bh bm br bi g r c W H hd al L k V' := by
  obtain ⟨A, cr, vs, h1, h2, h3⟩ := h.rows
  exact ⟨h.hb.upd u id, h.mb.upd u id, h.ib.upd u id, h.cg.upd u id id, ⟨A, cr, vs, h1.upd u id, own_upd h2 u (fun _ _ => id), h3.upd u (fun _ _ _ _ _ _ => id)⟩, h.bel.trans (u.fresh.mono h.bel.size), h.brf⟩
theorem EncI.put {w : World} {bh bm br bi g r c W H : Nat} {hd : Array Value} {al : Bool} {L : List Col} {k : Nat} {V : World} (h : EncI w bh bm br bi g r c W H hd al L k V) {ll : Nat} {o : Obj} (hll : w.heap.size ≤ ll) (ho : V.heap[ll]? = some o) (hoc : o.isCells = false) (o' : Obj) : EncI w bh bm br bi g r c W H hd al L k (V.putObj ll o') := by
  have u := upd_putObj (S := (· = ll)) V ll o' rfl
  obtain ⟨A, cr, vs, h1, h2, h3⟩ := h.rows
  have hrow := own_put h.cg.row ho hoc o'
  refine ⟨h.hb.upd u (blk_ne_obj h.hb ho hoc), h.mb.upd u (blk_ne_obj h.mb ho hoc), h.ib.upd u (blk_ne_obj h.ib ho hoc), ⟨h.cg.blk.upd u (blk_ne_obj h.cg.blk ho hoc), hrow, h.cg.fresh, h.cg.w1, h.cg.w2, h.cg.h1, h.cg.h2, h.cg.few⟩, ⟨A, cr, vs, h1.upd u (blk_ne_obj h1 ho hoc), own_put h2 ho hoc o', ⟨h3.1, fun i q1 q2 => ?_⟩⟩, h.bel.trans (u.below h.bel.size (fun i hi e => by omega)), h.brf⟩
  obtain ⟨A', c', e, oo⟩ := h3.2 i q1 q2
  exact ⟨A', c', e, own_put oo ho hoc o'⟩
theorem EncI.step {w : World} {bh bm br bi g r c W H : Nat} {hd : Array Value} {al : Bool} {L : List Col} {k : Nat} {V V1 w9 : World} (h : EncI w bh bm br bi g r c W H hd al L k V) {A A1 A9 : Option Addr} {cr c1 c9 n : Nat} {vs : List Value}
    (h1 : Blk V br 83 #[.slice A k cr]) (h2 : V.ownsRow w.heap.size 22 1 (.slice A k cr) k vs) (h3 : RwO V w.heap.size vs (encR al W L k)) (hb1 : Below V.heap.size V V1)
    (hn : (rowB al W (rowL W L k)).length = n) (o1 : V1.ownsRow V.heap.size 5 1 (.slice A1 n c1) n (bytesV (rowB al W (rowL W L k))))
    (o9 : w9.ownsRow w.heap.size 22 1 (.slice A9 (k + 1) c9) (k + 1) (vs ++ [.slice A1 n c1])) (hg9 : (V1.alloc (.cells #[.slice A1 n c1] 22)).grownBy w9 (Value.slice A k cr).ownBlock) :
    KeepsOthers V (w9.setCell ⟨br, 0, none⟩ (.slice A9 (k + 1) c9)) ∧ EncI w bh bm br bi g r c W H hd al L (k + 1) (w9.setCell ⟨br, 0, none⟩ (.slice A9 (k + 1) c9)) ∧ (Blk w9 br 83 #[.slice A k cr] ∧ Blk w9 bh 55 hd ∧ Blk w9 bm 80 (mkC 16711680 65280 255 (mask3 al : Nat))) := by
  have hV := h.bel.size
  have u1 : Upd No V (V1.alloc (.cells #[.slice A1 n c1] 22)) := (Upd.of_fresh hb1).alloc _
  have hk2 := h.keep u1
  have o2 := own_upd h2 u1 (fun _ _ => id)
  have b2 := h1.upd u1 id
  have r2 := (h3.upd u1 (fun _ _ _ _ _ _ => id)).snoc hn (own_low (own_upd o1 ((Upd.refl No V1).alloc (.cells #[.slice A1 n c1] 22)) (fun _ _ => id)) hV)
  have u9 : Upd (fun j => some j = (Value.slice A k cr).ownBlock) (V1.alloc (.cells #[.slice A1 n c1] 22)) w9 := (Upd.of_grown hg9).mono (fun j _ e => e)
  have us := (Upd.refl (· = br) w9).setCell (p := ⟨br, 0, none⟩) (fun _ => rfl) (.slice A9 (k + 1) c9)
  have b9 := b2.upd u9 (fun e => own_blk_ne o2 b2 (by decide) e.symm)
  have hb9 := hk2.hb.upd u9 (fun e => own_blk_ne o2 hk2.hb (by decide) e.symm)
  have mb9 := hk2.mb.upd u9 (fun e => own_blk_ne o2 hk2.mb (by decide) e.symm)
  have ib9 := hk2.ib.upd u9 (fun e => own_blk_ne o2 hk2.ib (by decide) e.symm)
  have cg9 : CG w9 w.heap.size g r c W H L := hk2.cg.upd u9 (fun e => own_blk_ne o2 hk2.cg.blk (by decide) e.symm) (fun e => own_rows_ne hk2.cg.row o2 (by decide) r rfl e.symm)
  have r9 := r2.upd u9 (fun v m xs hv j hj e => own_rows_ne hv o2 (by decide) j hj e.symm)
  have hub : Below w.heap.size w w9 := hk2.bel.trans (u9.below hk2.bel.size (fun j hj e => by have := (o2.lt j e.symm).1; omega))
  refine ⟨((keeps_of_fresh hb1).trans (KeepsOthers.alloc V1 _)).trans ((keeps_row o2 hg9).trans (KeepsOthers.setCell w9 ⟨br, 0, none⟩ _)), ⟨hb9.upd us (hb9.ne_ b9 (by decide)), mb9.upd us (mb9.ne_ b9 (by decide)), ib9.upd us (ib9.ne_ b9 (by decide)), cg9.upd us (cg9.blk.ne_ b9 (by decide)) (fun e => own_blk_ne cg9.row b9 (by decide) (by rw [← e]; rfl)), ⟨A9, c9, _, by simpa using b9.set_ 0 (.slice A9 (k + 1) c9), own_upd o9 us (fun j hj e => own_blk_ne o9 b9 (by decide) (by rw [hj, e])), ?_⟩, hub.trans (us.below hub.size (fun j hj e => by have := h.brf; omega)), h.brf⟩, b9, hb9, mb9⟩
  rw [encR_succ]
  exact r9.upd us (fun v m xs hv j hj e => own_blk_ne hv b9 (by decide) (by rw [hj, e]))
end Go.Proofs.YtnfjeeflcfmpbaaGreatDoor

/- The numbers of the pixels that bytes begin with. -/
set_option linter.unusedVariables false
set_option linter.unusedSimpArgs false
namespace Go.Proofs.YtnfjeeflcfmpbaaGreatDoor
open Go.ChangeShapes Go.WideShapes Go.ChangeAt Go.RowKit

theorem make_n32 (n : Nat) : (madeCells (Value.int .u32 0).cells (n * 1)).toList = nV (List.replicate n 0) := by
  rw [show (Value.int .u32 0).cells = #[.int .u32 0] from rfl, Nat.mul_one, toList_madeCells_one]
  simp [nV]
/-- The numbers of n pixels of d bits each. -/
def numsL (l : List UInt8) (d n : Nat) : List Nat := (List.range n).map fun i => num false (fun q => bitAt l false (d * i + q)) d
/-- The first k of them, and noughts. -/
def numsK (l : List UInt8) (d n k : Nat) : List Nat := numsL l d k ++ List.replicate (n - k) 0
theorem numsK_zero (l : List UInt8) (d n : Nat) : numsK l d n 0 = List.replicate n 0 := by simp [numsK, numsL]
theorem numsK_all (l : List UInt8) (d n : Nat) : numsK l d n n = numsL l d n := by simp [numsK]
theorem numsK_step (l : List UInt8) (d n k : Nat) (hk : k < n) : (numsK l d n k).set k (num false (fun q => bitAt l false (d * k + q)) d) = numsK l d n (k + 1) := by
  have hl : (numsL l d k).length = k := by simp [numsL]
  have e : numsL l d (k + 1) = numsL l d k ++ [num false (fun q => bitAt l false (d * k + q)) d] := by
    unfold numsL
    rw [List.range_succ, List.map_append]
    rfl
  unfold numsK
  obtain ⟨m, hm⟩ : ∃ m, n - k = m + 1 := ⟨n - k - 1, by omega⟩
  rw [hm, List.replicate_succ, List.set_append_right _ _ (by omega), hl, Nat.sub_self, List.set_cons_zero, e, List.append_assoc, show n - (k + 1) = m from by omega]
  rfl
/-- The head's box, the reader, the list. -/
structure FiS (w : World) (hd : Array Value) (g gl n d : Nat) (A1 : Option Addr) (c1 : Nat) (l : List UInt8) (k : Nat) (wr : World) : Prop where
  hb : Blk wr w.heap.size 55 hd
  rd : Rdr wr (w.heap.size + 1) g A1 c1 l false (d * k)
  row : wr.ownsRow (w.heap.size + 1) 45 1 (.slice (some ⟨gl, 0, none⟩) n n) n (nV (numsK l d n k))
  bel : Below w.heap.size w wr
set_option maxRecDepth 100000 in
set_option maxHeartbeats 4000000 in
theorem first_any (al : Bool) (s p W H k0 n0 : Int) (dn : Bool) (n R c : Nat) (A : Option Addr) (l : List UInt8) (hl : l.length = R) (hfit : dep al * n ≤ 8 * R) (hn : n ≤ 4096) (hR : R ≤ 65536) (B : Nat) (w : World) (hbs : Bs w B A l) (hB : B ≤ w.heap.size) :
    Calls Tryz.prog 102 #[hdV s p W H dn (dep al : Nat) k0 n0, .int .i64 (n : Nat), .slice A R c] w fun e w' => ∃ A' c', e = .returned (.slice A' n c') ∧ w'.ownsRow w.heap.size 45 1 (.slice A' n c') n (nV (numsL l (dep al) n)) ∧ Below w.heap.size w w' := by
  have hd8 : 8 < dep al ∧ dep al ≤ 32 := by cases al <;> simp [dep]
  have HDF : Hid (∀ k, k < n → dep al * k + dep al ≤ 8 * l.length) := Lib.hid (fun k hk => by
    have := Nat.mul_le_mul_left (dep al) (show k + 1 ≤ n by omega)
    rw [Nat.mul_succ] at this
    rw [hl]
    omega)
  generalize dep al = d at *
  have bel := (Below.refl w.heap.size w).alloc (Nat.le_refl _) (.cells (hdC s p W H dn (d : Nat) k0 n0) 55)
  have hb := Blk.new w 55 (hdC s p W H dn (d : Nat) k0 n0)
  have hsz : (w.alloc (.cells (hdC s p W H dn (d : Nat) k0 n0) 55)).heap.size = w.heap.size + 1 := World.size_alloc _ _
  have hbs1 := hbs.below (bel.mono hB)
  obtain ⟨i0, hti, hz0, hz1, hz2⟩ := info_parts info_u32
  go_enter Tryz.func102, Tryz.ntmps102
  go_upto_region 1 with (fail)
  generalize w.alloc (.cells (hdC s p W H dn (d : Nat) k0 n0) 55) = w1 at *
  have HN := Lib.hid (newReader_any A c l false B w1 hbs1 (by omega) (by omega))
  rw [hl] at HN
  have c5 : w1.cell? ⟨w.heap.size, 5, none⟩ = some (.int .i64 (d : Nat)) := hb.cell 5
  have i8 : ¬ ((d : Int) ≤ 8) := by omega
  have HB := Lib.hid hb; have HBel := Lib.hid bel; have HL := Lib.hid hl
  clear hb bel hbs hbs1 hl hfit
  go_wp2_with fail
  refine HN.out.mono ?_
  rintro e w2 ⟨g, A1, c1, rfl, hrd, hb2⟩
  have hs2 := hb2.size
  have HRd := Lib.hid hrd
  have HB2 := Lib.hid (HB.out.upd (Upd.of_fresh hb2) id)
  have HBel2 := Lib.hid (HBel.out.trans (hb2.mono (by omega)))
  clear hrd hb2 c5 i8 HN HB HBel
  go_wp2_with (at_make; refine wpList_make_full _ rfl (.tmp 15) (.tmp 15) 63 rfl w2.heap.size 45 i0 (.int .u32 0) 1 Tryz.underlying63 hti hz0 hz1 .i64 .i64 n n n rfl rfl rfl rfl (by rw [hz2]; omega) (by unfold maxLen; omega) (Nat.le_refl _) ?_; intro w3 hown3 hg3)
  rw [make_n32, ← numsK_zero l d n] at hown3
  have hu3 : Upd No w2 w3 := (Upd.of_grown hg3).mono (fun k _ h => by simp at h)
  obtain ⟨gl, hgl⟩ : ∃ gl, w2.heap.size = gl := ⟨_, rfl⟩
  have HS : Hid (FiS w (hdC s p W H dn (d : Nat) k0 n0) g gl n d A1 c1 l 0 w3) := Lib.hid (by
    have hrd := HRd.out
    rw [hsz] at hrd
    refine ⟨HB2.out.upd hu3 id, by rw [Nat.mul_zero]; exact hrd.upd hu3 id (fun _ _ => id), own_low (by rw [hgl] at hown3; exact hown3) (by omega), HBel2.out.trans (hu3.fresh.mono HBel2.out.size)⟩)
  rw [hgl]
  clear hown3 hg3 hu3 HRd HB2 HBel2 hti hz0 hz1 hz2
  go_wp2_with fail
  go_loopw [19] (fun i wr => ∃ k : Nat, k ≤ n ∧ i = .int .i64 (k : Int) ∧ Hid (FiS w (hdC s p W H dn (d : Nat) k0 n0) g gl n d A1 c1 l k wr)) (fun i _ => n - (intOf i).toNat)
  case atStart => exact ⟨0, Nat.zero_le _, rfl, HS⟩
  case round =>
    clear HS
    obtain ⟨k, hk, rfl, HX⟩ := hrel
    by_cases hlt : k < n
    · have HT := Lib.hid (take_any wr (w.heap.size + 1) g A1 c1 l false (d * k) d HX.out.rd (by omega) (HDF.out k hlt))
      have HST := Lib.hid (numsK_step l d n k hlt)
      have HDK : Hid (d * (k + 1) = d * k + d) := Lib.hid (Nat.mul_succ d k)
      generalize num false (fun q => bitAt l false (d * k + q)) d = v at *
      have c5 : wr.cell? ⟨w.heap.size, 5, none⟩ = some (.int .i64 (d : Nat)) := HX.out.hb.cell 5
      have i1 : (k : Int) < (n : Int) := by omega
      go_wp2_with fail
      refine HT.out.mono ?_
      rintro e w4 ⟨rfl, hrd, hu⟩
      have hrow := own_upd HX.out.row hu (fun j hj e => own_blk_ne HX.out.row HX.out.rd.1 (by decide) (by rw [hj, e]))
      have kf := hrow.frozenAt k
      have kc := hrow.cellAt k (by omega)
      have hlen := own_len hrow
      rw [List.getElem?_eq_getElem (by omega)] at kc
      have kc2 : ∃ x, w4.cell? ⟨gl, k, none⟩ = some (.int .u32 x) := by
        have hk2 : k < (numsK l d n k).length := by rw [nV_length] at hlen; omega
        refine ⟨(((numsK l d n k)[k]'hk2 : Nat) : Int), ?_⟩
        rw [kc]
        simp [nV]
      obtain ⟨x, kc3⟩ := kc2
      have us : Upd (· = gl) w4 (w4.setCell ⟨gl, k, none⟩ (.int .u32 (v : Nat))) := (Upd.refl (· = gl) w4).setCell (fun _ => rfl) _
      have hgn : g ≠ gl := fun e => own_blk_ne hrow hrd.1 (by decide) (by rw [e]; rfl)
      have hgb := HX.out.rd.2.2.1
      have hbl := HX.out.bel
      have hb4 := HX.out.hb.upd hu (by omega)
      have HX9 : Hid (FiS w (hdC s p W H dn (d : Nat) k0 n0) g gl n d A1 c1 l (k + 1) (w4.setCell ⟨gl, k, none⟩ (.int .u32 (v : Nat)))) := Lib.hid (by
        have hglb := (HX.out.row.lt gl rfl).1
        refine ⟨hb4.upd us (by omega), ?_, ?_, (hbl.trans (hu.below hbl.size (fun j hj e => by omega))).trans (us.below (Nat.le_trans hbl.size hu.size) (fun j hj e => by omega))⟩
        · rw [HDK.out]
          exact hrd.upd us hgn (fun j hj e => own_rows_ne hrd.2.1 hrow (by decide) j hj (by rw [e]; rfl))
        · rw [← HST.out]
          have h9 := (hrow.stored k (.int .u32 (v : Nat))).1
          have e : (nV (numsK l d n k)).set k (.int .u32 (v : Nat)) = nV ((numsK l d n k).set k v) := by simp [nV, List.map_set]
          rw [← e]
          exact h9)
      clear HX hrd hu hrow kc us hb4 hlen hbl HT c5
      go_wp2_with fail
      go_roundw
      case rel => exact ⟨k + 1, by omega, by go_num, HX9⟩
      case measure => simp [intOf]; omega
    · obtain rfl : n = k := by omega
      have hrow := HX.out.row
      rw [numsK_all] at hrow
      have HF := Lib.hid (And.intro (own_low hrow (show w.heap.size ≤ w.heap.size + 1 by omega)) HX.out.bel)
      clear hrow HX
      go_wp2_with fail
      go_ret
      exact ⟨_, _, rfl, HF.out⟩
end Go.Proofs.YtnfjeeflcfmpbaaGreatDoor
