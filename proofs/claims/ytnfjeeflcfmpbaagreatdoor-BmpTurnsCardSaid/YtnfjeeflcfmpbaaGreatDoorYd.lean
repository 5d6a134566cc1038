/- A row of pixels as it is written: the program's row. -/
import Derived.Test.YtnfjeeflcfmpbaaGreatDoorYc
import Derived.Test.YtnfjeeflcfmpbaaGreatDoorRo
import Derived.Test.YtnfjeeflcfmpbaaGreatDoorQp
import Derived.Test.YtnfjeeflcfmpbaaGreatDoorP
import Derived.Test.YtnfjeeflcfmpbaaGreatDoorCt
set_option linter.unusedVariables false
set_option linter.unusedSimpArgs false
namespace Go.Proofs.YtnfjeeflcfmpbaaGreatDoor
open Go.ChangeShapes Go.WideShapes Go.ChangeAt Go.RowKit

theorem make_u8 (n : Nat) : (madeCells (Value.int .u8 0).cells (n * 1)).toList = bytesV (List.replicate n 0) := by
  rw [show (Value.int .u8 0).cells = #[.int .u8 0] from rfl, Nat.mul_one, toList_madeCells_one]
  simp [bytesV, bv]
/-- Colours within their kind. -/
def ColOk (c : Col) : Prop := (0 ≤ c.r ∧ c.r ≤ 65535) ∧ (0 ≤ c.g ∧ c.g ≤ 65535) ∧ (0 ≤ c.b ∧ c.b ≤ 65535) ∧ (0 ≤ c.a ∧ c.a ≤ 65535)
def pxsB (al : Bool) (l : List Col) : List UInt8 := l.flatMap fun c => pxB al c.r c.g c.b c.a
theorem pxsB_length (al : Bool) : ∀ l, (pxsB al l).length = pxN al * l.length
  | [] => by simp [pxsB]
  | c :: l => by
    have := pxsB_length al l
    unfold pxsB at this ⊢
    rw [List.flatMap_cons, List.length_append, pxB_length, this, List.length_cons, Nat.mul_succ, Nat.add_comm]
theorem pxsB_step (al : Bool) (l : List Col) (k : Nat) (hk : k < l.length) : pxsB al (l.take (k + 1)) = pxsB al (l.take k) ++ pxB al l[k].r l[k].g l[k].b l[k].a := by
  unfold pxsB
  rw [List.take_succ_eq_append_getElem hk, List.flatMap_append]
  simp only [List.flatMap_cons, List.flatMap_nil, List.append_nil]
/-- A row as it stands in a file. -/
def rowB (al : Bool) (W : Nat) (l : List Col) : List UInt8 := pxsB al l ++ List.replicate (rowN al W - (pxsB al l).length) 0
theorem row_fits (al : Bool) (W : Nat) : pxN al * W ≤ rowN al W ∧ rowN al W ≤ 4 * W + 4 := by
  unfold rowN dep pxN
  cases al <;> simp <;> omega
theorem rowB_length (al : Bool) (W : Nat) (l : List Col) (h : l.length = W) : (rowB al W l).length = rowN al W := by
  have := row_fits al W
  rw [rowB, List.length_append, List.length_replicate, pxsB_length, h]
  omega
theorem own_full {w : World} {base g : Nat} {L : List UInt8} {n : Nat} (h : w.heap[g]? = some (.cells (bytesV L).toArray 5 (0, 0))) (hn : L.length = n) (hb : base ≤ g) (hm : n ≤ maxLen) :
    w.ownsRow base 5 1 (.slice (some ⟨g, 0, none⟩) n n) n (bytesV L) := by
  subst hn
  refine own_of_splice (cur := bytesV L) ?_ (bytesV_length L) hb hm
  rw [h]
  unfold splice
  rw [List.take_zero, List.nil_append, Nat.zero_add, List.drop_length, List.append_nil]

theorem own_heap {w : World} {base : Nat} {e : TypeId} {g n : Nat} {xs : List Value} (h : w.ownsRow base e 1 (.slice (some ⟨g, 0, none⟩) n n) n xs) : w.heap[g]? = some (.cells xs.toArray e (0, 0)) ∧ xs.length = n ∧ base ≤ g := by
  obtain ⟨h0, ⟨h', _⟩ | ⟨g', cap', cur, h', hb, hg, _, _, hs, ht⟩⟩ := h
  · simp at h'
  · injection h' with h1 h2 h3
    subst h3
    injection h1 with h1
    injection h1 with h1 _ _
    subst h1
    rw [List.take_of_length_le (by simp [hs])] at ht
    subst ht
    exact ⟨by simpa using hg, by simpa using hs, hb⟩
/-- The world behind k pixels: the head's box, the masks' box, the writer. -/
structure RowS (w : World) (hd : Array Value) (m3 : Int) (g : Nat) (bs : List Bool) (A1 : Option Addr) (c1 : Nat) (l1 : List UInt8) (wr : World) : Prop where
  hb : Blk wr w.heap.size 55 hd
  mb : Blk wr (w.heap.size + 1) 80 (mkC 16711680 65280 255 m3)
  wt : Wraw wr (w.heap.size + 2) g A1 c1 l1 false bs.length
  pk : Packed false bs l1
  bel : Below w.heap.size w wr
theorem RowS.upd {w wr w' : World} {hd : Array Value} {m3 : Int} {g : Nat} {bs : List Bool} {A1 : Option Addr} {c1 : Nat} {l1 : List UInt8} (h : RowS w hd m3 g bs A1 c1 l1 wr) (u : Upd No wr w') : RowS w hd m3 g bs A1 c1 l1 w' :=
  ⟨h.hb.upd u id, h.mb.upd u id, h.wt.upd u id (fun _ _ => id), h.pk, h.bel.trans (u.fresh.mono h.bel.size)⟩
theorem RowS.put {w wr w' : World} {hd : Array Value} {m3 : Int} {g n : Nat} {bs cs : List Bool} {A1 : Option Addr} {c1 : Nat} {l1 : List UInt8} (h : RowS w hd m3 g bs A1 c1 l1 wr) (hp : PutAt wr (w.heap.size + 2) g A1 false (bs ++ cs) n w') :
    ∃ A2 c2 l2, RowS w hd m3 g (bs ++ cs) A2 c2 l2 w' := by
  obtain ⟨A2, c2, l2, hw, hn, hpk, hu, _⟩ := hp
  have hlt : ∀ k, A1.map (·.block) = some k → w.heap.size + 2 ≤ k := fun k hk => (row_lt h.wt.2.1 k hk).1
  have hg := h.wt.2.2
  refine ⟨A2, c2, l2, h.hb.upd hu ?_, h.mb.upd hu ?_, by rw [← hn]; exact hw, hpk, h.bel.trans (hu.below h.bel.size ?_)⟩
  · rintro (e | e)
    · omega
    · have := hlt _ e; omega
  · rintro (e | e)
    · omega
    · have := hlt _ e; omega
  · rintro k hk (e | e)
    · omega
    · have := hlt _ e; omega
set_option maxRecDepth 100000 in
set_option maxHeartbeats 4000000 in
theorem row_any (al : Bool) (s p H k0 n0 : Int) (dn : Bool) (W c : Nat) (A : Option Addr) (L : List Col) (hL : L.length = W) (hok : ∀ x ∈ L, ColOk x) (hW : W ≤ 4096) (B : Nat) (w : World) (hT : Tab32 w) (hB1 : 0 < w.heap.size) (hcs : Cs w B A L) (hB : B ≤ w.heap.size) :
    Calls Tryz.prog 36 #[hdV s p (W : Nat) H dn (dep al : Nat) k0 n0, .slice A W c, mkV 16711680 65280 255 (mask3 al : Nat)] w fun e w' =>
      ∃ A' c', e = .returned (.slice A' (rowN al W) c') ∧ w'.ownsRow w.heap.size 5 1 (.slice A' (rowN al W) c') (rowN al W) (bytesV (rowB al W L)) ∧ Below w.heap.size w w' := by
  obtain ⟨N, hN⟩ : ∃ N, rowN al W = N := ⟨_, rfl⟩
  obtain ⟨R, hR⟩ : ∃ R, rowB al W L = R := ⟨_, rfl⟩
  rw [hN, hR]
  have HN := Lib.hid hN; have HR := Lib.hid hR
  clear hN hR
  obtain ⟨bel, hsz, hb1, hb2⟩ := boxes2 w (hdC s p (W : Nat) H dn (dep al : Nat) k0 n0) (mkC 16711680 65280 255 (mask3 al : Nat)) 55 80
  go_enter Tryz.func36, Tryz.ntmps36
  go_upto_region 1 with (fail)
  generalize (w.alloc (.cells (hdC s p (W : Nat) H dn (dep al : Nat) k0 n0) 55)).alloc (.cells (mkC 16711680 65280 255 (mask3 al : Nat)) 80) = w1 at *
  have HT := Lib.hid hT
  have HCS := Lib.hid hcs
  have HOK := Lib.hid hok
  have HLN := Lib.hid hL
  have HB1 := Lib.hid hb1; have HB2 := Lib.hid hb2; have HBel := Lib.hid bel
  clear hT hcs hok hL hb1 hb2 bel
  go_wp2_with fail
  refine (newWriter_any false w1).mono ?_
  rintro e w2 ⟨g, rfl, hwr, hbw, hglt⟩
  have hS : RowS w (hdC s p (W : Nat) H dn (dep al : Nat) k0 n0) (mask3 al : Nat) g [] none 0 [] w2 :=
    ⟨HB1.out.upd (Upd.of_fresh hbw) id, HB2.out.upd (Upd.of_fresh hbw) id, by rw [hsz] at hwr; exact hwr, packed_nil _, HBel.out.trans (hbw.mono (by omega))⟩
  have HS := Lib.hid hS
  clear hwr hbw hS HB1 HB2 HBel
  go_wp2_with fail
  go_loopw [14] (fun i wr => ∃ k : Nat, k ≤ W ∧ i = .int .i64 (k : Int) ∧ Hid (∃ A1 c1 l1, RowS w (hdC s p (W : Nat) H dn (dep al : Nat) k0 n0) (mask3 al : Nat) g (bitsB (pxsB al (L.take k))) A1 c1 l1 wr)) (fun i _ => W - (intOf i).toNat)
  case atStart => exact ⟨0, Nat.zero_le _, rfl, Lib.hid ⟨none, 0, [], HS.out⟩⟩
  case round =>
    obtain ⟨k, hk, rfl, HX⟩ := hrel
    obtain ⟨A1, c1, l1, hx⟩ := HX.out
    by_cases hkW : k < W
    · have hkL : k < L.length := by rw [HLN.out]; exact hkW
      obtain ⟨b, off, rfl, hbB, x0, x1, x2, x3⟩ := ((HCS.out.more hB).below hx.bel).at_ hkL
      have hcol := HOK.out _ (List.getElem_mem hkL)
      obtain ⟨x, hxe⟩ : ∃ x, L[k]'hkL = x := ⟨_, rfl⟩
      have HSt : Hid (bitsB (pxsB al (L.take (k + 1))) = bitsB (pxsB al (L.take k)) ++ bitsOf false (pxV al x.r x.g x.b x.a) (dep al)) := Lib.hid (by
        rw [pxsB_step al L k hkL, bitsB_append, pxV_bits, hxe])
      have HBL : Hid ((bitsB (pxsB al (L.take k))).length ≤ 8 * (4 * 4096)) := Lib.hid (by
        rw [bitsB_length, pxsB_length, List.length_take]
        have : pxN al ≤ 4 := by cases al <;> simp [pxN]
        exact Nat.mul_le_mul_left 8 (Nat.mul_le_mul this (by omega)))
      rw [hxe] at x0 x1 x2 x3 hcol
      generalize bitsB (pxsB al (L.take k)) = bs at *
      have hx1 : RowS w (hdC s p (W : Nat) H dn (dep al : Nat) k0 n0) (mask3 al : Nat) g bs A1 c1 l1 (wr.alloc (.cells (colC x) 49)) := hx.upd ((Upd.refl No wr).alloc _)
      have hcb := Blk.new wr 49 (colC x)
      have hsr := hx.bel.size
      have HX1 := Lib.hid hx1; have HCB := Lib.hid hcb; have HCOL := Lib.hid hcol
      clear hx1 hcb hcol hx HX hxe
      go_upto_region 5 with (fail)
      generalize wr.alloc (.cells (colC x) 49) = w5 at *
      obtain ⟨U, Wf, hU0, hU1, hU2⟩ := names_of w5
      have HRS := Lib.hid (fun u => HX1.out.upd (hU1 u))
      have hbc := fun u => HCB.out.upd (hU1 u) id
      have y0 : ∀ u, (Wf u).cell? ⟨wr.heap.size, 0, none⟩ = some (.int .u16 x.r) := fun u => (hbc u).cell 0
      have y1 : ∀ u, (Wf u).cell? ⟨wr.heap.size, 1, none⟩ = some (.int .u16 x.g) := fun u => (hbc u).cell 1
      have y2 : ∀ u, (Wf u).cell? ⟨wr.heap.size, 2, none⟩ = some (.int .u16 x.b) := fun u => (hbc u).cell 2
      have y3 : ∀ u, (Wf u).cell? ⟨wr.heap.size, 3, none⟩ = some (.int .u16 x.a) := fun u => (hbc u).cell 3
      have z0 : ∀ u, (Wf u).cell? ⟨w.heap.size + 1, 0, none⟩ = some (.int .u32 16711680) := fun u => (HRS.out u).mb.cell 0
      have z1 : ∀ u, (Wf u).cell? ⟨w.heap.size + 1, 1, none⟩ = some (.int .u32 65280) := fun u => (HRS.out u).mb.cell 1
      have z2 : ∀ u, (Wf u).cell? ⟨w.heap.size + 1, 2, none⟩ = some (.int .u32 255) := fun u => (HRS.out u).mb.cell 2
      have z3 : ∀ u, (Wf u).cell? ⟨w.heap.size + 1, 3, none⟩ = some (.int .u32 (mask3 al : Nat)) := fun u => (HRS.out u).mb.cell 3
      have v5 : ∀ u, (Wf u).cell? ⟨w.heap.size, 5, none⟩ = some (.int .i64 (dep al : Nat)) := fun u => (HRS.out u).hb.cell 5
      have HNm : Hid (∀ u, Calls Tryz.prog 84 #[mkV 16711680 65280 255 (mask3 al : Nat), colV x] (Wf u) fun e w' => e = .returned (.int .u32 (pxV al x.r x.g x.b x.a : Nat)) ∧ ∃ u', w' = Wf u') := Lib.hid (fun u =>
        (mnum_any al x.r x.g x.b x.a HCOL.out.1 HCOL.out.2.1 HCOL.out.2.2.1 HCOL.out.2.2.2 (Wf u) (HT.out.below (HRS.out u).bel hB1) (by have := (HRS.out u).bel.size; omega)).mono fun e w' h => ⟨h.1, hU2 u w' h.2⟩)
      have HPt : Hid (∀ u, Calls Tryz.prog 83 #[.pointer (some ⟨g, 0, none⟩), .int .u32 (pxV al x.r x.g x.b x.a : Nat), .int .i64 (dep al : Nat)] (Wf u) fun e w' => e = .returned (.int .i64 0) ∧ ∃ A2 c2 l2, RowS w (hdC s p (W : Nat) H dn (dep al : Nat) k0 n0) (mask3 al : Nat) g (bs ++ bitsOf false (pxV al x.r x.g x.b x.a) (dep al)) A2 c2 l2 w') := Lib.hid (fun u =>
        (put_any (Wf u) (w.heap.size + 2) g A1 c1 l1 false bs (pxV al x.r x.g x.b x.a) (dep al) (HRS.out u).wt (HRS.out u).pk (pxV_lt _ _ _ _ _) (by cases al <;> simp [dep]) (by have := HBL.out; have : dep al ≤ 32 := by cases al <;> simp [dep]
                                                                                                                                                                                  omega) (by have := (HRS.out u).bel.size; have := (HRS.out u).mb.lt; omega)).mono fun e w' h => ⟨h.1, (HRS.out u).put h.2⟩)
      have HU0 := Lib.hid hU0
      have hne : Nonempty U := by obtain ⟨u, _⟩ := hU0; exact ⟨u⟩
      clear hU0 hU1 hU2 hbc HRS HX1 HCB x0 x1 x2 x3
      refine wp_region_class (fun w' => ∃ u, w' = Wf u) 6 (by kernel_rfl) (by kernel_rfl) HU0.out ?_
      simp only [List.take_succ_cons, List.take_zero, List.drop_succ_cons, List.drop_zero]
      repeat (go_big_quiet_step ((go_at_call 84; exact HNm.out _)))
      refine wpQuiet_nil ?_
      rintro _ ⟨u, rfl⟩
      clear HU0 y0 y1 y2 y3 z0 z1 z2 z3 v5
      go_wp2_with fail
      refine (HPt.out u).mono ?_
      rintro e w6 ⟨rfl, hS6⟩
      have HS6 := Lib.hid hS6
      clear hS6 HPt HNm
      go_wp2_with fail
      go_roundw
      case rel => exact ⟨k + 1, by omega, by go_num, Lib.hid (by rw [HSt.out]; exact HS6.out)⟩
      case measure => simp [intOf]; omega
    · obtain rfl : k = W := by omega
      clear HX
      have hRL : bitsB (pxsB al (L.take k)) = bitsB (pxsB al L) := by rw [List.take_of_length_le (by rw [HLN.out]; exact Nat.le_refl _)]
      rw [hRL] at hx
      have hl1 : l1 = pxsB al L := packed_unique hx.pk (packed_bytes _)
      subst hl1
      have HX := Lib.hid hx
      have v0 : wr.cell? ⟨w.heap.size, 0, none⟩ = some (.int .i64 s) := hx.hb.cell 0
      have v1 : wr.cell? ⟨w.heap.size, 1, none⟩ = some (.int .i64 p) := hx.hb.cell 1
      have v2 : wr.cell? ⟨w.heap.size, 2, none⟩ = some (.int .i64 (k : Nat)) := hx.hb.cell 2
      have v3 : wr.cell? ⟨w.heap.size, 3, none⟩ = some (.int .i64 H) := hx.hb.cell 3
      have v4 : wr.cell? ⟨w.heap.size, 4, none⟩ = some (.bool dn) := hx.hb.cell 4
      have v5 : wr.cell? ⟨w.heap.size, 5, none⟩ = some (.int .i64 (dep al : Nat)) := hx.hb.cell 5
      have v6 : wr.cell? ⟨w.heap.size, 6, none⟩ = some (.int .i64 k0) := hx.hb.cell 6
      have v7 : wr.cell? ⟨w.heap.size, 7, none⟩ = some (.int .i64 n0) := hx.hb.cell 7
      have HRl := Lib.hid (rowLength_any s p k (dep al) H dn k0 n0 (by omega) (by cases al <;> simp [dep]) wr)
      rw [show (k * dep al + 31) / 32 * 4 = rowN al k from rfl] at HRl
      have hf := row_fits al k
      have hpl := pxsB_length al L
      rw [HLN.out] at hpl
      obtain ⟨P, hP⟩ : ∃ P, (pxsB al L).length = P := ⟨_, rfl⟩
      have HRB : Hid (R = pxsB al L ++ List.replicate (N - P) 0) := Lib.hid (by rw [← HR.out, rowB, HN.out, hP])
      rw [HN.out] at HRl
      rw [HN.out] at hf
      rw [← hpl, hP] at hf
      have HPL := Lib.hid hP
      obtain ⟨i0, hi, hz0, hz1, hz2⟩ := info_parts info_u8
      clear hx hP hpl hRL
      go_wp2_with fail
      refine HRl.out.mono ?_
      rintro e w6 ⟨rfl, hb6⟩
      have HX6 := Lib.hid (HX.out.upd (Upd.of_fresh hb6))
      have hs6 := HX6.out.bel.size
      clear v0 v1 v2 v3 v4 v5 v6 v7 hb6 HRl HX
      go_wp2_with (at_make; refine wpList_make_full _ rfl (.tmp 27) (.tmp 27) 22 rfl w6.heap.size 5 i0 (.int .u8 0) 1 Tryz.underlying22 hi hz0 hz1 .i64 .i64 N N N rfl rfl rfl rfl (by rw [hz2]; omega) (by unfold maxLen; omega) (Nat.le_refl _) ?_; intro w7 hown7 hg7; obtain ⟨cur7, hcur7, hlen7⟩ := own_block hown7)
      rw [make_u8] at hown7
      obtain ⟨hz7, _, _⟩ := own_heap hown7
      have hu7 : Upd No w6 w7 := (Upd.of_grown hg7).mono (fun k _ h => by simp at h)
      have HX7 := Lib.hid (HX6.out.upd hu7)
      have HZ7 := Lib.hid hz7
      have hlt7 : w6.heap.size < w7.heap.size := (Array.getElem?_eq_some_iff.1 hz7).1
      clear hown7 hg7 hcur7 hlen7 hz7 hu7 hi hz0 hz1 hz2
      go_wp2_with fail
      refine (wbytes_any w7 (w.heap.size + 2) g A1 c1 (pxsB al L) false _ HX7.out.wt (by rw [HPL.out]; omega)).mono ?_
      rintro e w8 ⟨A8, c8, rfl, ho8, hb8⟩
      rw [HPL.out] at ho8 ⊢
      have hbs8 : Bs w8 w8.heap.size A8 (pxsB al L) := by
        refine Bs.of_own (base := w7.heap.size) (e := 5) (c := c8) ?_
        rw [HPL.out]
        exact ho8
      have hz8 : w8.heap[w6.heap.size]? = some (.cells (bytesV (List.replicate N 0)).toArray 5 (0, 0)) := by rw [hb8.block _ hlt7]; exact HZ7.out
      have HBel8 := Lib.hid (HX7.out.bel.trans (hb8.mono HX7.out.bel.size))
      have HZ8 := Lib.hid hz8
      have HSR : Hid (0 < (bytesV (pxsB al L)).length → ∃ ad, A8 = some ad ∧ ∀ j v, (bytesV (pxsB al L))[j]? = some v → w8.cell? (ad.add j) = some v) := Lib.hid (fun hp => copy_src (w := w8) hbs8 (Below.refl _ _) (Nat.le_refl _) hp)
      have HLB : Hid ((bytesV (pxsB al L)).length = Nat.min P N) := Lib.hid (by rw [bytesV_length, HPL.out]; exact (Nat.min_eq_left hf.1).symm)
      have HFT : Hid (0 + (bytesV (pxsB al L)).length ≤ (bytesV (List.replicate N (0 : UInt8))).length) := Lib.hid (by rw [bytesV_length, HPL.out, bytesV_length, List.length_replicate]; omega)
      clear ho8 hbs8 hz8 hb8 HX7 HZ7
      go_wp2_with (with_reducible refine wpList_copy_splice rfl (.tmp 29) (.tmp 31) 22 22 rfl 5 Tryz.underlying22 info_u8_size _ A8 N N P c8 rfl rfl w6.heap.size 0 (bytesV (List.replicate N 0)) 5 HZ8.out (bytesV (pxsB al L)) HLB.out (fun hp => ⟨rfl, HSR.out hp⟩) HFT.out (bytesV_oneCell _) w.heap.size w HBel8.out (by omega) ?_; intro w9 hg9 hb9)
      have HFin : Hid (w9.ownsRow w.heap.size 5 1 (.slice (some ⟨w6.heap.size, 0, none⟩) N N) N (bytesV R) ∧ Below w.heap.size w w9) := Lib.hid (by
        refine ⟨own_full ?_ (by rw [HRB.out, List.length_append, HPL.out, List.length_replicate]; omega) (by omega) (by unfold maxLen; omega), hb9⟩
        rw [hg9.out, HRB.out]
        unfold splice
        rw [List.take_zero, List.nil_append, Nat.zero_add, bytesV_append, bytesV_length, HPL.out]
        congr 2
        rw [show bytesV (List.replicate N (0 : UInt8)) = List.replicate N (bv 0) from by simp [bytesV], show bytesV (List.replicate (N - P) (0 : UInt8)) = List.replicate (N - P) (bv 0) from by simp [bytesV]]
        simp)
      clear hg9 hb9
      go_ret
      exact ⟨_, _, rfl, HFin.out⟩
end Go.Proofs.YtnfjeeflcfmpbaaGreatDoor
