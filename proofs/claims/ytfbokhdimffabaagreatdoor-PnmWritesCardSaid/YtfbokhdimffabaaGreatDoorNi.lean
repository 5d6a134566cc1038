/- A grid's samples as bits: what is written; what stands while the program writes it. -/
import Derived.Test.YtfbokhdimffabaaGreatDoorBy
import Derived.Test.YtfbokhdimffabaaGreatDoorP
set_option linter.unusedVariables false
set_option linter.unusedSimpArgs false
namespace Go.Proofs.YtfbokhdimffabaaGreatDoor
open Go.ChangeShapes Go.WideShapes Go.ChangeAt Go.RowKit Go.Sort

set_option maxHeartbeats 400000 in
theorem walignP_any (w : World) (base g : Nat) (A : Option Addr) (c : Nat) (l : List UInt8) (high : Bool) (len : Nat) (h : Wraw w base g A c l high len) (hl : len ≤ 1125899906842624) :
    Calls Tryz.prog 61 #[.pointer (some ⟨g, 0, none⟩)] w fun e w' => e = .returned (.tuple #[]) ∧ Wraw w' base g A c l high ((len + 7) / 8 * 8) ∧ Upd (· = g) w w' := by
  have hc1 := h.place
  have hfr := h.free 1
  have H := Lib.hid h; clear h
  go_enter Tryz.func61, Tryz.ntmps61
  go_wp2_with (go_at_call 75; refine (bytesFor_any _ _ (by omega) (by omega)).mono ?_; rintro e w1 ⟨rfl, rfl⟩)
  go_end0
  have e : (8 : Int) * (((len : Int) + 7) / 8) = (((len + 7) / 8 * 8 : Nat) : Int) := by omega
  rw [e]
  exact ⟨rfl, H.out.setLen _, (Upd.refl (· = g) w).setCell (p := ⟨g, 1, none⟩) (fun _ => rfl) _⟩
/-- Bits up to the next border. -/
def padP (bs : List Bool) : List Bool := bs ++ List.replicate ((8 - bs.length % 8) % 8) false
theorem padP_length (bs : List Bool) : (padP bs).length = (bs.length + 7) / 8 * 8 := by rw [padP, List.length_append, List.length_replicate]; omega
theorem padP_packed {bs : List Bool} {l : List UInt8} (h : Packed true bs l) : Packed true (padP bs) l := by
  refine ⟨by rw [padP_length, h.1]; omega, fun i => ?_⟩
  rw [h.2 i, padP]
  by_cases hi : i < bs.length
  · rw [List.getElem?_append_left hi]
  · rw [List.getElem?_append_right (by omega), List.getElem?_eq_none (by omega), List.getElem?_replicate]
    split <;> rfl
/-- A row's bits; the first rows', each in whole bytes. -/
def rowBt (k top : Nat) (vs : List Int) : List Bool := (vs.map fun v => bitsOf true v.toNat (depN k top)).flatten
def bitT (k top W : Nat) (L : List Col) : Nat → List Bool
  | 0 => []
  | i + 1 => padP (bitT k top W L i ++ rowBt k top (rowM k top (rowL W L i)))
theorem depN_le (k top : Nat) : 1 ≤ depN k top ∧ depN k top ≤ 16 := by
  unfold depN
  by_cases h : kGr k = true
  · rw [if_pos h]; split <;> omega
  · rw [if_neg h]; omega
theorem rowBt_length (k top : Nat) : ∀ vs : List Int, (rowBt k top vs).length = depN k top * vs.length
  | [] => rfl
  | v :: r => by
    have := rowBt_length k top r
    unfold rowBt at this ⊢
    rw [List.map_cons, List.flatten_cons, List.length_append, bitsOf_length, this, List.length_cons, Nat.mul_succ]
    omega
theorem rowBt_snoc (k top : Nat) (v : Int) (vs : List Int) : rowBt k top (vs ++ [v]) = rowBt k top vs ++ bitsOf true v.toNat (depN k top) := by simp [rowBt]
theorem bitT_len (k top W : Nat) (L : List Col) : ∀ i, (bitT k top W L i).length ≤ i * (48 * W + 7)
  | 0 => by simp [bitT]
  | i + 1 => by
    have h1 := bitT_len k top W L i
    have h3 : (rowL W L i).length ≤ W := by rw [rowL, List.length_take]; omega
    have h4 := Nat.mul_le_mul (plN_le k).2 h3
    have h5 := Nat.mul_le_mul (depN_le k top).2 h4
    have h6 := rowBt_length k top (rowM k top (rowL W L i))
    rw [rowM_length] at h6
    rw [bitT, padP_length, List.length_append, h6, Nat.succ_mul]
    omega
/-- What stands while the bits are written. -/
structure BtI (w : World) (wb bi b0 g r c W H : Nat) (hd : Array Value) (L : List Col) (gw : Nat) (bs : List Bool) (V : World) : Prop where
  hb : Blk V w.heap.size 50 hd
  wx : Blk V wb 113 #[.pointer (some ⟨gw, 0, none⟩)]
  ib : Blk V bi 71 #[.pointer (some ⟨g, 0, none⟩)]
  cg : CG V b0 g r c W H L
  gl : g < w.heap.size ∧ r < w.heap.size
  wt : ∃ A1 c1 l1, Wraw V (w.heap.size + 1) gw A1 c1 l1 true bs.length ∧ Packed true bs l1
  bel : Below w.heap.size w V
theorem own_two {V : World} {b1 b2 n m s1 s2 : Nat} {e1 e2 : TypeId} {v u : Value} {xs ys : List Value} (h : V.ownsRow b1 e1 s1 v n xs) (ho : V.ownsRow b2 e2 s2 u m ys) (hne : e1 ≠ e2) {k : Nat} (hk : v.ownBlock = some k) : u.ownBlock ≠ some k := by
  intro hu
  rcases h.2 with ⟨rfl, _⟩ | ⟨g, cap, cur, rfl, _, hg, _⟩
  · simp [Value.ownBlock] at hk
  · rcases ho.2 with ⟨rfl, _⟩ | ⟨g2, cap2, cur2, rfl, _, hg2, _⟩
    · simp [Value.ownBlock] at hu
    · simp [Value.ownBlock] at hk hu
      subst hk
      subst hu
      rw [hg] at hg2
      injection hg2 with hg2
      injection hg2 with _ hg2
      exact hne hg2
section
variable {w V V' : World} {wb bi b0 g r c W H gw : Nat} {hd : Array Value} {L : List Col} {bs : List Bool}
theorem BtI.keep (h : BtI w wb bi b0 g r c W H hd L gw bs V) (u : Upd No V V') : BtI w wb bi b0 g r c W H hd L gw bs V' := by
  obtain ⟨A1, c1, l1, h1, h2⟩ := h.wt
  exact ⟨h.hb.upd u id, h.wx.upd u id, h.ib.upd u id, h.cg.upd u id id, h.gl, ⟨A1, c1, l1, h1.upd u id (fun _ _ => id), h2⟩, h.bel.trans (u.fresh.mono h.bel.size)⟩
theorem BtI.put (h : BtI w wb bi b0 g r c W H hd L gw bs V) {ll : Nat} {o : Obj} (hll : w.heap.size ≤ ll) (ho : V.heap[ll]? = some o) (hoc : o.isCells = false) (o' : Obj) : BtI w wb bi b0 g r c W H hd L gw bs (V.putObj ll o') := by
  have u := upd_putObj (S := (· = ll)) V ll o' rfl
  obtain ⟨A1, c1, l1, h1, h2⟩ := h.wt
  have hrow := own_put h.cg.row ho hoc o'
  exact ⟨h.hb.upd u (blk_ne_obj h.hb ho hoc), h.wx.upd u (blk_ne_obj h.wx ho hoc), h.ib.upd u (blk_ne_obj h.ib ho hoc), ⟨h.cg.blk.upd u (blk_ne_obj h.cg.blk ho hoc), hrow, h.cg.fresh, h.cg.w1, h.cg.w2, h.cg.h1, h.cg.h2, h.cg.few⟩, h.gl, ⟨A1, c1, l1, ⟨h1.1.upd u (blk_ne_obj h1.1 ho hoc), own_put h1.2.1 ho hoc o', h1.2.2⟩, h2⟩, h.bel.trans (u.below h.bel.size (fun i hi e => by omega))⟩
/-- The writer and its row are written. -/
theorem BtI.wrote (h : BtI w wb bi b0 g r c W H hd L gw bs V) {A1 : Option Addr} {c1 : Nat} {l1 : List UInt8} (h1 : Wraw V (w.heap.size + 1) gw A1 c1 l1 true bs.length) {b' m : Nat} {u0 : Value} {ys : List Value} (o : V.ownsRow b' 3 1 u0 m ys) (u : Upd (WS gw A1) V V') {bs' : List Bool} {A2 : Option Addr} {c2 : Nat} {l2 : List UInt8}
    (h2 : Wraw V' (w.heap.size + 1) gw A2 c2 l2 true bs'.length) (h3 : Packed true bs' l2) : BtI w wb bi b0 g r c W H hd L gw bs' V' ∧ KeepsOthers V V' ∧ V'.ownsRow b' 3 1 u0 m ys := by
  have hrow : ∀ k, A1.map (·.block) = some k → (Value.slice A1 l1.length c1).ownBlock = some k := fun k hk => by rw [ownBlock_slice]; exact hk
  have hlt : ∀ k, A1.map (·.block) = some k → w.heap.size + 1 ≤ k := fun k hk => (h1.2.1.lt k (hrow k hk)).1
  have hg := h1.2.2
  have hs := h.bel.size
  refine ⟨⟨h.hb.upd u ?_, h.wx.upd u ?_, h.ib.upd u ?_, h.cg.upd u ?_ ?_, h.gl, ⟨A2, c2, l2, h2, h3⟩, h.bel.trans (u.below hs ?_)⟩, ⟨u.size, fun k oo hk hoc => (u.block k (Array.getElem?_eq_some_iff.1 hk).1 ?_).trans hk⟩, own_upd o u ?_⟩
  · rintro (e | e)
    · omega
    · have := hlt _ e; omega
  · rintro (e | e)
    · exact (h.wx.ne_ h1.1 (by decide)) e
    · exact own_blk_ne h1.2.1 h.wx (by decide) (hrow _ e)
  · rintro (e | e)
    · exact (h.ib.ne_ h1.1 (by decide)) e
    · exact own_blk_ne h1.2.1 h.ib (by decide) (hrow _ e)
  · have := h.gl
    rintro (e | e)
    · omega
    · have := hlt _ e; omega
  · have := h.gl
    rintro (e | e)
    · omega
    · have := hlt _ e; omega
  · rintro k hk (e | e)
    · omega
    · have := hlt _ e; omega
  · rintro (e | e)
    · exact (blk_ne_obj h1.1 hk hoc) e.symm
    · obtain ⟨g', cap, cur, hv, _, hh, _⟩ := (h1.2.1.2).resolve_left (fun hn => by have := hrow _ e; rw [hn.1] at this; cases this)
      have e2 := hrow _ e
      rw [hv] at e2
      have e3 : g' = k := by simpa [Value.ownBlock] using e2
      subst e3
      rw [hk] at hh
      injection hh with hh
      subst hh
      cases hoc
  · rintro k hk (e | e)
    · exact own_blk_ne o h1.1 (by decide) (by rw [hk, e])
    · exact own_two h1.2.1 o (by decide) (hrow _ e) hk
end
end Go.Proofs.YtfbokhdimffabaaGreatDoor
