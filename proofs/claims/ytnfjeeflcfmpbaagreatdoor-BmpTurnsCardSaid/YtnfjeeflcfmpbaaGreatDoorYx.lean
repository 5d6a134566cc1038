/- The image of the numbers. -/
import Derived.Test.YtnfjeeflcfmpbaaGreatDoorYr
import Derived.Test.YtnfjeeflcfmpbaaGreatDoorYt
import Derived.Test.YtnfjeeflcfmpbaaGreatDoorYu
set_option linter.unusedVariables false
set_option linter.unusedSimpArgs false
namespace Go.Proofs.YtnfjeeflcfmpbaaGreatDoor
open Go.ChangeShapes Go.WideShapes Go.ChangeAt Go.RowKit Go.Shelf

/-- Numbers cut into rows. -/
def pcsN (L : List Nat) (W H : Nat) : List (List Nat) := (List.range H).map fun j => (L.drop (W * j)).take W
theorem pcsN_len {L : List Nat} {W H i : Nat} (hl : L.length = W * H) (hi : i < H) : ((L.drop (W * i)).take W).length = W := by
  have := Nat.mul_le_mul_left W (show i + 1 ≤ H by omega)
  rw [Nat.mul_succ] at this
  rw [List.length_take, List.length_drop, hl]
  omega
theorem pcs_rwn {w : World} {B : Nat} {ad : Addr} {L : List Nat} {W H : Nat} (h : Vs w B (some ad) (nV L)) (hB : B ≤ w.heap.size) (hl : L.length = W * H) : RwN w (pcsV ad W H) (pcsN L W H) := by
  refine ⟨by simp [pcsV, pcsN], fun i h1 h2 => ?_⟩
  simp only [pcsN, List.length_map, List.length_range] at h2
  have hk : W * i ≤ L.length := by rw [hl]; exact Nat.mul_le_mul_left W (by omega)
  refine ⟨some (ad.add (W * i)), W, by simp [pcsV, pcsN, pcsN_len hl h2], ?_⟩
  have h9 := ((h.drop (k := W * i) (cap := L.length + 1) (by rw [nV_length]; exact hk) (by rw [nV_length]; omega)).take W).more hB
  rw [if_neg (by omega)] at h9
  have e : nV ((L.drop (W * i)).take W) = ((nV L).drop (W * i)).take W := by simp [nV, List.map_drop, List.map_take]
  simp only [pcsN, List.getElem_map, List.getElem_range, e]
  exact h9
theorem pcsN_flat {L : List Nat} {W : Nat} : ∀ H, W * H ≤ L.length → ((List.range H).map fun j => (L.drop (W * j)).take W).flatten = L.take (W * H)
  | 0, _ => by simp
  | H + 1, h => by
    rw [List.range_succ, List.map_append, List.flatten_append, pcsN_flat H (by rw [Nat.mul_succ] at h; omega), Nat.mul_succ, List.take_add]
    simp
theorem pcsN_flatten {L : List Nat} {W H : Nat} (hl : L.length = W * H) : (pcsN L W H).flatten = L := by
  rw [pcsN, pcsN_flat H (by omega), ← hl, List.take_length]
theorem rev_flatN : ∀ l : List (List Nat), l.reverse.flatten.length = l.flatten.length
  | [] => rfl
  | x :: l => by simp [rev_flatN l, Nat.add_comm]
/-- The numbers in the order of the image. -/
def ordN (dn : Bool) (L : List Nat) (W H : Nat) : List Nat := (if dn then pcsN L W H else (pcsN L W H).reverse).flatten
theorem ordN_length (dn : Bool) {L : List Nat} {W H : Nat} (hl : L.length = W * H) : (ordN dn L W H).length = W * H := by
  unfold ordN
  cases dn
  · rw [if_neg (by simp), rev_flatN, pcsN_flatten hl, hl]
  · rw [if_pos rfl, pcsN_flatten hl, hl]
theorem ordN_mem (dn : Bool) {L : List Nat} {W H : Nat} (hl : L.length = W * H) {v : Nat} (h : v ∈ ordN dn L W H) : v ∈ L := by
  have : v ∈ (pcsN L W H).flatten := by
    unfold ordN at h
    cases dn
    · simpa using h
    · exact h
  rwa [pcsN_flatten hl] at this
/-- The colours of the first k numbers. -/
def colsK (al : Bool) (L : List Nat) (k : Nat) : List Col := (L.take k).map (colP al)
theorem colsK_succ (al : Bool) (L : List Nat) (k : Nat) (hk : k < L.length) : colsK al L (k + 1) = colsK al L k ++ [colP al L[k]] := by
  unfold colsK
  rw [List.take_succ_eq_append_getElem hk, List.map_append]
  rfl
/-- The world behind k colours. -/
structure ImS (w : World) (hd : Array Value) (al : Bool) (gm bN gn cN : Nat) (L : List Nat) (base k : Nat) (v : Value) (V : World) : Prop where
  hb : Blk V w.heap.size 55 hd
  zb : Blk V (w.heap.size + 1) 26 (imgC 0 0 none 0 0)
  mb : Blk V gm 80 (mkC 16711680 65280 255 (mask3 al : Nat))
  nm : V.ownsRow bN 45 1 (.slice (some ⟨gn, 0, none⟩) L.length cN) L.length (nV L)
  tb : Tab32 V
  hB1 : 0 < w.heap.size
  row : ∃ A c, v = .slice A k c ∧ V.ownsRow base 49 4 (.slice A k c) k (colsV (colsK al L k))
  bw : w.heap.size ≤ base
  bel : Below w.heap.size w V
  bel2 : base ≤ V.heap.size
theorem cs_one (w : World) (x : Col) : Cs (w.alloc (.cells #[.int .u16 x.r, .int .u16 x.g, .int .u16 x.b, .int .u16 x.a] 49)) (w.heap.size + 1) (some ⟨w.heap.size, 0, none⟩) [x] := cs_lit w x
/-- A colour more: its box, the row. -/
theorem ImS.step {w : World} {hd : Array Value} {al : Bool} {gm bN gn cN : Nat} {L : List Nat} {base k : Nat} {A A9 : Option Addr} {c c9 : Nat} {V V1 V2 w9 : World} (h : ImS w hd al gm bN gn cN L base k (.slice A k c) V) (hk : k < L.length)
    (o : V.ownsRow base 49 4 (.slice A k c) k (colsV (colsK al L k))) (hb1 : Below V.heap.size V V2)
    (o9 : w9.ownsRow base 49 4 (.slice A9 (k + 1) c9) (k + 1) (colsV (colsK al L k) ++ colsV [colP al L[k]])) (hg9 : V2.grownBy w9 (Value.slice A k c).ownBlock) : ImS w hd al gm bN gn cN L base (k + 1) (.slice A9 (k + 1) c9) w9 := by
  have u1 := Upd.of_fresh hb1
  have o1 := own_upd o u1 (fun _ _ => id)
  have u9 : Upd (fun j => some j = (Value.slice A k c).ownBlock) V2 w9 := (Upd.of_grown hg9).mono (fun j _ e => e)
  have hs := h.bel2
  have hs1 := hb1.size
  have hbase : Below base V2 w9 := u9.below (by omega) (fun j hj e => by have := (o.lt j e.symm).1; omega)
  have hbw : Below w.heap.size w w9 := (h.bel.trans (hb1.mono h.bel.size)).trans (hbase.mono h.bw)
  refine ⟨(h.hb.upd u1 id).upd u9 (fun e => own_blk_ne o1 (h.hb.upd u1 id) (by decide) e.symm), (h.zb.upd u1 id).upd u9 (fun e => own_blk_ne o1 (h.zb.upd u1 id) (by decide) e.symm), (h.mb.upd u1 id).upd u9 (fun e => own_blk_ne o1 (h.mb.upd u1 id) (by decide) e.symm), own_upd (own_upd h.nm u1 (fun _ _ => id)) u9 (fun j hj e => own_rows_ne (own_upd h.nm u1 (fun _ _ => id)) o1 (by decide) j hj e.symm), (h.tb.below hb1 (by have := h.bw; have := h.hB1; show 0 < _; omega)).below hbase (by have := h.bw; have := h.hB1; show 0 < _; omega), h.hB1, ⟨A9, c9, rfl, ?_⟩, h.bw, hbw, Nat.le_trans hs (Nat.le_trans hs1 hbase.size)⟩
  rw [colsK_succ al L k hk, colsV_append]
  exact o9
end Go.Proofs.YtnfjeeflcfmpbaaGreatDoor
