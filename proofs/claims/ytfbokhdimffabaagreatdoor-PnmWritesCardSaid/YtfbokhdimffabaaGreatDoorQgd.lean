/- Of: a grid of colours as an image, walked. -/
import Derived.Test.YtfbokhdimffabaaGreatDoorYe
import Derived.Test.YtfbokhdimffabaaGreatDoorQt
namespace Go.Proofs.YtfbokhdimffabaaGreatDoor
open Go.ChangeShapes Go.WideShapes Go.ChangeAt Go.RowKit Go.Shelf
attribute [local go_sem] Oper.semAt_some

/-- The samples of the first k colours. -/
def flatL (L : List Col) : Nat → List Int
  | 0 => []
  | k + 1 => flatL L k ++ colQ (L.getD k col0)
theorem flatL_length (L : List Col) : ∀ k, (flatL L k).length = 4 * k
  | 0 => rfl
  | k + 1 => by simp [flatL, flatL_length L k, colQ]; omega
theorem flatL_px (l : List Int) (M : Nat) (hl : l.length = 4 * M) : ∀ k, k ≤ M → flatL (pxL l M) k = l.take (4 * k)
  | 0, _ => by simp [flatL]
  | k + 1, hk => by
    have h := take_px l 0 k (by omega)
    simp only [List.drop_zero, Nat.zero_add] at h
    rw [flatL, flatL_px l M hl k (by omega), pxL_get l M k (by omega), h]
theorem flatL_all (l : List Int) (M : Nat) (hl : l.length = 4 * M) : flatL (pxL l M) M = l := by
  rw [flatL_px l M hl M (Nat.le_refl _), ← hl, List.take_length]
/-- The world behind k colours. -/
structure OfI (w2 : World) (bl bx g : Nat) (L : List Col) (k : Nat) (V : World) : Prop where
  row : ∃ A n c, n = 4 * k ∧ Blk V bl 24 #[.slice A n c] ∧ V.ownsRow w2.heap.size 42 1 (.slice A n c) n (usV (flatL L k))
  it : Blk V bx 71 #[.pointer (some ⟨g, 0, none⟩)]
  bel : Below w2.heap.size w2 V
theorem OfI.call {w2 V V' : World} {bl bx g : Nat} {L : List Col} {k : Nat} (h : OfI w2 bl bx g L k V) (u : Upd No V V') : OfI w2 bl bx g L k V' := by
  obtain ⟨⟨A, n, c, h0, h1, h2⟩, h3, h4⟩ := h
  exact ⟨⟨A, n, c, h0, h1.upd u id, own_upd h2 u (fun _ _ => id)⟩, h3.upd u id, h4.trans (u.fresh.mono h4.size)⟩
theorem OfI.put {w2 V : World} {bl bx g : Nat} {L : List Col} {k : Nat} (h : OfI w2 bl bx g L k V) {ll : Nat} {o : Obj} (hll : w2.heap.size ≤ ll) (ho : V.heap[ll]? = some o) (hoc : o.isCells = false) (o' : Obj) : OfI w2 bl bx g L k (V.putObj ll o') := by
  have hu := upd_putObj (S := (· = ll)) V ll o' rfl
  obtain ⟨⟨A, n, c, h0, h1, h2⟩, h3, h4⟩ := h
  exact ⟨⟨A, n, c, h0, h1.upd hu (blk_ne_obj h1 ho hoc), own_put h2 ho hoc o'⟩, h3.upd hu (blk_ne_obj h3 ho hoc), h4.trans (hu.below h4.size (fun i hi e => by omega))⟩
theorem OfI.step {w2 V w9 : World} {bl bx g : Nat} {L : List Col} {k n : Nat} {A A9 : Option Addr} {c c9 : Nat} (hbw : w2.heap.size ≤ bl) (hn : n = 4 * k) (h1 : Blk V bl 24 #[.slice A n c]) (h2 : V.ownsRow w2.heap.size 42 1 (.slice A n c) n (usV (flatL L k))) (h3 : Blk V bx 71 #[.pointer (some ⟨g, 0, none⟩)]) (h4 : Below w2.heap.size w2 V)
    (o9 : w9.ownsRow w2.heap.size 42 1 (.slice A9 (n + 4) c9) (n + 4) (usV (flatL L (k + 1)))) (x : Array Value) (hg9 : (V.alloc (.cells x 42)).grownBy w9 (Value.slice A n c).ownBlock) :
    KeepsOthers V (w9.setCell ⟨bl, 0, none⟩ (.slice A9 (n + 4) c9)) ∧ OfI w2 bl bx g L (k + 1) (w9.setCell ⟨bl, 0, none⟩ (.slice A9 (n + 4) c9)) ∧ w9.cell? ⟨bl, 0, none⟩ = some (.slice A n c) ∧ w9.frozen? ⟨bl, 0, none⟩ = false := by
  have h2a := own_upd h2 ((Upd.refl No V).alloc (.cells x 42)) (fun _ _ => id)
  have h1a := h1.upd ((Upd.refl No V).alloc (.cells x 42)) id
  have h3a := h3.upd ((Upd.refl No V).alloc (.cells x 42)) id
  have hkr := keeps_row h2a hg9
  have b9 := h1a.upd (Upd.of_grown hg9) (fun e => own_blk_ne h2a h1a (by decide) e.symm)
  have i9 := h3a.upd (Upd.of_grown hg9) (fun e => own_blk_ne h2a h3a (by decide) e.symm)
  have us := (Upd.refl (· = bl) w9).setCell (p := ⟨bl, 0, none⟩) (fun _ => rfl) (.slice A9 (n + 4) c9)
  have hbb : Below w2.heap.size w2 w9 := (h4.trans (((Below.refl _ V).alloc (Nat.le_refl _) _).mono h4.size)).grown hg9 (by simp; have := h4.size; omega) (fun q hq => (h2a.lt q hq).1)
  refine ⟨((KeepsOthers.alloc V _).trans hkr).trans (KeepsOthers.setCell _ _ _), ⟨⟨A9, n + 4, c9, by omega, by simpa using b9.set_ 0 (.slice A9 (n + 4) c9), own_upd o9 us (fun j hj e => by have e : j = bl := e; subst e; exact own_blk_ne o9 b9 (by decide) hj)⟩, i9.upd us (fun e => by have e : bx = bl := e; subst e; exact Blk.ne_ b9 i9 (by decide) rfl), hbb.trans (us.below hbb.size (fun i hi e => by have e : i = bl := e; omega))⟩, by rw [b9.cell]; rfl, b9.frozen 0⟩
end Go.Proofs.YtfbokhdimffabaaGreatDoor
