/- The program's image of samples: what is made of them; what stands while it is made. -/
import Derived.Test.YtfbokhdimffabaaGreatDoorRk
import Derived.Test.YtfbokhdimffabaaGreatDoorQj
import Derived.Test.YtfbokhdimffabaaGreatDoorSl
set_option linter.unusedVariables false
set_option linter.unusedSimpArgs false
namespace Go.Proofs.YtfbokhdimffabaaGreatDoor
open Go.ChangeShapes Go.WideShapes Go.ChangeAt Go.RowKit Go.Shelf

/-- A sample's numbers, added to an image's; those of the first ones. -/
def addP (pl : Nat) (u : Int) (p : List Int) : List Int := if (p ++ List.replicate (3 / pl) u).length % 4 = 3 then (p ++ List.replicate (3 / pl) u) ++ [65535] else p ++ List.replicate (3 / pl) u
def upT (k tv v : Nat) : Int := turN k (upN (v : Nat) (tv : Nat))
def pixP (k tv : Nat) (vals : Nat → Nat) : Nat → List Int
  | 0 => []
  | j + 1 => addP (plN k) (upT k tv (vals j)) (pixP k tv vals j)
theorem addP_len (pl : Nat) (u : Int) (p : List Int) : (addP pl u p).length ≤ p.length + 4 := by
  have h3 : 3 / pl ≤ 3 := Nat.div_le_self 3 pl
  unfold addP
  split
  · simp only [List.length_append, List.length_replicate, List.length_singleton]; omega
  · simp only [List.length_append, List.length_replicate]; omega
theorem pixP_len (k tv : Nat) (vals : Nat → Nat) : ∀ j, (pixP k tv vals j).length ≤ 4 * j
  | 0 => Nat.le_refl _
  | j + 1 => by
    have h1 := pixP_len k tv vals j
    have h2 := addP_len (plN k) (upT k tv (vals j)) (pixP k tv vals j)
    rw [pixP]
    omega
/-- A number more at the end of a row of the call's own. -/
theorem append_u1 (base : Nat) (w : World) (v : Value) (n : Nat) (xs : List Int) (h : w.ownsRow base 42 1 v n (usV xs)) (hbase : base ≤ w.heap.size) (x : Int) (hn : n + 1 ≤ 17592186044415) :
    ∃ A' c' w', (Builtin.append_ #[24, 24] 24 #[v, .slice (some ⟨w.heap.size, 0, none⟩) 1 1]).run Tryz.prog (w.alloc (.cells #[.int .u16 x] 42)) = .ok (.slice A' (n + 1) c') w' ∧
      w'.ownsRow base 42 1 (.slice A' (n + 1) c') (n + 1) (usV (xs ++ [x])) ∧ Upd (fun j => some j = v.ownBlock) w w' := by
  obtain ⟨i0, hi, hz0, hz1, hz2⟩ := info_parts info_u16
  have ua := (Upd.refl No w).alloc (.cells #[.int .u16 x] 42)
  obtain ⟨A', c', w', hrun, h2, h3, _⟩ := run_append_vn (P := Tryz.prog) (w.alloc (.cells #[.int .u16 x] 42)) base 24 24 42 i0 _ 1 2 Tryz.underlying24 hi hz0 hz1 hz2 rfl (by omega) v n (usV xs) (own_upd h ua (fun _ _ => id)) (w.heap.size + 1) ⟨w.heap.size, 0, none⟩ 1 1 [.int .u16 x] rfl (vs_lit w 42 [.int .u16 x] (w.heap.size + 1) (Nat.lt_succ_self _)) (by intro u hu; simp at hu; subst hu; rfl) (by unfold maxLen; omega) (by omega) (Nat.le_trans hbase ua.size)
  exact ⟨A', c', w', hrun, by rw [usV_append]; exact h2, (ua.mono (fun _ _ h => absurd h id)).then (Upd.of_grown h3) (fun j _ e => e)⟩
/-- What stands while an image is made: its head's box, the answer's boxes, the numbers. -/
structure ImI (w : World) (sb : Nat) (hd : Array Value) (ib eb pb : Nat) (p : List Int) (V : World) : Prop where
  u : Upd (· = sb) w V
  hk : Blk V w.heap.size 50 hd
  ik : Blk V ib 26 #[.int .i64 0, .int .i64 0, .slice none 0 0]
  ek : Blk V eb 27 #[.int .i64 0]
  pk : ∃ A c, Blk V pb 24 #[.slice A p.length c] ∧ V.ownsRow w.heap.size 42 1 (.slice A p.length c) p.length (usV p)
  lo : w.heap.size < ib ∧ ib < eb ∧ eb < pb
theorem ImI.upd {w V V' : World} {sb ib eb pb : Nat} {hd : Array Value} {p : List Int} {S : Nat → Prop} (h : ImI w sb hd ib eb pb p V) (hsl : sb < w.heap.size) (u : Upd S V V') (hS : ∀ k, S k → k = sb ∨ V.heap.size ≤ k) : ImI w sb hd ib eb pb p V' := by
  obtain ⟨A, c, h1, h2⟩ := h.pk
  have hlo := h.lo
  have n1 : ¬ S w.heap.size := fun e => by have := hS _ e; have := h.hk.lt; omega
  have n2 : ¬ S ib := fun e => by have := hS _ e; have := h.ik.lt; omega
  have n3 : ¬ S eb := fun e => by have := hS _ e; have := h.ek.lt; omega
  have n4 : ¬ S pb := fun e => by have := hS _ e; have := h1.lt; omega
  exact ⟨h.u.then u (fun i hi e => by have := hS _ e; have := h.hk.lt; omega), h.hk.upd u n1, h.ik.upd u n2, h.ek.upd u n3, ⟨A, c, h1.upd u n4, own_upd h2 u (fun k hk e => by have := hS _ e; have := h2.lt k hk; omega)⟩, hlo⟩
theorem ImI.put {w V : World} {sb ib eb pb : Nat} {hd : Array Value} {p : List Int} (h : ImI w sb hd ib eb pb p V) (hsl : sb < w.heap.size) {ll : Nat} {o : Obj} (hll : w.heap.size ≤ ll) (ho : V.heap[ll]? = some o) (hoc : o.isCells = false) (o' : Obj) : ImI w sb hd ib eb pb p (V.putObj ll o') := by
  have u := upd_putObj (S := (· = ll)) V ll o' rfl
  obtain ⟨A, c, h1, h2⟩ := h.pk
  exact ⟨h.u.then u (fun i hi e => by omega), h.hk.upd u (blk_ne_obj h.hk ho hoc), h.ik.upd u (blk_ne_obj h.ik ho hoc), h.ek.upd u (blk_ne_obj h.ek ho hoc), ⟨A, c, h1.upd u (blk_ne_obj h1 ho hoc), own_put h2 ho hoc o'⟩, h.lo⟩
/-- A number more. -/
theorem ImI.add {w V : World} {sb ib eb pb : Nat} {hd : Array Value} {p : List Int} (h : ImI w sb hd ib eb pb p V) (hsl : sb < w.heap.size) (x : Int) (hn : p.length ≤ 1000000) :
    ∃ A c A9 c9 w9, Blk V pb 24 #[.slice A p.length c] ∧ (Builtin.append_ #[24, 24] 24 #[.slice A p.length c, .slice (some ⟨V.heap.size, 0, none⟩) 1 1]).run Tryz.prog (V.alloc (.cells #[.int .u16 x] 42)) = .ok (.slice A9 (p.length + 1) c9) w9 ∧
      Blk w9 pb 24 #[.slice A p.length c] ∧ Blk w9 w.heap.size 50 hd ∧ ImI w sb hd ib eb pb (p ++ [x]) (w9.setCell ⟨pb, 0, none⟩ (.slice A9 (p.length + 1) c9)) ∧ Upd (fun k => w.heap.size ≤ k) V (w9.setCell ⟨pb, 0, none⟩ (.slice A9 (p.length + 1) c9)) ∧ KeepsOthers V (w9.setCell ⟨pb, 0, none⟩ (.slice A9 (p.length + 1) c9)) := by
  obtain ⟨A, c, h1, h2⟩ := h.pk
  have hlo := h.lo
  have hsz : w.heap.size ≤ V.heap.size := h.u.size
  obtain ⟨A9, c9, w9, hrun, o9, u9⟩ := append_u1 w.heap.size V _ _ p h2 hsz x (by omega)
  have hrow : ∀ k, some k = (Value.slice A p.length c).ownBlock → w.heap.size ≤ k := fun k e => (h2.lt k e.symm).1
  have b9 := h1.upd u9 (fun e => own_blk_ne h2 h1 (by decide) e.symm)
  have us : Upd (· = pb) w9 (w9.setCell ⟨pb, 0, none⟩ (.slice A9 (p.length + 1) c9)) := (Upd.refl (· = pb) w9).setCell (fun _ => rfl) _
  have b10 : Blk (w9.setCell ⟨pb, 0, none⟩ (.slice A9 (p.length + 1) c9)) pb 24 #[.slice A9 (p.length + 1) c9] := by simpa using b9.set_ 0 (.slice A9 (p.length + 1) c9)
  have hk9 := (h.hk.upd u9 (fun e => own_blk_ne h2 h.hk (by decide) e.symm)).upd us (by omega)
  have ik9 := (h.ik.upd u9 (fun e => own_blk_ne h2 h.ik (by decide) e.symm)).upd us (by omega)
  have ek9 := (h.ek.upd u9 (fun e => own_blk_ne h2 h.ek (by decide) e.symm)).upd us (by omega)
  have hl1 : (p ++ [x]).length = p.length + 1 := by rw [List.length_append]; rfl
  have u10 : Upd (fun k => w.heap.size ≤ k) V (w9.setCell ⟨pb, 0, none⟩ (.slice A9 (p.length + 1) c9)) := (u9.mono (fun k _ e => hrow k e)).then us (fun i hi e => by omega)
  have hkeep : KeepsOthers V w9 := by
    refine ⟨u9.size, fun k o hk ho => (u9.block k (Array.getElem?_eq_some_iff.1 hk).1 (fun e => ?_)).trans hk⟩
    rcases h2.2 with ⟨e1, _⟩ | ⟨g, c', cu, e1, _, a, _⟩
    · rw [e1] at e; cases e
    · rw [e1] at e
      have e2 : k = g := by simpa [Value.ownBlock] using e
      subst e2
      rw [hk] at a
      injection a with a
      subst a
      cases ho
  exact ⟨A, c, A9, c9, w9, h1, hrun, b9, h.hk.upd u9 (fun e => own_blk_ne h2 h.hk (by decide) e.symm), ⟨h.u.then u10 (fun i hi e => by omega), hk9, ik9, ek9, ⟨A9, c9, by rw [hl1]; exact b10, by rw [hl1]; exact own_upd o9 us (fun k hk e => own_blk_ne o9 b9 (by decide) (by rw [← e]; exact hk))⟩, hlo⟩, u10, hkeep.trans (KeepsOthers.setCell _ _ _)⟩
end Go.Proofs.YtfbokhdimffabaaGreatDoor
