/- Words for laws that range over a grid: three boxes, what a law holds of them, what a round leaves. -/
import Derived.Test.YtfjnlbjlapbilaaGr
namespace Go.Proofs.Ytfjnlbjlapbilaa
open Go.ChangeShapes Go.WideShapes Go.ChangeAt Go.RowKit Go.Shelf

theorem upd_putObj {S : Nat → Prop} (W : World) (l : Nat) (o' : Obj) (hS : S l) : Upd S W (W.putObj l o') := (Upd.of_grown (grownBy_putObj' W l o')).mono (fun k _ e => by injection e with e; subst e; exact hS)
theorem keeps_of_fresh {W W' : World} (h : Below W.heap.size W W') : KeepsOthers W W' := ⟨h.size, fun k _ hk _ => (h.block k (Array.getElem?_eq_some_iff.1 hk).1).trans hk⟩
theorem boxes3 (w : World) (a b c : Array Value) (t u v : TypeId) : Below w.heap.size w (((w.alloc (.cells a t)).alloc (.cells b u)).alloc (.cells c v)) ∧ (((w.alloc (.cells a t)).alloc (.cells b u)).alloc (.cells c v)).heap.size = w.heap.size + 1 + 1 + 1 ∧
    Blk (((w.alloc (.cells a t)).alloc (.cells b u)).alloc (.cells c v)) w.heap.size t a ∧ Blk (((w.alloc (.cells a t)).alloc (.cells b u)).alloc (.cells c v)) (w.heap.size + 1) u b ∧ Blk (((w.alloc (.cells a t)).alloc (.cells b u)).alloc (.cells c v)) (w.heap.size + 1 + 1) v c := by
  have h1 := Blk.new w t a
  have h2 := Blk.new (w.alloc (.cells a t)) u b
  have h3 := Blk.new ((w.alloc (.cells a t)).alloc (.cells b u)) v c
  simp only [World.size_alloc] at h2 h3
  exact ⟨(((Below.refl _ w).alloc (Nat.le_refl _) _).alloc (by simp) _).alloc (by simp; omega) _, by simp, (h1.alloc _).alloc _, h2.alloc _, h3⟩

/-- A row of cells is none of the blocks that are no cells. -/
theorem own_put {V : World} {base : Nat} {e : TypeId} {sz n : Nat} {v : Value} {xs : List Value} (h : V.ownsRow base e sz v n xs) {ll : Nat} {o : Obj} (ho : V.heap[ll]? = some o) (hoc : o.isCells = false) (o' : Obj) : (V.putObj ll o').ownsRow base e sz v n xs := by
  refine own_upd h (upd_putObj (S := (· = ll)) V ll o' rfl) (fun k hk e => ?_)
  subst e
  rcases h.2 with ⟨rfl, _⟩ | ⟨g, c, u, rfl, _, a, _⟩
  · cases hk
  · have e1 : g = k := by simpa [Value.ownBlock] using hk
    subst e1
    rw [ho] at a
    injection a with a
    subst a
    cases hoc
theorem is_part {W : World} {B : Nat} {ad : Addr} {l : List Int} {F P : Nat} (h : Is W B (some ad) l) (hF : F + P ≤ l.length) : Is W B (some (ad.add F)) ((l.drop F).take P) := by
  have h1 := Vs.drop h (k := F) (cap := F + l.length + 1) (by rw [intsV_length]; omega) (by rw [intsV_length]; omega)
  rw [if_neg (by omega)] at h1
  have h2 := h1.take P
  rw [intsV_part] at h2
  exact h2
/-- Where the k-th row begins and ends, as the statements reckon it. -/
theorem row_arith {k X Y n : Nat} (hk : k < Y) (h : X * Y = n) (hn : n ≤ 65536) (h1 : 1 ≤ X) (h2 : Y ≤ 4096) : ∃ F G : Nat, k * X = F ∧ wrap64 ((k : Int) * (X : Int)) = (F : Int) ∧ wrap64 ((k : Int) + 1) = ((k + 1 : Nat) : Int) ∧ wrap64 (((k + 1 : Nat) : Int) * (X : Int)) = (G : Int) ∧ F < G ∧ G ≤ n ∧ G - F = X ∧ F + X ≤ n := by
  have hpl := place_lt (W := X) (H := Y) (n := X) (X := 0) (by omega) hk
  rw [h, Nat.add_zero] at hpl
  refine ⟨k * X, k * X + X, rfl, ?_, ?_, ?_, by omega, hpl, Nat.add_sub_cancel_left _ _, hpl⟩
  · rw [← Int.natCast_mul]
    generalize k * X = F at *
    exact IntWalk.wrap64_in _ (by omega)
  · rw [show ((k : Int) + 1) = ((k + 1 : Nat) : Int) by simp]
    exact IntWalk.wrap64_in _ (by omega)
  · rw [← Int.natCast_mul, Nat.add_mul, Nat.one_mul]
    generalize k * X + X = G at *
    exact IntWalk.wrap64_in _ (by omega)
/-- A round has counted on. -/
theorem round_end {w5 V wr : World} {nb r' : Nat} {t : TypeId} {v : Value} (hb : Blk V nb t #[v]) (hu : Upd (· = nb) w5 V) (h2 : Upd (fun i => i = r' ∨ V.heap.size ≤ i) V wr) (hr : w5.heap.size ≤ r') (hn : nb < w5.heap.size) (v' : Value) :
    Blk (wr.setCell ⟨nb, 0, none⟩ v') nb t #[v'] ∧ Upd (· = nb) w5 (wr.setCell ⟨nb, 0, none⟩ v') := by
  have hs := hu.size
  have hlt := hb.lt
  have hbw := hb.upd h2 (by rintro (h | h) <;> omega)
  exact ⟨by simpa using hbw.set_ 0 v', (hu.then h2 (fun i hi h => by omega)).then (set1_upd wr nb 0 v') (fun i _ h => h)⟩
/-- What a law that ranges holds: its boxed argument, the box of its second argument, the box of its answer. -/
structure LSt (w W : World) (x y : Int) (A : Option Addr) (c n : Nat) (l : List Int) (s : Int) (b : Bool) : Prop where
  cst : CSt w W x y A c n l
  stp : Blk W (w.heap.size + 1) 3 #[.int .i64 s]
  res : Blk W (w.heap.size + 1 + 1) 4 #[.bool b]
section
variable {w W W' : World} {x y : Int} {A : Option Addr} {c n : Nat} {l : List Int} {s : Int} {b : Bool}
theorem LSt.new (h : Is w w.heap.size A l) : LSt w (((w.alloc (.cells #[.int .i64 x, .int .i64 y, .slice A n c] 24)).alloc (.cells #[.int .i64 s] 3)).alloc (.cells #[.bool false] 4)) x y A c n l s false := by
  obtain ⟨h1, _, h3, h4, h5⟩ := boxes3 w #[.int .i64 x, .int .i64 y, .slice A n c] #[.int .i64 s] #[.bool false] 24 3 4
  exact ⟨⟨h3, h1, Vs.below h h1⟩, h4, h5⟩
theorem LSt.lt (h : LSt w W x y A c n l s b) : w.heap.size + 1 + 1 < W.heap.size := h.res.lt
theorem LSt.upd {S : Nat → Prop} (h : LSt w W x y A c n l s b) (u : Upd S W W') (hS : ∀ k, k ≤ w.heap.size + 1 + 1 → ¬ S k) : LSt w W' x y A c n l s b :=
  ⟨h.cst.upd u (fun k hk => hS k (by omega)), h.stp.upd u (hS _ (by omega)), h.res.upd u (hS _ (Nat.le_refl _))⟩
theorem LSt.next (h : LSt w W x y A c n l s b) (hb : Below W.heap.size W W') : LSt w W' x y A c n l s b := h.upd (Upd.of_fresh hb) (fun _ _ => id)
theorem LSt.cs (h : LSt w W x y A c n l s b) : W.cell? ⟨w.heap.size + 1, 0, none⟩ = some (.int .i64 s) := by rw [h.stp.cell]; rfl
theorem LSt.cr (h : LSt w W x y A c n l s b) : W.cell? ⟨w.heap.size + 1 + 1, 0, none⟩ = some (.bool b) := by rw [h.res.cell]; rfl
theorem LSt.fr (h : LSt w W x y A c n l s b) : W.frozen? ⟨w.heap.size + 1 + 1, 0, none⟩ = false := h.res.frozen 0
/-- The answer is stored. -/
theorem LSt.say (h : LSt w W x y A c n l s b) (b' : Bool) : LSt w (W.setCell ⟨w.heap.size + 1 + 1, 0, none⟩ (.bool b')) x y A c n l s b' := by
  have u := set1_upd W (w.heap.size + 1 + 1) 0 (.bool b')
  exact ⟨h.cst.upd u (fun k hk e => by omega), h.stp.upd u (fun e => by omega), by simpa using h.res.set_ 0 (.bool b')⟩
end
end Go.Proofs.Ytfjnlbjlapbilaa
