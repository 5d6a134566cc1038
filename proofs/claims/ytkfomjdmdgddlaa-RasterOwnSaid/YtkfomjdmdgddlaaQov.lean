/- Two images' copies put into two boxes, whatever comes first: what holds at each stage. -/
import Derived.Test.YtkfomjdmdgddlaaIv
import Derived.Test.YtkfomjdmdgddlaaQv
namespace Go.Proofs.Ytkfomjdmdgddlaa
open Go.ChangeShapes Go.WideShapes Go.ChangeAt Go.RowKit

/-- An image that was answered: its box, its samples; all of it newer than w2. -/
structure QO (w2 : World) (g : Nat) (A : Option Addr) (c n : Nat) (W H : Int) (L : List Int) (wr : World) : Prop where
  hg : w2.heap.size ≤ g
  im : IB wr g (.int .i64 W) (.int .i64 H) (.slice A n c)
  ow : wr.ownsRow w2.heap.size 28 1 (.slice A n c) n (usV L)
  bel : Below w2.heap.size w2 wr
section
variable {w2 wr w' : World} {g c n : Nat} {A : Option Addr} {W H : Int} {L : List Int}
theorem QO.call (h : QO w2 g A c n W H L wr) (b : Below wr.heap.size wr w') : QO w2 g A c n W H L w' :=
  ⟨h.hg, h.im.call b, own_upd h.ow (Upd.of_fresh b) (fun _ _ => id), h.bel.trans (b.mono h.bel.size)⟩
theorem QO.fresh (ho : wr.ownsRow w2.heap.size 28 1 (.slice A n c) n (usV L)) (hbl : Below w2.heap.size w2 wr) :
    QO w2 wr.heap.size A c n W H L (wr.alloc (.cells #[.int .i64 W, .int .i64 H, .slice A n c] 24)) :=
  ⟨hbl.size, IB.of (Blk.new wr _ _), own_upd ho ((Upd.refl No wr).alloc _) (fun _ _ => id), hbl.alloc hbl.size _⟩
end
/-- Where the stages of 'a, b := own(m), own(p)' stand: operations 1, 3 copy, 4, 5 make the boxes, 6, 7 fill them; v are the slots. -/
structure TwoJ (w2 : World) (x y : Int) (n : Nat) (l : List Int) (x' y' : Int) (n' : Nat) (l' : List Int) (D : Nat → Prop) (v7 v8 v24 v26 : Value) (A1 A2 : Option Addr) (c1 c2 g7 g8 : Nat) (wr : World) : Prop where
  bel : Below w2.heap.size w2 wr
  e1 : D 1 → v24 = imgV x y A1 n c1 ∧ wr.ownsRow w2.heap.size 28 1 (.slice A1 n c1) n (usV l)
  e3 : D 3 → v26 = imgV x' y' A2 n' c2 ∧ wr.ownsRow w2.heap.size 28 1 (.slice A2 n' c2) n' (usV l') ∧ D 1 ∧ ∀ k, A1.map (·.block) = some k → A2.map (·.block) ≠ some k
  e4 : D 4 → v7 = .pointer (some ⟨g7, 0, none⟩) ∧ w2.heap.size ≤ g7 ∧ ∃ a b d, Blk wr g7 24 #[a, b, d] ∧ (D 6 → a = .int .i64 x ∧ b = .int .i64 y ∧ d = .slice A1 n c1)
  e5 : D 5 → v8 = .pointer (some ⟨g8, 0, none⟩) ∧ w2.heap.size ≤ g8 ∧ ∃ a b d, Blk wr g8 24 #[a, b, d] ∧ (D 7 → a = .int .i64 x' ∧ b = .int .i64 y' ∧ d = .slice A2 n' c2)
  ne : D 4 → D 5 → g7 ≠ g8
section
variable {w2 : World} {x y : Int} {n : Nat} {l : List Int} {x' y' : Int} {n' : Nat} {l' : List Int} {D D' : Nat → Prop} {v7 v8 v24 v26 : Value} {A1 A2 : Option Addr} {c1 c2 g7 g8 : Nat} {wr w' : World}
/-- Something was made or written elsewhere, nothing of these stages done. -/
theorem TwoJ.on (h : TwoJ w2 x y n l x' y' n' l' D v7 v8 v24 v26 A1 A2 c1 c2 g7 g8 wr) (hb : Below wr.heap.size wr w') (h1 : D' 1 ↔ D 1) (h3 : D' 3 ↔ D 3) (h4 : D' 4 ↔ D 4) (h5 : D' 5 ↔ D 5) (h6 : D' 6 ↔ D 6) (h7 : D' 7 ↔ D 7) :
    TwoJ w2 x y n l x' y' n' l' D' v7 v8 v24 v26 A1 A2 c1 c2 g7 g8 w' := by
  have u := Upd.of_fresh hb
  refine ⟨h.bel.trans (hb.mono h.bel.size), fun d => ?_, fun d => ?_, fun d => ?_, fun d => ?_, fun d e => h.ne (h4.1 d) (h5.1 e)⟩
  · obtain ⟨q1, q2⟩ := h.e1 (h1.1 d)
    exact ⟨q1, own_upd q2 u (fun _ _ => id)⟩
  · obtain ⟨q1, q2, q3, q4⟩ := h.e3 (h3.1 d)
    exact ⟨q1, own_upd q2 u (fun _ _ => id), h1.2 q3, q4⟩
  · obtain ⟨q1, q2, a, b, d0, q3, q4⟩ := h.e4 (h4.1 d)
    exact ⟨q1, q2, a, b, d0, q3.upd u id, fun k => q4 (h6.1 k)⟩
  · obtain ⟨q1, q2, a, b, d0, q3, q4⟩ := h.e5 (h5.1 d)
    exact ⟨q1, q2, a, b, d0, q3.upd u id, fun k => q4 (h7.1 k)⟩
/-- The first copy. -/
theorem TwoJ.one (h : TwoJ w2 x y n l x' y' n' l' D v7 v8 v24 v26 A1 A2 c1 c2 g7 g8 wr) (hn : ¬ D 1) (hb : Below wr.heap.size wr w') {A : Option Addr} {c : Nat} (ho : w'.ownsRow wr.heap.size 28 1 (.slice A n c) n (usV l)) (h3 : D' 3 ↔ D 3) (h4 : D' 4 ↔ D 4) (h5 : D' 5 ↔ D 5) (h6 : D' 6 ↔ D 6) (h7 : D' 7 ↔ D 7) (hn6 : ¬ D 6) :
    TwoJ w2 x y n l x' y' n' l' D' v7 v8 (imgV x y A n c) v26 A A2 c c2 g7 g8 w' := by
  have u := Upd.of_fresh hb
  refine ⟨h.bel.trans (hb.mono h.bel.size), fun _ => ⟨rfl, own_low ho h.bel.size⟩, fun d => absurd (h.e3 (h3.1 d)).2.2.1 hn, fun d => ?_, fun d => ?_, fun d e => h.ne (h4.1 d) (h5.1 e)⟩
  · obtain ⟨q1, q2, a, b, d0, q3, q4⟩ := h.e4 (h4.1 d)
    exact ⟨q1, q2, a, b, d0, q3.upd u id, fun k => absurd (h6.1 k) hn6⟩
  · obtain ⟨q1, q2, a, b, d0, q3, q4⟩ := h.e5 (h5.1 d)
    exact ⟨q1, q2, a, b, d0, q3.upd u id, fun k => q4 (h7.1 k)⟩
/-- The second copy. -/
theorem TwoJ.two (h : TwoJ w2 x y n l x' y' n' l' D v7 v8 v24 v26 A1 A2 c1 c2 g7 g8 wr) (hy1 : D 1) (hb : Below wr.heap.size wr w') {A : Option Addr} {c : Nat} (ho : w'.ownsRow wr.heap.size 28 1 (.slice A n' c) n' (usV l')) (h1 : D' 1 ↔ D 1) (h4 : D' 4 ↔ D 4) (h5 : D' 5 ↔ D 5) (h6 : D' 6 ↔ D 6) (h7 : D' 7 ↔ D 7) (hn7 : ¬ D 7) :
    TwoJ w2 x y n l x' y' n' l' D' v7 v8 v24 (imgV x' y' A n' c) A1 A c1 c g7 g8 w' := by
  have u := Upd.of_fresh hb
  have hr := h.e1 hy1
  refine ⟨h.bel.trans (hb.mono h.bel.size), fun _ => ⟨hr.1, own_upd hr.2 u (fun _ _ => id)⟩, fun _ => ⟨rfl, own_low ho h.bel.size, h1.2 hy1, fun k hk e => ?_⟩, fun d => ?_, fun d => ?_, fun d e => h.ne (h4.1 d) (h5.1 e)⟩
  · have := (row_lt hr.2 k hk).2
    have := (row_lt ho k e).1
    omega
  · obtain ⟨q1, q2, a, b, d0, q3, q4⟩ := h.e4 (h4.1 d)
    exact ⟨q1, q2, a, b, d0, q3.upd u id, fun k => q4 (h6.1 k)⟩
  · obtain ⟨q1, q2, a, b, d0, q3, q4⟩ := h.e5 (h5.1 d)
    exact ⟨q1, q2, a, b, d0, q3.upd u id, fun k => absurd (h7.1 k) hn7⟩
/-- The first box. -/
theorem TwoJ.box (h : TwoJ w2 x y n l x' y' n' l' D v7 v8 v24 v26 A1 A2 c1 c2 g7 g8 wr) (cs : Array Value) (a b d : Value) (hcs : cs = #[a, b, d]) (h1 : D' 1 ↔ D 1) (h3 : D' 3 ↔ D 3) (h5 : D' 5 ↔ D 5) (h6 : ¬ D' 6) (h7 : D' 7 ↔ D 7) :
    TwoJ w2 x y n l x' y' n' l' D' (.pointer (some ⟨wr.heap.size, 0, none⟩)) v8 v24 v26 A1 A2 c1 c2 wr.heap.size g8 (wr.alloc (.cells cs 24)) := by
  subst hcs
  have u := (Upd.refl No wr).alloc (.cells #[a, b, d] 24)
  refine ⟨h.bel.alloc h.bel.size _, fun d => ?_, fun d => ?_, fun _ => ⟨rfl, h.bel.size, a, b, d, Blk.new wr _ _, fun k => absurd k h6⟩, fun d => ?_, fun _ e => ?_⟩
  · obtain ⟨q1, q2⟩ := h.e1 (h1.1 d)
    exact ⟨q1, own_upd q2 u (fun _ _ => id)⟩
  · obtain ⟨q1, q2, q3, q4⟩ := h.e3 (h3.1 d)
    exact ⟨q1, own_upd q2 u (fun _ _ => id), h1.2 q3, q4⟩
  · obtain ⟨q1, q2, a, b, d0, q3, q4⟩ := h.e5 (h5.1 d)
    exact ⟨q1, q2, a, b, d0, q3.upd u id, fun k => q4 (h7.1 k)⟩
  · obtain ⟨_, _, _, _, _, q3, _⟩ := h.e5 (h5.1 e)
    have := q3.lt
    omega
/-- The second box. -/
theorem TwoJ.box2 (h : TwoJ w2 x y n l x' y' n' l' D v7 v8 v24 v26 A1 A2 c1 c2 g7 g8 wr) (cs : Array Value) (a b d : Value) (hcs : cs = #[a, b, d]) (h1 : D' 1 ↔ D 1) (h3 : D' 3 ↔ D 3) (h4 : D' 4 ↔ D 4) (h7 : ¬ D' 7) (h6 : D' 6 ↔ D 6) :
    TwoJ w2 x y n l x' y' n' l' D' v7 (.pointer (some ⟨wr.heap.size, 0, none⟩)) v24 v26 A1 A2 c1 c2 g7 wr.heap.size (wr.alloc (.cells cs 24)) := by
  subst hcs
  have u := (Upd.refl No wr).alloc (.cells #[a, b, d] 24)
  refine ⟨h.bel.alloc h.bel.size _, fun d => ?_, fun d => ?_, fun d => ?_, fun _ => ⟨rfl, h.bel.size, a, b, d, Blk.new wr _ _, fun k => absurd k h7⟩, fun e _ => ?_⟩
  · obtain ⟨q1, q2⟩ := h.e1 (h1.1 d)
    exact ⟨q1, own_upd q2 u (fun _ _ => id)⟩
  · obtain ⟨q1, q2, q3, q4⟩ := h.e3 (h3.1 d)
    exact ⟨q1, own_upd q2 u (fun _ _ => id), h1.2 q3, q4⟩
  · obtain ⟨q1, q2, a, b, d0, q3, q4⟩ := h.e4 (h4.1 d)
    exact ⟨q1, q2, a, b, d0, q3.upd u id, fun k => q4 (h6.1 k)⟩
  · obtain ⟨_, _, _, _, _, q3, _⟩ := h.e4 (h4.1 e)
    have := q3.lt
    omega
theorem own_img_ne {w : World} {base b n c : Nat} {A : Option Addr} {L : List Int} {cs : Array Value} (h : w.ownsRow base 28 1 (.slice A n c) n (usV L)) (hb : Blk w b 24 cs) : ∀ k, (Value.slice A n c).ownBlock = some k → ¬ k = b := fun k hk e => by
  subst e
  exact own_blk_ne h hb (by decide) hk
/-- The first box is filled. -/
theorem TwoJ.put (h : TwoJ w2 x y n l x' y' n' l' D v7 v8 v24 v26 A1 A2 c1 c2 g7 g8 wr) (hy4 : D 4) (h1 : D' 1 ↔ D 1) (h3 : D' 3 ↔ D 3) (h4 : D' 4 ↔ D 4) (h5 : D' 5 ↔ D 5) (h7 : D' 7 ↔ D 7) :
    TwoJ w2 x y n l x' y' n' l' D' v7 v8 v24 v26 A1 A2 c1 c2 g7 g8 (((wr.setCell ⟨g7, 0, none⟩ (.int .i64 x)).setCell ⟨g7, 1, none⟩ (.int .i64 y)).setCell ⟨g7, 2, none⟩ (.slice A1 n c1)) := by
  obtain ⟨p1, p2, a, b, d0, p3, _⟩ := h.e4 hy4
  have u := set3_upd wr g7 (.int .i64 x) (.int .i64 y) (.slice A1 n c1)
  refine ⟨h.bel.trans (u.below h.bel.size (fun k hk e => by omega)), fun d => ?_, fun d => ?_, fun d => ⟨p1, p2, _, _, _, set3 p3 _ _ _, fun _ => ⟨rfl, rfl, rfl⟩⟩, fun d => ?_, fun d e => h.ne (h4.1 d) (h5.1 e)⟩
  · obtain ⟨q1, q2⟩ := h.e1 (h1.1 d)
    exact ⟨q1, own_upd q2 u (own_img_ne q2 p3)⟩
  · obtain ⟨q1, q2, q3, q4⟩ := h.e3 (h3.1 d)
    exact ⟨q1, own_upd q2 u (own_img_ne q2 p3), h1.2 q3, q4⟩
  · obtain ⟨q1, q2, a, b, d0, q3, q4⟩ := h.e5 (h5.1 d)
    exact ⟨q1, q2, a, b, d0, q3.upd u (fun e => h.ne hy4 (h5.1 d) e.symm), fun k => q4 (h7.1 k)⟩
/-- The second box is filled. -/
theorem TwoJ.put2 (h : TwoJ w2 x y n l x' y' n' l' D v7 v8 v24 v26 A1 A2 c1 c2 g7 g8 wr) (hy5 : D 5) (h1 : D' 1 ↔ D 1) (h3 : D' 3 ↔ D 3) (h4 : D' 4 ↔ D 4) (h5 : D' 5 ↔ D 5) (h6 : D' 6 ↔ D 6) :
    TwoJ w2 x y n l x' y' n' l' D' v7 v8 v24 v26 A1 A2 c1 c2 g7 g8 (((wr.setCell ⟨g8, 0, none⟩ (.int .i64 x')).setCell ⟨g8, 1, none⟩ (.int .i64 y')).setCell ⟨g8, 2, none⟩ (.slice A2 n' c2)) := by
  obtain ⟨p1, p2, a, b, d0, p3, _⟩ := h.e5 hy5
  have u := set3_upd wr g8 (.int .i64 x') (.int .i64 y') (.slice A2 n' c2)
  refine ⟨h.bel.trans (u.below h.bel.size (fun k hk e => by omega)), fun d => ?_, fun d => ?_, fun d => ?_, fun d => ⟨p1, p2, _, _, _, set3 p3 _ _ _, fun _ => ⟨rfl, rfl, rfl⟩⟩, fun d e => h.ne (h4.1 d) (h5.1 e)⟩
  · obtain ⟨q1, q2⟩ := h.e1 (h1.1 d)
    exact ⟨q1, own_upd q2 u (own_img_ne q2 p3)⟩
  · obtain ⟨q1, q2, q3, q4⟩ := h.e3 (h3.1 d)
    exact ⟨q1, own_upd q2 u (own_img_ne q2 p3), h1.2 q3, q4⟩
  · obtain ⟨q1, q2, a, b, d0, q3, q4⟩ := h.e4 (h4.1 d)
    exact ⟨q1, q2, a, b, d0, q3.upd u (fun e => h.ne (h4.1 d) hy5 e), fun k => q4 (h6.1 k)⟩
/-- All is done. -/
theorem TwoJ.end_ (h : TwoJ w2 x y n l x' y' n' l' D v7 v8 v24 v26 A1 A2 c1 c2 g7 g8 wr) (hD : ∀ i, i < 8 → D i) :
    v7 = .pointer (some ⟨g7, 0, none⟩) ∧ v8 = .pointer (some ⟨g8, 0, none⟩) ∧ QO w2 g7 A1 c1 n x y l wr ∧ QO w2 g8 A2 c2 n' x' y' l' wr ∧ g7 ≠ g8 ∧ ∀ k, A1.map (·.block) = some k → A2.map (·.block) ≠ some k := by
  obtain ⟨_, o1⟩ := h.e1 (hD 1 (by omega))
  obtain ⟨_, o2, _, ne⟩ := h.e3 (hD 3 (by omega))
  obtain ⟨p1, p2, a, b, d, p3, p4⟩ := h.e4 (hD 4 (by omega))
  obtain ⟨q1, q2, a', b', d', q3, q4⟩ := h.e5 (hD 5 (by omega))
  obtain ⟨rfl, rfl, rfl⟩ := p4 (hD 6 (by omega))
  obtain ⟨rfl, rfl, rfl⟩ := q4 (hD 7 (by omega))
  exact ⟨p1, q1, ⟨p2, IB.of p3, o1, h.bel⟩, ⟨q2, IB.of q3, o2, h.bel⟩, h.ne (hD 4 (by omega)) (hD 5 (by omega)), ne⟩
end
end Go.Proofs.Ytkfomjdmdgddlaa
