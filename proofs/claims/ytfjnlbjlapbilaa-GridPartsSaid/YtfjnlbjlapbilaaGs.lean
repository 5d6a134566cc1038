/- A grid that is the document's: same answers true. -/
import Derived.Test.YtfjnlbjlapbilaaGg
namespace Go.Proofs.Ytfjnlbjlapbilaa
open Go.ChangeShapes Go.WideShapes Go.ChangeAt Go.RowKit

theorem sameInts_true (A1 A2 : Option Addr) (n c1 c2 : Nat) (l : List Int) (hn : l.length = n) (B : Nat) (w : World) (h1 : Is w B A1 l) (h2 : Is w B A2 l) (hl : n ≤ maxLen) :
    Calls Try.prog 22 #[.slice A1 n c1, .slice A2 n c2] w fun e w' => e = .returned (.bool true) ∧ Below w.heap.size w w' := by
  refine (sameInts_n A1 A2 n n c1 c2 l l hn hn B w h1 h2 hl).mono ?_
  rintro e w' ⟨rfl, m, rfl⟩
  exact ⟨ret_bl (by simp), below_drewN (Below.refl _ _) m⟩

theorem GridAt.drew {w : World} {base : Nat} {tg e : TypeId} {g r c W H : Nat} {xs : List Value} (h : GridAt w base tg e g r c W H xs) : GridAt w.drew base tg e g r c W H xs := h.upd (Upd.refl No w).drew id id
set_option maxRecDepth 100000 in
set_option maxHeartbeats 2000000 in
theorem same_true {w : World} {base g r c W H : Nat} {l : List Int} (h : GridAt w base 87 3 g r c W H (intsV l)) (A : Option Addr) (cw N : Nat) (hN : W * H = N) (B : Nat) (hw : Is w B A l) (hB : B ≤ w.heap.size) (x y : Int) (hx : x = W) (hy : y = H) :
    Calls Try.prog 14 #[.pointer (some ⟨g, 0, none⟩), .agg #[.int .i64 x, .int .i64 y, .slice A N cw]] w fun e w' => e = .returned (.bool true) ∧ Below w.heap.size w w' := by
  subst hx hy
  have hlen := h.len
  rw [intsV_length, hN] at hlen
  have hfew := h.few
  rw [hN] at hfew
  go_enter Try.func14, Try.ntmps14
  go_wp2_with fail
  have hb0 := Blk.new w 27 #[.int .i64 (W : Int), .int .i64 (H : Int), .slice A N cw]
  have hbw := (Below.refl w.heap.size w).alloc (Nat.le_refl _) (.cells #[.int .i64 (W : Int), .int .i64 (H : Int), .slice A N cw] 27)
  have hs0 : (w.alloc (.cells #[.int .i64 (W : Int), .int .i64 (H : Int), .slice A N cw] 27)).heap.size = w.heap.size + 1 := by simp
  have HG0 := Lib.hid (h.below hbw)
  have HW0 := Lib.hid (Vs.below hw (hbw.mono hB))
  generalize w.alloc (.cells #[.int .i64 (W : Int), .int .i64 (H : Int), .slice A N cw] 27) = W0 at *
  have k0 : W0.cell? ⟨w.heap.size, 0, none⟩ = some (.int .i64 (W : Int)) := by rw [hb0.cell]; rfl
  have k1 : W0.cell? ⟨w.heap.size, 1, none⟩ = some (.int .i64 (H : Int)) := by rw [hb0.cell]; rfl
  have k2 : W0.cell? ⟨w.heap.size, 2, none⟩ = some (.slice A N cw) := by rw [hb0.cell]; rfl
  have HB0 := Lib.hid hb0
  have HBW := Lib.hid hbw
  have hN0 : 0 < N := by rw [← hN]; exact h.pos
  clear hb0 hbw h hw
  have hu : ∀ u ∈ intsV l, u.oneCell' = true := intsV_one l
  have HUV := Lib.hid hu
  clear hu
  go_region_held3 (fun w' => w'.cell? ⟨w.heap.size, 0, none⟩ = some (.int .i64 (W : Int)) ∧ w'.cell? ⟨w.heap.size, 1, none⟩ = some (.int .i64 (H : Int)) ∧ w'.cell? ⟨w.heap.size, 2, none⟩ = some (.slice A N cw))
    (go_keep)
    ((first
      | (go_at_call 43; refine (w_any (by first | exact HG0.out | exact HG0.out.drew)).mono ?_; rintro e w1 ⟨rfl, rfl⟩)
      | (go_at_call 44; refine (h_any (by first | exact HG0.out | exact HG0.out.drew)).mono ?_; rintro e w1 ⟨rfl, rfl⟩)
      | (go_at_call 38; refine (cells_any (by first | exact HG0.out | exact HG0.out.drew) HUV.out).mono ?_; rintro e w2 ⟨r2, c2, rfl, o2, hb2⟩; have hbb : Below W0.heap.size W0 w2 := (by first | exact of_drew hb2 | exact hb2); have hx2 := blk3 HB0.out hbb; have k20 := hx2.2.1; have k21 := hx2.2.2.1; have k22 := hx2.2.2.2; have HB2 := Lib.hid hx2.1; have HV2 := Lib.hid (Vs.of_own o2); have HW2 := Lib.hid ((Vs.below HW0.out (hbb.mono (show B ≤ W0.heap.size by omega))).more (show B ≤ w2.heap.size by have := hbb.size; omega)); have HBB := Lib.hid hbb; rw [hN]; clear hx2 o2 hb2 hbb)
      | (go_at_call 22; refine (sameInts_true _ _ N _ _ l hlen w2.heap.size _ (by exact HV2.out) (by exact HW2.out) (by unfold maxLen; omega)).mono ?_; rintro e w3 ⟨rfl, hb3⟩; have hb4 : Below w2.heap.size w2 w3 := (by first | exact of_drew hb3 | exact hb3); have hx3 := blk3 HB2.out hb4; have k30 := hx3.2.1; have k31 := hx3.2.2.1; have k32 := hx3.2.2.2; have HB3 := Lib.hid hb4; clear hx3 hb3 hb4)))
  have hs1 := HBW.out.size
  have hs2 := HBB.out.size
  have hbf : Below w.heap.size w w3 := (HBW.out.trans (HBB.out.mono hs1)).trans (HB3.out.mono (by omega))
  go_wp2_with fail
  go_ret
  exact ⟨rfl, hbf⟩

/-- What a law holds of its boxed argument. -/
structure CSt (w W : World) (x y : Int) (A : Option Addr) (c n : Nat) (l : List Int) : Prop where
  blk : Blk W w.heap.size 24 #[.int .i64 x, .int .i64 y, .slice A n c]
  bel : Below w.heap.size w W
  is_ : Is W w.heap.size A l
section
variable {w W W' : World} {x y : Int} {A : Option Addr} {c n : Nat} {l : List Int}
theorem CSt.new (h : Is w w.heap.size A l) : CSt w (w.alloc (.cells #[.int .i64 x, .int .i64 y, .slice A n c] 24)) x y A c n l :=
  ⟨Blk.new w _ _, (Below.refl _ w).alloc (Nat.le_refl _) _, Vs.alloc h (Nat.le_refl _) _⟩
theorem CSt.next (h : CSt w W x y A c n l) (hb : Below W.heap.size W W') : CSt w W' x y A c n l :=
  ⟨h.blk.upd (Upd.of_fresh hb) id, h.bel.trans (hb.mono h.bel.size), Vs.below h.is_ (hb.mono h.bel.size)⟩
theorem CSt.drew (h : CSt w W x y A c n l) : CSt w W.drew x y A c n l := h.next (Below.refl _ W).drew
theorem CSt.c0 (h : CSt w W x y A c n l) : W.cell? ⟨w.heap.size, 0, none⟩ = some (.int .i64 x) := by rw [h.blk.cell]; rfl
theorem CSt.c1 (h : CSt w W x y A c n l) : W.cell? ⟨w.heap.size, 1, none⟩ = some (.int .i64 y) := by rw [h.blk.cell]; rfl
theorem CSt.c2 (h : CSt w W x y A c n l) : W.cell? ⟨w.heap.size, 2, none⟩ = some (.slice A n c) := by rw [h.blk.cell]; rfl
theorem CSt.lt (h : CSt w W x y A c n l) : w.heap.size < W.heap.size := h.blk.lt
end

theorem CSt.upd {w W W' : World} {x y : Int} {A : Option Addr} {c n : Nat} {l : List Int} {S : Nat → Prop} (h : CSt w W x y A c n l) (u : Upd S W W') (hS : ∀ k, k ≤ w.heap.size → ¬ S k) : CSt w W' x y A c n l := by
  have hb : Below w.heap.size W W' := u.below h.bel.size (fun k hk => hS k (by omega))
  exact ⟨h.blk.upd u (hS _ (Nat.le_refl _)), h.bel.trans hb, Vs.below h.is_ hb⟩
theorem GridAt.set {w : World} {base : Nat} {tg : TypeId} {g r c W H : Nat} {l : List Int} (h : GridAt w base tg 3 g r c W H (intsV l)) (hne : r ≠ g) (k : Nat) (v : Int) : GridAt (w.setCell ⟨r, k, none⟩ (.int .i64 v)) base tg 3 g r c W H (intsV (l.set k v)) :=
  ⟨h.blk.upd ((Upd.refl (· = r) w).setCell (p := ⟨r, k, none⟩) (fun _ => rfl) _) (fun e => hne e.symm), row_set h.row k v, h.fresh, h.w1, h.w2, h.h1, h.h2, h.few⟩
theorem set1_upd (w : World) (g k : Nat) (v : Value) : Upd (· = g) w (w.setCell ⟨g, k, none⟩ v) := (Upd.refl (· = g) w).setCell (p := ⟨g, k, none⟩) (fun _ => rfl) v
/-- The place of a cell, as the statements reckon it. -/
theorem place_arith {X Y P Q : Nat} (hP : P < X) (hQ : Q < Y) (hf : X * Y ≤ 65536) : wrap64 ((Q : Int) * (X : Int)) = ((Q * X : Nat) : Int) ∧ wrap64 (((Q * X : Nat) : Int) + (P : Int)) = ((Q * X + P : Nat) : Int) := by
  obtain ⟨h1, h2, _⟩ := run_arith (n := 1) (X := P) (W := X) (H := Y) (by omega) hQ hf
  exact ⟨h1, h2⟩
theorem ofErr_iff (x y : Int) (n : Nat) : ofErr x y n = 0 ↔ Good x y n := by
  unfold ofErr Good
  by_cases h1 : mayB x y = false
  · simp [h1]
  · by_cases h2 : (n : Int) = x * y <;> simp [h1, h2]
end Go.Proofs.Ytfjnlbjlapbilaa
