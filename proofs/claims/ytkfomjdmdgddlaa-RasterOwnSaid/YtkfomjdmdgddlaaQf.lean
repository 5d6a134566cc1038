/- Pixels: a run of a row, a pixel of it; the pixel at a place, the program's way and the document's. -/
import Derived.Test.YtkfomjdmdgddlaaQe
namespace Go.Proofs.Ytkfomjdmdgddlaa
open Go.ChangeShapes Go.WideShapes Go.ChangeAt Go.RowKit

/-- Samples from a place in a block on. -/
def Smp (w : World) (r o : Nat) (l : List Int) : Prop := ∀ (j : Nat) (hj : j < l.length), w.cell? ⟨r, o + j, none⟩ = some (.int .u16 l[j])
theorem Us.smp {w : World} {B : Nat} {A : Option Addr} {l : List Int} (h : Us w B A l) (hn : 0 < l.length) : ∃ r o, A = some ⟨r, o, none⟩ ∧ r < B ∧ Smp w r o l := by
  obtain ⟨⟨b, off, spot⟩, rfl, hb, hc⟩ := h (by rw [usV_length]; exact hn)
  have h0 := hc 0 (by rw [usV_length]; exact hn)
  have hspot : spot = none := by
    have := World.cell?_spot h0
    simpa [Addr.add] using this
  subst hspot
  refine ⟨b, off, rfl, hb, fun j hj => ?_⟩
  have := hc j (by rw [usV_length]; exact hj)
  rwa [add_off, usV_get] at this
theorem Smp.us {w : World} {B r o : Nat} {l : List Int} (h : Smp w r o l) (hr : r < B) : Us w B (some ⟨r, o, none⟩) l := fun hn => by
  refine ⟨_, rfl, hr, fun j hj => ?_⟩
  rw [add_off, usV_get]
  exact h j _
theorem Smp.keep {w w' : World} {r o : Nat} {l : List Int} (h : Smp w r o l) (hk : w'.heap[r]? = w.heap[r]?) : Smp w' r o l := fun j hj => (World.cell?_of_block hk).trans (h j hj)
theorem Smp.below {w w' : World} {B r o : Nat} {l : List Int} (h : Smp w r o l) (hb : Below B w w') (hr : r < B) : Smp w' r o l := h.keep (hb.block r hr)
theorem Smp.part {w : World} {r o : Nat} {l : List Int} (h : Smp w r o l) (F n : Nat) : Smp w r (o + F) ((l.drop F).take n) := fun j hj => by
  rw [List.length_take, List.length_drop] at hj
  have := h (F + j) (by omega)
  rw [Nat.add_assoc, this]
  simp
theorem Smp.of_own {w : World} {base g n c : Nat} {e : TypeId} {l : List Int} (h : w.ownsRow base e 1 (.slice (some ⟨g, 0, none⟩) n c) n (usV l)) : Smp w g 0 l := fun j hj => by
  rw [Nat.zero_add]; exact urow_at h j hj
/-- The pixel that begins at sample k. -/
def pxAt (l : List Int) (k : Nat) : Col := ⟨l.getD k 0, l.getD (k + 1) 0, l.getD (k + 2) 0, l.getD (k + 3) 0⟩
theorem Smp.px {w : World} {r o : Nat} {l : List Int} (h : Smp w r o l) {k : Nat} (hk : k + 4 ≤ l.length) :
    w.cell? ⟨r, o + k, none⟩ = some (.int .u16 (pxAt l k).r) ∧ w.cell? ⟨r, o + k + 1, none⟩ = some (.int .u16 (pxAt l k).g) ∧ w.cell? ⟨r, o + k + 2, none⟩ = some (.int .u16 (pxAt l k).b) ∧ w.cell? ⟨r, o + k + 3, none⟩ = some (.int .u16 (pxAt l k).a) := by
  have q : ∀ i, k + i < l.length → w.cell? ⟨r, o + (k + i), none⟩ = some (.int .u16 (l.getD (k + i) 0)) := fun i hi => by
    rw [h _ hi]; simp [List.getD, hi]
  have q0 := q 0 (by omega); have q1 := q 1 (by omega); have q2 := q 2 (by omega); have q3 := q 3 (by omega)
  simp only [← Nat.add_assoc, Nat.add_zero] at q0 q1 q2 q3
  exact ⟨q0, q1, q2, q3⟩
theorem set4 {w : World} {g : Nat} {t : TypeId} {a b c d : Value} (h : Blk w g t #[a, b, c, d]) (x y z u : Value) : Blk ((((w.setCell ⟨g, 0, none⟩ x).setCell ⟨g, 1, none⟩ y).setCell ⟨g, 2, none⟩ z).setCell ⟨g, 3, none⟩ u) g t #[x, y, z, u] := by
  simpa using (((h.set_ 0 x).set_ 1 y).set_ 2 z).set_ 3 u
theorem set4_upd (w : World) (g : Nat) (x y z u : Value) : Upd (· = g) w ((((w.setCell ⟨g, 0, none⟩ x).setCell ⟨g, 1, none⟩ y).setCell ⟨g, 2, none⟩ z).setCell ⟨g, 3, none⟩ u) :=
  ((((Upd.refl (· = g) w).setCell (p := ⟨g, 0, none⟩) (fun _ => rfl) _).setCell (p := ⟨g, 1, none⟩) (fun _ => rfl) _).setCell (p := ⟨g, 2, none⟩) (fun _ => rfl) _).setCell (p := ⟨g, 3, none⟩) (fun _ => rfl) _
/-- A colour's box, and what it holds. -/
structure CB (w : World) (g : Nat) (x : Col) : Prop where
  blk : Blk w g 30 #[.int .u16 x.r, .int .u16 x.g, .int .u16 x.b, .int .u16 x.a]
  c0 : w.cell? ⟨g, 0, none⟩ = some (.int .u16 x.r)
  c1 : w.cell? ⟨g, 1, none⟩ = some (.int .u16 x.g)
  c2 : w.cell? ⟨g, 2, none⟩ = some (.int .u16 x.b)
  c3 : w.cell? ⟨g, 3, none⟩ = some (.int .u16 x.a)
  f0 : w.frozen? ⟨g, 0, none⟩ = false
  f1 : w.frozen? ⟨g, 1, none⟩ = false
  f2 : w.frozen? ⟨g, 2, none⟩ = false
  f3 : w.frozen? ⟨g, 3, none⟩ = false
theorem CB.of {w : World} {g : Nat} {x : Col} (h : Blk w g 30 #[.int .u16 x.r, .int .u16 x.g, .int .u16 x.b, .int .u16 x.a]) : CB w g x :=
  ⟨h, by rw [h.cell]; rfl, by rw [h.cell]; rfl, by rw [h.cell]; rfl, by rw [h.cell]; rfl, h.frozen 0, h.frozen 1, h.frozen 2, h.frozen 3⟩
def col0 : Col := ⟨0, 0, 0, 0⟩
theorem newCol (w : World) : ∃ W1, w.alloc (.cells #[.int .u16 0, .int .u16 0, .int .u16 0, .int .u16 0] 30) = W1 ∧ CB W1 w.heap.size col0 ∧ Below w.heap.size w W1 :=
  ⟨_, rfl, CB.of (Blk.new w 30 _), (Below.refl w.heap.size w).alloc (Nat.le_refl _) _⟩
set_option maxRecDepth 100000 in
set_option maxHeartbeats 1000000 in
theorem color_any (r o n c : Nat) (x : Col) (h4 : 4 ≤ n) (w : World) (h0 : w.cell? ⟨r, o, none⟩ = some (.int .u16 x.r)) (h1 : w.cell? ⟨r, o + 1, none⟩ = some (.int .u16 x.g)) (h2 : w.cell? ⟨r, o + 2, none⟩ = some (.int .u16 x.b)) (h3 : w.cell? ⟨r, o + 3, none⟩ = some (.int .u16 x.a)) :
    Calls Try.prog 36 #[.slice (some ⟨r, o, none⟩) n c] w fun e w' => e = .returned (colV x) ∧ Below w.heap.size w w' := by
  have hr : r < w.heap.size := block_lt_of_cell h0
  obtain ⟨W1, hW1, hz, hb⟩ := newCol w
  have c0 := (hb.cell (p := ⟨r, o, none⟩) hr).trans h0
  have c1 := (hb.cell (p := ⟨r, o + 1, none⟩) hr).trans h1
  have c2 := (hb.cell (p := ⟨r, o + 2, none⟩) hr).trans h2
  have c3 := (hb.cell (p := ⟨r, o + 3, none⟩) hr).trans h3
  obtain ⟨b0, d0, d1, d2, d3, f0, f1, f2, f3⟩ := hz
  have hz9 := CB.of (x := x) (set4 b0 (.int .u16 x.r) (.int .u16 x.g) (.int .u16 x.b) (.int .u16 x.a))
  have hu9 := set4_upd W1 w.heap.size (.int .u16 x.r) (.int .u16 x.g) (.int .u16 x.b) (.int .u16 x.a)
  have HB := Lib.hid (hb.trans (hu9.below (by have := hb.size; omega) (fun k hk e => by omega)))
  have HW1 := Lib.hid hW1
  have HZ9 := Lib.hid hz9
  clear hW1 hz9 hu9 b0 hb h0 h1 h2 h3 hr
  have i0 : (0 : Int) < (n : Int) := by omega
  have i1 : (1 : Int) < (n : Int) := by omega
  have i2 : (2 : Int) < (n : Int) := by omega
  have i3 : (3 : Int) < (n : Int) := by omega
  go_enter Try.func36, Try.ntmps36
  go_upto_region 1 with (fail)
  rw [HW1.out]
  clear HW1
  refine wp_region_tail 13 (by kernel_rfl) (by kernel_rfl) ?_
  simp only [List.take_succ_cons, List.take_zero, List.drop_succ_cons, List.drop_zero]
  repeat (go_big_quiet_step (fail))
  refine wpQuiet_nil ?_
  have g0 : W1.drew.frozen? ⟨w.heap.size, 0, none⟩ = false := f0
  go_wp2_with fail
  have n0 := HZ9.out.c0; have n1 := HZ9.out.c1; have n2 := HZ9.out.c2; have n3 := HZ9.out.c3
  refine bodyPost_ret (v := colV x) (by simp [results, Try.results36, go_sem, n0, n1, n2, n3]) rfl ?_
  exact ⟨rfl, HB.out.drew⟩
end Go.Proofs.Ytkfomjdmdgddlaa
