/- Joined texts (a claim has at most 60 files): Qe Qf Tma. -/
import Derived.Test.YtfbokhdimffabaaGreatDoorAr
import Derived.Deep.AppendLies
import Derived.WalkKit
/- Colours in memory: a list of colours, rows of colours (words of wip/tones, for seats without tones). -/
namespace Go.Proofs.YtfbokhdimffabaaGreatDoor
open Go.ChangeShapes Go.WideShapes Go.ChangeAt Go.RowKit

/-- A colour: red, green, blue, alpha. -/
structure Col where
  r : Int
  g : Int
  b : Int
  a : Int
theorem Col.ext_ {x y : Col} (h1 : x.r = y.r) (h2 : x.g = y.g) (h3 : x.b = y.b) (h4 : x.a = y.a) : x = y := by
  cases x; cases y; simp_all
instance : DecidableEq Col := fun x y => decidable_of_iff (x.r = y.r ∧ x.g = y.g ∧ x.b = y.b ∧ x.a = y.a) ⟨fun ⟨h1, h2, h3, h4⟩ => Col.ext_ h1 h2 h3 h4, fun e => by subst e; exact ⟨rfl, rfl, rfl, rfl⟩⟩
/-- The slice value '.slice A l.length c' reads as these colours, below block B. -/
def Cs (w : World) (B : Nat) (A : Option Addr) (l : List Col) : Prop :=
  0 < l.length → ∃ b off, A = some ⟨b, off, none⟩ ∧ b < B ∧ ∀ (j : Nat) (hj : j < l.length),
    w.cell? ⟨b, off + j * 4, none⟩ = some (.int .u16 l[j].r) ∧ w.cell? ⟨b, off + j * 4 + 1, none⟩ = some (.int .u16 l[j].g) ∧ w.cell? ⟨b, off + j * 4 + 2, none⟩ = some (.int .u16 l[j].b) ∧ w.cell? ⟨b, off + j * 4 + 3, none⟩ = some (.int .u16 l[j].a)
section
variable {w w' : World} {B B' : Nat} {A : Option Addr} {l : List Col}
theorem Cs.at_ {k : Nat} (h : Cs w B A l) (hk : k < l.length) : ∃ b off, A = some ⟨b, off, none⟩ ∧ b < B ∧ w.cell? ⟨b, off + k * 4, none⟩ = some (.int .u16 l[k].r) ∧ w.cell? ⟨b, off + k * 4 + 1, none⟩ = some (.int .u16 l[k].g) ∧ w.cell? ⟨b, off + k * 4 + 2, none⟩ = some (.int .u16 l[k].b) ∧ w.cell? ⟨b, off + k * 4 + 3, none⟩ = some (.int .u16 l[k].a) := by
  obtain ⟨b, off, e, hb, hc⟩ := h (by omega)
  exact ⟨b, off, e, hb, hc k hk⟩
theorem Cs.keep (h : Cs w B A l) (hk : ∀ p : Addr, p.block < B → w'.cell? p = w.cell? p) : Cs w' B A l := fun hn => by
  obtain ⟨b, off, e, hb, hc⟩ := h hn
  refine ⟨b, off, e, hb, fun j hj => ?_⟩
  obtain ⟨c0, c1, c2, c3⟩ := hc j hj
  exact ⟨(hk _ hb).trans c0, (hk _ hb).trans c1, (hk _ hb).trans c2, (hk _ hb).trans c3⟩
theorem Cs.more (h : Cs w B A l) (hB : B ≤ B') : Cs w B' A l := fun hn => by
  obtain ⟨b, off, e, hb, hc⟩ := h hn
  exact ⟨b, off, e, by omega, hc⟩
theorem Cs.below (h : Cs w B A l) (hb : Below B w w') : Cs w' B A l := h.keep fun _ hp => hb.cell hp
theorem Cs.nil_ : Cs w B A [] := fun h => absurd h (by simp)
end
def colL (c : Col) : List Value := [.int .u16 c.r, .int .u16 c.g, .int .u16 c.b, .int .u16 c.a]
def colsV : List Col → List Value
  | [] => []
  | c :: r => colL c ++ colsV r
theorem colsV_length (l : List Col) : (colsV l).length = l.length * 4 := by
  induction l with
  | nil => rfl
  | cons x r ih => simp [colsV, colL, ih]; omega
theorem colsV_append (a b : List Col) : colsV (a ++ b) = colsV a ++ colsV b := by
  induction a with
  | nil => rfl
  | cons x r ih => simp [colsV, ih]
theorem colsV_get (l : List Col) (k : Nat) (h : k < l.length) : (colsV l)[k * 4]? = some (.int .u16 l[k].r) ∧ (colsV l)[k * 4 + 1]? = some (.int .u16 l[k].g) ∧ (colsV l)[k * 4 + 2]? = some (.int .u16 l[k].b) ∧ (colsV l)[k * 4 + 3]? = some (.int .u16 l[k].a) := by
  induction l generalizing k with
  | nil => simp at h
  | cons x r ih =>
    cases k with
    | zero => exact ⟨rfl, rfl, rfl, rfl⟩
    | succ k =>
      have := ih k (by simpa using h)
      rw [show (k + 1) * 4 = k * 4 + 1 + 1 + 1 + 1 by omega]
      exact this
theorem colsV_one (l : List Col) : ∀ u ∈ colsV l, u.oneCell' = true := by
  induction l with
  | nil => intro u hu; cases hu
  | cons x r ih =>
    intro u hu
    simp only [colsV, colL, List.cons_append, List.nil_append, List.mem_cons] at hu
    rcases hu with rfl | rfl | rfl | rfl | hu
    · rfl
    · rfl
    · rfl
    · rfl
    · exact ih u hu
theorem Cs.vs {w : World} {B : Nat} {A : Option Addr} {l : List Col} (h : Cs w B A l) : Vs w B A (colsV l) := fun hn => by
  rw [colsV_length] at hn
  obtain ⟨b, off, e, hb, hc⟩ := h (by omega)
  refine ⟨_, e, hb, fun j hj => ?_⟩
  have hj' := hj
  rw [colsV_length] at hj'
  obtain ⟨c0, c1, c2, c3⟩ := hc (j / 4) (by omega)
  obtain ⟨g0, g1, g2, g3⟩ := colsV_get l (j / 4) (by omega)
  rw [add_off]
  have hm : j = j / 4 * 4 ∨ j = j / 4 * 4 + 1 ∨ j = j / 4 * 4 + 2 ∨ j = j / 4 * 4 + 3 := by omega
  have fin : ∀ {i : Nat} {v : Value}, j = i → (colsV l)[i]? = some v → w.cell? ⟨b, off + i, none⟩ = some v → w.cell? ⟨b, off + j, none⟩ = some (colsV l)[j] := by
    intro i v e h1 h2
    subst e
    rw [h2, ← h1, List.getElem?_eq_getElem hj]
  rcases hm with h | h | h | h
  · exact fin h g0 c0
  · exact fin h g1 (by rw [← Nat.add_assoc]; exact c1)
  · exact fin h g2 (by rw [← Nat.add_assoc]; exact c2)
  · exact fin h g3 (by rw [← Nat.add_assoc]; exact c3)
/-- A row of the call's own that isn't empty. -/
theorem crow_form {w : World} {base : Nat} {e : TypeId} {A : Option Addr} {n c : Nat} {xs : List Value} (h : w.ownsRow base e 4 (.slice A n c) n xs) (hn : 0 < n) : ∃ g, A = some ⟨g, 0, none⟩ ∧ n ≤ c ∧ c ≤ maxLen ∧ base ≤ g ∧ g < w.heap.size := by
  have hc : n ≤ c ∧ c ≤ maxLen := by
    rcases h.2 with ⟨h1, rfl⟩ | ⟨g, cap, cur, h1, _, _, h2, h3, _⟩
    · omega
    · injection h1 with _ _ h; subst h; exact ⟨h2, h3⟩
  obtain ⟨g, cap, hv, h3, h4⟩ := h.form hn
  injection hv with hA _ _
  exact ⟨g, hA, hc.1, hc.2, h3, h4⟩
theorem crow_cell {w : World} {base g n c : Nat} {e : TypeId} {xs : List Value} (h : w.ownsRow base e 4 (.slice (some ⟨g, 0, none⟩) n c) n xs) (j : Nat) (u : Value) (hu : xs[j]? = some u) : w.cell? ⟨g, j, none⟩ = some u := by
  have := h.cells (g := g) rfl j u hu
  rwa [add_off, Nat.zero_add] at this
theorem Cs.of_own {w : World} {base g n c : Nat} {e : TypeId} {l : List Col} {r : List Value} (h : w.ownsRow base e 4 (.slice (some ⟨g, 0, none⟩) n c) n (colsV l ++ r)) (hg : g < w.heap.size) : Cs w w.heap.size (some ⟨g, 0, none⟩) l := fun _ => by
  refine ⟨g, 0, rfl, hg, fun j hj => ?_⟩
  obtain ⟨g0, g1, g2, g3⟩ := colsV_get l j hj
  have hlen := colsV_length l
  have q : ∀ {i : Nat} {v : Value}, (colsV l)[i]? = some v → (colsV l ++ r)[i]? = some v := fun {i v} h => by
    have := (List.getElem?_eq_some_iff.1 h).1
    rw [List.getElem?_append_left this]; exact h
  simp only [Nat.zero_add]
  exact ⟨crow_cell h _ _ (q g0), crow_cell h _ _ (q g1), crow_cell h _ _ (q g2), crow_cell h _ _ (q g3)⟩
theorem info_col : (Tryz.prog.info? 70).map (fun i => (i.zero, i.size, i.bytes)) = some (some (.agg #[.int .u16 0, .int .u16 0, .int .u16 0, .int .u16 0]), 4, 8) := by kernel_rfl
/-- append of colours, from whatever slice, to a row of the call's own. -/
theorem append_cols (base : Nat) (w : World) (v : Value) (n : Nat) (xs : List Value) (h : w.ownsRow base 70 4 v n xs) (hbase : base ≤ w.heap.size) (B : Nat) (A : Option Addr) (m c : Nat) (l : List Col) (hm : l.length = m) (hl : Cs w B A l)
    (h47 : (n + m) * 8 ≤ 140737488355328) (ty : TypeId) :
    ∃ A' c' w', (Builtin.append_ #[103, 103] ty #[v, .slice A m c]).run Tryz.prog w = .ok (.slice A' (n + m) c') w' ∧
      w'.ownsRow base 70 4 (.slice A' (n + m) c') (n + m) (xs ++ colsV l) ∧ w.grownBy w' v.ownBlock := by
  obtain ⟨i0, hi, hz0, hz1, hz2⟩ := info_parts info_col
  rcases A with _ | ad
  · have h0 : l = [] := by
      rcases Nat.eq_zero_or_pos l.length with h0 | h0
      · exact List.eq_nil_of_length_eq_zero h0
      · obtain ⟨_, _, h, _⟩ := hl h0
        cases h
    subst h0
    obtain rfl : m = 0 := hm.symm
    have hrun : (Builtin.append_ #[103, 103] ty #[v, .slice none 0 c]).run Tryz.prog w = .ok v w := by
      rcases h.2 with ⟨rfl, rfl⟩ | ⟨g, cap, cur, rfl, _, _, hnc, _⟩
      · simp [Builtin.append_, run_underlying Tryz.underlying103, sizeOf, typeInfo, hi, Builtin.lenOf, Builtin.firstCells]
      · simp [Builtin.append_, run_underlying Tryz.underlying103, sizeOf, typeInfo, hi, Builtin.lenOf, Builtin.firstCells, hnc, storeCells]
    have hf : ∃ A' c', v = .slice A' n c' := by
      rcases h.2 with ⟨rfl, h0⟩ | ⟨g, cap, cur, rfl, _⟩
      · exact ⟨none, 0, by rw [h0]⟩
      · exact ⟨_, _, rfl⟩
    obtain ⟨A', c', rfl⟩ := hf
    exact ⟨A', c', w, hrun, by simpa [colsV] using h, World.grownBy.refl w _⟩
  · obtain ⟨A', c', w', hrun, h2, h3, _⟩ := run_append_vn (P := Tryz.prog) w base 103 ty 70 i0 _ 4 8 Tryz.underlying103 hi hz0 hz1 hz2 rfl (by omega) v n xs h B ad m c (colsV l) (by rw [colsV_length, hm]) hl.vs (colsV_one l) (by unfold maxLen; omega) h47 hbase
    exact ⟨A', c', w', hrun, h2, h3⟩
/-- A colour as a value, as cells. -/
abbrev colV (c : Col) : Value := .agg #[.int .u16 c.r, .int .u16 c.g, .int .u16 c.b, .int .u16 c.a]
abbrev colC (c : Col) : Array Value := #[.int .u16 c.r, .int .u16 c.g, .int .u16 c.b, .int .u16 c.a]
end Go.Proofs.YtfbokhdimffabaaGreatDoor

/- Pixels: a run of a row, a pixel of it; the pixel at a place, the program's way and the document's. -/
namespace Go.Proofs.YtfbokhdimffabaaGreatDoor
open Go.ChangeShapes Go.WideShapes Go.ChangeAt Go.RowKit

/-- Samples from a place in a block on. -/
def Smp (w : World) (r o : Nat) (l : List Int) : Prop := ∀ (j : Nat) (hj : j < l.length), w.cell? ⟨r, o + j, none⟩ = some (.int .u16 l[j])
theorem Us.smp {w : World} {B : Nat} {A : Option Addr} {l : List Int} (h : Us w B A l) (hn : 0 < l.length) : ∃ r o, A = some ⟨r, o, none⟩ ∧ r < B ∧ Smp w r o l := by
  obtain ⟨⟨b, off, spot⟩, rfl, hb, hc⟩ := h (by rw [usV_length]; exact hn)
  have h0 := hc 0 (by rw [usV_length]; exact hn)
  have hspot : spot = none := by
    have := World.cell?_spot h0
    simpa [Addr.add] using this
  subst hspot
  refine ⟨b, off, rfl, hb, fun j hj => ?_⟩
  have := hc j (by rw [usV_length]; exact hj)
  rwa [add_off, usV_get] at this
theorem Smp.us {w : World} {B r o : Nat} {l : List Int} (h : Smp w r o l) (hr : r < B) : Us w B (some ⟨r, o, none⟩) l := fun hn => by
  refine ⟨_, rfl, hr, fun j hj => ?_⟩
  rw [add_off, usV_get]
  exact h j _
theorem Smp.keep {w w' : World} {r o : Nat} {l : List Int} (h : Smp w r o l) (hk : w'.heap[r]? = w.heap[r]?) : Smp w' r o l := fun j hj => (World.cell?_of_block hk).trans (h j hj)
theorem Smp.below {w w' : World} {B r o : Nat} {l : List Int} (h : Smp w r o l) (hb : Below B w w') (hr : r < B) : Smp w' r o l := h.keep (hb.block r hr)
theorem Smp.part {w : World} {r o : Nat} {l : List Int} (h : Smp w r o l) (F n : Nat) : Smp w r (o + F) ((l.drop F).take n) := fun j hj => by
  rw [List.length_take, List.length_drop] at hj
  have := h (F + j) (by omega)
  rw [Nat.add_assoc, this]
  simp
theorem Smp.of_own {w : World} {base g n c : Nat} {e : TypeId} {l : List Int} (h : w.ownsRow base e 1 (.slice (some ⟨g, 0, none⟩) n c) n (usV l)) : Smp w g 0 l := fun j hj => by
  rw [Nat.zero_add]; exact urow_at h j hj
/-- The pixel that begins at sample k. -/
def pxAt (l : List Int) (k : Nat) : Col := ⟨l.getD k 0, l.getD (k + 1) 0, l.getD (k + 2) 0, l.getD (k + 3) 0⟩
theorem Smp.px {w : World} {r o : Nat} {l : List Int} (h : Smp w r o l) {k : Nat} (hk : k + 4 ≤ l.length) :
    w.cell? ⟨r, o + k, none⟩ = some (.int .u16 (pxAt l k).r) ∧ w.cell? ⟨r, o + k + 1, none⟩ = some (.int .u16 (pxAt l k).g) ∧ w.cell? ⟨r, o + k + 2, none⟩ = some (.int .u16 (pxAt l k).b) ∧ w.cell? ⟨r, o + k + 3, none⟩ = some (.int .u16 (pxAt l k).a) := by
  have q : ∀ i, k + i < l.length → w.cell? ⟨r, o + (k + i), none⟩ = some (.int .u16 (l.getD (k + i) 0)) := fun i hi => by
    rw [h _ hi]; simp [List.getD, hi]
  have q0 := q 0 (by omega); have q1 := q 1 (by omega); have q2 := q 2 (by omega); have q3 := q 3 (by omega)
  simp only [← Nat.add_assoc, Nat.add_zero] at q0 q1 q2 q3
  exact ⟨q0, q1, q2, q3⟩
theorem set4 {w : World} {g : Nat} {t : TypeId} {a b c d : Value} (h : Blk w g t #[a, b, c, d]) (x y z u : Value) : Blk ((((w.setCell ⟨g, 0, none⟩ x).setCell ⟨g, 1, none⟩ y).setCell ⟨g, 2, none⟩ z).setCell ⟨g, 3, none⟩ u) g t #[x, y, z, u] := by
  simpa using (((h.set_ 0 x).set_ 1 y).set_ 2 z).set_ 3 u
theorem set4_upd (w : World) (g : Nat) (x y z u : Value) : Upd (· = g) w ((((w.setCell ⟨g, 0, none⟩ x).setCell ⟨g, 1, none⟩ y).setCell ⟨g, 2, none⟩ z).setCell ⟨g, 3, none⟩ u) :=
  ((((Upd.refl (· = g) w).setCell (p := ⟨g, 0, none⟩) (fun _ => rfl) _).setCell (p := ⟨g, 1, none⟩) (fun _ => rfl) _).setCell (p := ⟨g, 2, none⟩) (fun _ => rfl) _).setCell (p := ⟨g, 3, none⟩) (fun _ => rfl) _
/-- A colour's box, and what it holds. -/
structure CB (w : World) (g : Nat) (x : Col) : Prop where
  blk : Blk w g 70 #[.int .u16 x.r, .int .u16 x.g, .int .u16 x.b, .int .u16 x.a]
  c0 : w.cell? ⟨g, 0, none⟩ = some (.int .u16 x.r)
  c1 : w.cell? ⟨g, 1, none⟩ = some (.int .u16 x.g)
  c2 : w.cell? ⟨g, 2, none⟩ = some (.int .u16 x.b)
  c3 : w.cell? ⟨g, 3, none⟩ = some (.int .u16 x.a)
  f0 : w.frozen? ⟨g, 0, none⟩ = false
  f1 : w.frozen? ⟨g, 1, none⟩ = false
  f2 : w.frozen? ⟨g, 2, none⟩ = false
  f3 : w.frozen? ⟨g, 3, none⟩ = false
theorem CB.of {w : World} {g : Nat} {x : Col} (h : Blk w g 70 #[.int .u16 x.r, .int .u16 x.g, .int .u16 x.b, .int .u16 x.a]) : CB w g x :=
  ⟨h, by rw [h.cell]; rfl, by rw [h.cell]; rfl, by rw [h.cell]; rfl, by rw [h.cell]; rfl, h.frozen 0, h.frozen 1, h.frozen 2, h.frozen 3⟩
def col0 : Col := ⟨0, 0, 0, 0⟩
theorem newCol (w : World) : ∃ W1, w.alloc (.cells #[.int .u16 0, .int .u16 0, .int .u16 0, .int .u16 0] 70) = W1 ∧ CB W1 w.heap.size col0 ∧ Below w.heap.size w W1 :=
  ⟨_, rfl, CB.of (Blk.new w 70 _), (Below.refl w.heap.size w).alloc (Nat.le_refl _) _⟩
set_option maxRecDepth 100000 in
set_option maxHeartbeats 1000000 in
theorem color_any (r o n c : Nat) (x : Col) (h4 : 4 ≤ n) (w : World) (h0 : w.cell? ⟨r, o, none⟩ = some (.int .u16 x.r)) (h1 : w.cell? ⟨r, o + 1, none⟩ = some (.int .u16 x.g)) (h2 : w.cell? ⟨r, o + 2, none⟩ = some (.int .u16 x.b)) (h3 : w.cell? ⟨r, o + 3, none⟩ = some (.int .u16 x.a)) :
    Calls Tryz.prog 77 #[.slice (some ⟨r, o, none⟩) n c] w fun e w' => e = .returned (colV x) ∧ Below w.heap.size w w' := by
  have hr : r < w.heap.size := block_lt_of_cell h0
  obtain ⟨W1, hW1, hz, hb⟩ := newCol w
  have c0 := (hb.cell (p := ⟨r, o, none⟩) hr).trans h0
  have c1 := (hb.cell (p := ⟨r, o + 1, none⟩) hr).trans h1
  have c2 := (hb.cell (p := ⟨r, o + 2, none⟩) hr).trans h2
  have c3 := (hb.cell (p := ⟨r, o + 3, none⟩) hr).trans h3
  obtain ⟨b0, d0, d1, d2, d3, f0, f1, f2, f3⟩ := hz
  have hz9 := CB.of (x := x) (set4 b0 (.int .u16 x.r) (.int .u16 x.g) (.int .u16 x.b) (.int .u16 x.a))
  have hu9 := set4_upd W1 w.heap.size (.int .u16 x.r) (.int .u16 x.g) (.int .u16 x.b) (.int .u16 x.a)
  have HB := Lib.hid (hb.trans (hu9.below (by have := hb.size; omega) (fun k hk e => by omega)))
  have HW1 := Lib.hid hW1
  have HZ9 := Lib.hid hz9
  clear hW1 hz9 hu9 b0 hb h0 h1 h2 h3 hr
  have i0 : (0 : Int) < (n : Int) := by omega
  have i1 : (1 : Int) < (n : Int) := by omega
  have i2 : (2 : Int) < (n : Int) := by omega
  have i3 : (3 : Int) < (n : Int) := by omega
  go_enter Tryz.func77, Tryz.ntmps77
  go_upto_region 1 with (fail)
  rw [HW1.out]
  clear HW1
  refine wp_region_tail 13 (by kernel_rfl) (by kernel_rfl) ?_
  simp only [List.take_succ_cons, List.take_zero, List.drop_succ_cons, List.drop_zero]
  repeat (go_big_quiet_step (fail))
  refine wpQuiet_nil ?_
  have g0 : W1.drew.frozen? ⟨w.heap.size, 0, none⟩ = false := f0
  go_wp2_with fail
  have n0 := HZ9.out.c0; have n1 := HZ9.out.c1; have n2 := HZ9.out.c2; have n3 := HZ9.out.c3
  refine bodyPost_ret (v := colV x) (by simp [results, Tryz.results77, go_sem, n0, n1, n2, n3]) rfl ?_
  exact ⟨rfl, HB.out.drew⟩
end Go.Proofs.YtfbokhdimffabaaGreatDoor

/- Mathematics of tones: samples of a depth there and back, luma and chroma there and back. No program is named here. -/
namespace Go.Proofs.YtfbokhdimffabaaGreatDoor

/-- into 0 to 255 -/
def clI (n : Int) : Int := if n < 0 then 0 else if 255 < n then 255 else n
theorem clI_bd (n : Int) : 0 ≤ clI n ∧ clI n ≤ 255 := by unfold clI; split <;> (try split) <;> omega
theorem clI_id {n : Int} (h0 : 0 ≤ n) (h1 : n ≤ 255) : clI n = n := by unfold clI; rw [if_neg (by omega), if_neg (by omega)]
theorem clI_lo {n : Int} (h : n < 0) : clI n = 0 := by unfold clI; rw [if_pos h]
theorem clI_hi {n : Int} (h : 255 < n) : clI n = 255 := by unfold clI; rw [if_neg (by omega), if_pos h]
/-- a sample of v of most -/
def upN (v m : Int) : Int := (65535 * v + m / 2) / m
def downN (s m : Int) : Int := (s * m + 32767) / 65535
theorem upN_bd {v m : Int} (h0 : 0 ≤ v) (h1 : v ≤ m) (hm : 1 ≤ m) : 0 ≤ upN v m ∧ upN v m ≤ 65535 := by
  unfold upN
  constructor
  · exact Int.ediv_nonneg (by omega) (by omega)
  · have : (65535 * v + m / 2) / m < 65536 := Int.ediv_lt_of_lt_mul (by omega) (by omega)
    omega
theorem upN_sp {v m : Int} (hm : 1 ≤ m) : upN v m * m ≤ 65535 * v + m / 2 ∧ 65535 * v + m / 2 < upN v m * m + m := by
  unfold upN
  generalize hx : 65535 * v + m / 2 = x
  have h1 := Int.emod_add_mul_ediv x m
  have h2 := Int.emod_nonneg x (show m ≠ 0 by omega)
  have h3 := Int.emod_lt_of_pos x (show 0 < m by omega)
  rw [Int.mul_comm] at h1
  omega
theorem down_up {v m : Int} (hm : 1 ≤ m) (hm2 : m ≤ 65535) : downN (upN v m) m = v := by
  obtain ⟨h1, h2⟩ := upN_sp (v := v) hm
  unfold downN
  generalize upN v m * m = X at h1 h2 ⊢
  omega
theorem up_lt {v w m : Int} (hm : 1 ≤ m) (hm2 : m ≤ 65535) : (v < w) ↔ (upN v m < upN w m) := by
  have hv := down_up (v := v) hm hm2
  have hw := down_up (v := w) hm hm2
  have mono : ∀ a b : Int, a ≤ b → upN a m ≤ upN b m := fun a b h => by
    unfold upN
    exact Int.ediv_le_ediv (by omega) (by omega)
  have monod : ∀ a b : Int, a ≤ b → downN a m ≤ downN b m := fun a b h => by
    unfold downN
    have := Int.mul_le_mul_of_nonneg_right h (show 0 ≤ m by omega)
    omega
  constructor
  · intro h
    refine Int.not_le.1 fun hle => ?_
    have := monod _ _ hle
    rw [hv, hw] at this
    omega
  · intro h
    refine Int.not_le.1 fun hle => ?_
    have := mono _ _ hle
    omega
/-- luma and chroma, by sums -/
def lumS (r g b : Int) : Int := (19595 * r + 38470 * g + 7471 * b + 32768) / 65536
def cbS (r g b : Int) : Int := 128 + (32768 * b - 11058 * r - 21710 * g + 32768) / 65536
def crS (r g b : Int) : Int := 128 + (32768 * r - 27439 * g - 5329 * b + 32768) / 65536
def redS (y v : Int) : Int := y + (91881 * v + 32768) / 65536
def greenS (y u v : Int) : Int := y - (22554 * u + 46802 * v + 32768) / 65536
def blueS (y u : Int) : Int := y + (116130 * u + 32768) / 65536
def yccI (r g b : Int) : Int × Int × Int := (clI (lumS (clI r) (clI g) (clI b)), clI (cbS (clI r) (clI g) (clI b)), clI (crS (clI r) (clI g) (clI b)))
def rgbI (y cb cr : Int) : Int × Int × Int := (clI (redS (clI y) (clI cr - 128)), clI (greenS (clI y) (clI cb - 128) (clI cr - 128)), clI (blueS (clI y) (clI cb - 128)))
def nearB (a b : Int) : Prop := a - b ≤ 2 ∧ b - a ≤ 2
theorem clI_near {a b : Int} (h : nearB a b) (h0 : 0 ≤ b) (h1 : b ≤ 255) : nearB (clI a) b := by
  unfold nearB at h ⊢
  rcases Int.lt_or_le a 0 with h2 | h2
  · rw [clI_lo h2]; omega
  · rcases Int.lt_or_le 255 a with h3 | h3
    · rw [clI_hi h3]; omega
    · rw [clI_id h2 h3]; exact h
theorem lum_bd {r g b : Int} (hr : 0 ≤ r ∧ r ≤ 255) (hg : 0 ≤ g ∧ g ≤ 255) (hb : 0 ≤ b ∧ b ≤ 255) : 0 ≤ lumS r g b ∧ lumS r g b ≤ 255 := by unfold lumS; omega
/-- what is clamped is off by no more than rounding -/
theorem cb_sp {r g b : Int} (hr : 0 ≤ r ∧ r ≤ 255) (hg : 0 ≤ g ∧ g ≤ 255) (hb : 0 ≤ b ∧ b ≤ 255) :
    65536 * (clI (cbS r g b) - 128) ≤ 32768 * b - 11058 * r - 21710 * g + 32768 ∧ 32768 * b - 11058 * r - 21710 * g - 32768 ≤ 65536 * (clI (cbS r g b) - 128) := by
  rcases Int.lt_or_le 255 (cbS r g b) with h | h
  · rw [clI_hi h]; unfold cbS at h; omega
  · rw [clI_id (by unfold cbS; omega) h]; unfold cbS; omega
theorem cr_sp {r g b : Int} (hr : 0 ≤ r ∧ r ≤ 255) (hg : 0 ≤ g ∧ g ≤ 255) (hb : 0 ≤ b ∧ b ≤ 255) :
    65536 * (clI (crS r g b) - 128) ≤ 32768 * r - 27439 * g - 5329 * b + 32768 ∧ 32768 * r - 27439 * g - 5329 * b - 32768 ≤ 65536 * (clI (crS r g b) - 128) := by
  rcases Int.lt_or_le 255 (crS r g b) with h | h
  · rw [clI_hi h]; unfold crS at h; omega
  · rw [clI_id (by unfold crS; omega) h]; unfold crS; omega
theorem near_all {r g b : Int} (hr : 0 ≤ r ∧ r ≤ 255) (hg : 0 ≤ g ∧ g ≤ 255) (hb : 0 ≤ b ∧ b ≤ 255) :
    nearB (rgbI (yccI r g b).1 (yccI r g b).2.1 (yccI r g b).2.2).1 r ∧ nearB (rgbI (yccI r g b).1 (yccI r g b).2.1 (yccI r g b).2.2).2.1 g ∧ nearB (rgbI (yccI r g b).1 (yccI r g b).2.1 (yccI r g b).2.2).2.2 b := by
  have h1 := cb_sp hr hg hb
  have h2 := cr_sp hr hg hb
  have h3 : 65536 * lumS r g b ≤ 19595 * r + 38470 * g + 7471 * b + 32768 ∧ 19595 * r + 38470 * g + 7471 * b - 32768 ≤ 65536 * lumS r g b := by unfold lumS; omega
  have h4 := lum_bd hr hg hb
  have e1 : clI (lumS r g b) = lumS r g b := clI_id h4.1 h4.2
  have i1 : ∀ n, clI (clI n) = clI n := fun n => clI_id (clI_bd n).1 (clI_bd n).2
  simp only [yccI, rgbI, clI_id hr.1 hr.2, clI_id hg.1 hg.2, clI_id hb.1 hb.2, i1, e1]
  generalize clI (cbS r g b) - 128 = u at h1
  generalize clI (crS r g b) - 128 = v at h2
  generalize lumS r g b = y at h3 h4
  refine ⟨clI_near ?_ hr.1 hr.2, clI_near ?_ hg.1 hg.2, clI_near ?_ hb.1 hb.2⟩
  · unfold nearB redS
    have q1 : 91881 * v + 32768 - 65535 ≤ 65536 * ((91881 * v + 32768) / 65536) ∧ 65536 * ((91881 * v + 32768) / 65536) ≤ 91881 * v + 32768 := by omega
    generalize (91881 * v + 32768) / 65536 = q at q1 ⊢
    omega
  · unfold nearB greenS
    have q1 : 22554 * u + 46802 * v + 32768 - 65535 ≤ 65536 * ((22554 * u + 46802 * v + 32768) / 65536) ∧ 65536 * ((22554 * u + 46802 * v + 32768) / 65536) ≤ 22554 * u + 46802 * v + 32768 := by omega
    generalize (22554 * u + 46802 * v + 32768) / 65536 = q at q1 ⊢
    omega
  · unfold nearB blueS
    have q1 : 116130 * u + 32768 - 65535 ≤ 65536 * ((116130 * u + 32768) / 65536) ∧ 65536 * ((116130 * u + 32768) / 65536) ≤ 116130 * u + 32768 := by omega
    generalize (116130 * u + 32768) / 65536 = q at q1 ⊢
    omega
end Go.Proofs.YtfbokhdimffabaaGreatDoor
