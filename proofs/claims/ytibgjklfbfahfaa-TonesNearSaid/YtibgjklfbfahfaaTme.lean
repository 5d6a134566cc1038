/- How far two colours are from one another, and the nearest of a palette: the program's and the document's, walked. -/
import Derived.Test.YtibgjklfbfahfaaTmb
import Derived.Test.YtibgjklfbfahfaaAn
import Derived.Test.YtibgjklfbfahfaaTl
import Derived.BigQuiet
import Derived.Deep.QuietTactic
import Derived.Deep.LoopGhost
namespace Go.Proofs.Ytibgjklfbfahfaa
open Go.ChangeShapes Go.WideShapes Go.ChangeAt Go.RowKit

/-- A colour: red, green, blue, alpha, each from 0 to 65535. -/
structure Col where
  r : Int
  g : Int
  b : Int
  a : Int
  hr : 0 ≤ r ∧ r ≤ 65535
  hg : 0 ≤ g ∧ g ≤ 65535
  hb : 0 ≤ b ∧ b ≤ 65535
  ha : 0 ≤ a ∧ a ≤ 65535
def sqI (a b : Int) : Int := (a - b) * (a - b)
theorem sqI_bd {a b : Int} (ha : 0 ≤ a ∧ a ≤ 65535) (hb : 0 ≤ b ∧ b ≤ 65535) : 0 ≤ sqI a b ∧ sqI a b ≤ 4294836225 := by
  unfold sqI
  constructor
  · rcases Int.le_total 0 (a - b) with h | h
    · exact Int.mul_nonneg h h
    · exact Int.mul_nonneg_of_nonpos_of_nonpos h h
  · rcases Int.le_total 0 (a - b) with h | h
    · have := Int.mul_le_mul (show a - b ≤ 65535 by omega) (show a - b ≤ 65535 by omega) h (by omega)
      omega
    · have := Int.mul_le_mul (show b - a ≤ 65535 by omega) (show b - a ≤ 65535 by omega) (by omega) (by omega)
      have e : (a - b) * (a - b) = (b - a) * (b - a) := by rw [← Int.neg_sub b a, Int.neg_mul_neg]
      omega
def farI (x y : Col) : Int := sqI x.r y.r + sqI x.g y.g + sqI x.b y.b
theorem farI_bd (x y : Col) : 0 ≤ farI x y ∧ farI x y ≤ 12884508675 := by
  have h1 := sqI_bd x.hr y.hr
  have h2 := sqI_bd x.hg y.hg
  have h3 := sqI_bd x.hb y.hb
  unfold farI
  omega
theorem square_any (a b : Int) (ha : 0 ≤ a ∧ a ≤ 65535) (hb : 0 ≤ b ∧ b ≤ 65535) (w : World) :
    Calls Try.prog 30 #[.int .u16 a, .int .u16 b] w fun e w' => e = .returned (.int .i64 (sqI a b)) ∧ w' = w := by
  go_enter Try.func30, Try.ntmps30
  have h := sqI_bd ha hb
  unfold sqI at h
  go_wp2_with fail
  go_ret
  exact ⟨rfl, rfl⟩
/-- The slice value '.slice A l.length c' reads as these colours, below block B. -/
def Cs (w : World) (B : Nat) (A : Option Addr) (l : List Col) : Prop :=
  0 < l.length → ∃ b off, A = some ⟨b, off, none⟩ ∧ b < B ∧ ∀ (j : Nat) (hj : j < l.length),
    w.cell? ⟨b, off + j * 4, none⟩ = some (.int .u16 l[j].r) ∧ w.cell? ⟨b, off + j * 4 + 1, none⟩ = some (.int .u16 l[j].g) ∧ w.cell? ⟨b, off + j * 4 + 2, none⟩ = some (.int .u16 l[j].b) ∧ w.cell? ⟨b, off + j * 4 + 3, none⟩ = some (.int .u16 l[j].a)
set_option maxRecDepth 100000 in
theorem apart_any (x y : Col) (w : World) :
    Calls Try.prog 29 #[.agg #[.int .u16 x.r, .int .u16 x.g, .int .u16 x.b, .int .u16 x.a], .agg #[.int .u16 y.r, .int .u16 y.g, .int .u16 y.b, .int .u16 y.a]] w fun e w' => e = .returned (.int .i64 (farI x y)) ∧ Below w.heap.size w w' := by
  obtain ⟨r, g, b, a, hr, hg, hb, ha⟩ := x
  obtain ⟨r', g', b', a', hr', hg', hb', ha'⟩ := y
  simp only [farI]
  go_enter Try.func29, Try.ntmps29
  go_wp2_with fail
  have hx := (Blk.new w 36 #[.int .u16 r, .int .u16 g, .int .u16 b, .int .u16 a]).alloc (.cells #[.int .u16 r', .int .u16 g', .int .u16 b', .int .u16 a'] 36)
  have hy := Blk.new (w.alloc (.cells #[.int .u16 r, .int .u16 g, .int .u16 b, .int .u16 a] 36)) 36 #[.int .u16 r', .int .u16 g', .int .u16 b', .int .u16 a']
  have hbb := ((Below.refl w.heap.size w).alloc (Nat.le_refl _) (.cells #[.int .u16 r, .int .u16 g, .int .u16 b, .int .u16 a] 36)).alloc (by simp) (.cells #[.int .u16 r', .int .u16 g', .int .u16 b', .int .u16 a'] 36)
  rw [World.size_alloc] at hy
  generalize (w.alloc (.cells #[.int .u16 r, .int .u16 g, .int .u16 b, .int .u16 a] 36)).alloc (.cells #[.int .u16 r', .int .u16 g', .int .u16 b', .int .u16 a'] 36) = W1 at *
  have x0 := hx.cell 0; have x1 := hx.cell 1; have x2 := hx.cell 2
  have y0 := hy.cell 0; have y1 := hy.cell 1; have y2 := hy.cell 2
  simp only [List.getElem?_toArray, List.getElem?_cons_zero, List.getElem?_cons_succ] at x0 x1 x2 y0 y1 y2
  have s0 := sqI_bd hr hr'; have s1 := sqI_bd hg hg'; have s2 := sqI_bd hb hb'
  have HB := Lib.hid hbb
  clear hbb hx hy ha ha'
  generalize w.heap.size + 1 = q at *
  go_quiet ((go_at_call 30; exact Calls.quiet_of_same (square_any _ _ (by assumption) (by assumption) _)))
  go_wp2_with fail
  go_ret
  exact ⟨rfl, below_drewN HB.out nq⟩
set_option maxRecDepth 100000 in
theorem far_any (x y : Col) (w : World) :
    Calls Try.prog 23 #[.agg #[.int .u16 x.r, .int .u16 x.g, .int .u16 x.b, .int .u16 x.a], .agg #[.int .u16 y.r, .int .u16 y.g, .int .u16 y.b, .int .u16 y.a]] w fun e w' => e = .returned (.int .i64 (farI x y)) ∧ Below w.heap.size w w' := by
  obtain ⟨r, g, b, a, hr, hg, hb, ha⟩ := x
  obtain ⟨r', g', b', a', hr', hg', hb', ha'⟩ := y
  simp only [farI]
  go_enter Try.func23, Try.ntmps23
  go_wp2_with fail
  have hx := (Blk.new w 36 #[.int .u16 r, .int .u16 g, .int .u16 b, .int .u16 a]).alloc (.cells #[.int .u16 r', .int .u16 g', .int .u16 b', .int .u16 a'] 36)
  have hy := Blk.new (w.alloc (.cells #[.int .u16 r, .int .u16 g, .int .u16 b, .int .u16 a] 36)) 36 #[.int .u16 r', .int .u16 g', .int .u16 b', .int .u16 a']
  have hbb := ((Below.refl w.heap.size w).alloc (Nat.le_refl _) (.cells #[.int .u16 r, .int .u16 g, .int .u16 b, .int .u16 a] 36)).alloc (by simp) (.cells #[.int .u16 r', .int .u16 g', .int .u16 b', .int .u16 a'] 36)
  rw [World.size_alloc] at hy
  generalize (w.alloc (.cells #[.int .u16 r, .int .u16 g, .int .u16 b, .int .u16 a] 36)).alloc (.cells #[.int .u16 r', .int .u16 g', .int .u16 b', .int .u16 a'] 36) = W1 at *
  have x0 := hx.cell 0; have x1 := hx.cell 1; have x2 := hx.cell 2
  have y0 := hy.cell 0; have y1 := hy.cell 1; have y2 := hy.cell 2
  simp only [List.getElem?_toArray, List.getElem?_cons_zero, List.getElem?_cons_succ] at x0 x1 x2 y0 y1 y2
  have s0 := sqI_bd hr hr'; have s1 := sqI_bd hg hg'; have s2 := sqI_bd hb hb'
  unfold sqI at s0 s1 s2
  have HB := Lib.hid hbb
  clear hbb hx hy ha ha'
  generalize w.heap.size + 1 = q at *
  go_quiet (fail)
  go_wp2_with fail
  go_ret
  exact ⟨rfl, below_drewN HB.out nq⟩
section
variable {w w' : World} {B B' : Nat} {A : Option Addr} {l : List Col}
theorem Cs.at_ {k : Nat} (h : Cs w B A l) (hk : k < l.length) : ∃ b off, A = some ⟨b, off, none⟩ ∧ b < B ∧ w.cell? ⟨b, off + k * 4, none⟩ = some (.int .u16 l[k].r) ∧ w.cell? ⟨b, off + k * 4 + 1, none⟩ = some (.int .u16 l[k].g) ∧ w.cell? ⟨b, off + k * 4 + 2, none⟩ = some (.int .u16 l[k].b) ∧ w.cell? ⟨b, off + k * 4 + 3, none⟩ = some (.int .u16 l[k].a) := by
  obtain ⟨b, off, e, hb, hc⟩ := h (by omega)
  exact ⟨b, off, e, hb, hc k hk⟩
theorem Cs.keep (h : Cs w B A l) (hk : ∀ p : Addr, p.block < B → w'.cell? p = w.cell? p) : Cs w' B A l := fun hn => by
  obtain ⟨b, off, e, hb, hc⟩ := h hn
  refine ⟨b, off, e, hb, fun j hj => ?_⟩
  obtain ⟨c0, c1, c2, c3⟩ := hc j hj
  exact ⟨(hk _ hb).trans c0, (hk _ hb).trans c1, (hk _ hb).trans c2, (hk _ hb).trans c3⟩
theorem Cs.more (h : Cs w B A l) (hB : B ≤ B') : Cs w B' A l := fun hn => by
  obtain ⟨b, off, e, hb, hc⟩ := h hn
  exact ⟨b, off, e, by omega, hc⟩
theorem Cs.below (h : Cs w B A l) (hb : Below B w w') : Cs w' B A l := h.keep fun _ hp => hb.cell hp
theorem Cs.nil_ : Cs w B A [] := fun h => absurd h (by simp)
end
def farAt (l : List Col) (c : Col) (k : Nat) : Int := if h : k < l.length then farI l[k] c else 0
theorem farAt_of {l : List Col} {c : Col} {k : Nat} (h : k < l.length) : farAt l c k = farI l[k] c := by unfold farAt; rw [dif_pos h]
/-- Of the first k colours the nearest is at z (the first of several), -1 of none; b is how far it is. -/
def NearTo (l : List Col) (c : Col) (k : Nat) (z b : Int) : Prop :=
  (k = 0 ∧ z = -1 ∧ b = 0) ∨ ∃ j : Nat, z = (j : Int) ∧ j < k ∧ b = farAt l c j ∧ (∀ i, i < k → farAt l c j ≤ farAt l c i) ∧ ∀ i, i < j → farAt l c j < farAt l c i
theorem NearTo.zero (l : List Col) (c : Col) : NearTo l c 0 (-1) 0 := .inl ⟨rfl, rfl, rfl⟩
theorem NearTo.first {l : List Col} {c : Col} {z b : Int} (_ : NearTo l c 0 z b) : NearTo l c 1 0 (farAt l c 0) :=
  .inr ⟨0, rfl, by omega, rfl, fun i hi => (by rw [show i = 0 by omega]; exact Int.le_refl _), fun i hi => (by omega)⟩
theorem NearTo.pos {l : List Col} {c : Col} {k : Nat} {z b : Int} (h : NearTo l c k z b) (hk : 0 < k) : ∃ j : Nat, z = (j : Int) ∧ j < k ∧ b = farAt l c j := by
  rcases h with ⟨h, _⟩ | ⟨j, h1, h2, h3, _⟩
  · omega
  · exact ⟨j, h1, h2, h3⟩
theorem NearTo.take {l : List Col} {c : Col} {k : Nat} {z b : Int} (h : NearTo l c k z b) (hk : 0 < k) (hlt : farAt l c k < b) : NearTo l c (k + 1) (k : Int) (farAt l c k) := by
  rcases h with ⟨h, _⟩ | ⟨j, _, h2, rfl, h4, _⟩
  · omega
  · refine .inr ⟨k, rfl, by omega, rfl, fun i hi => ?_, fun i hi => ?_⟩
    · rcases Nat.lt_or_ge i k with h6 | h6
      · have := h4 i h6; omega
      · obtain rfl : i = k := by omega
        exact Int.le_refl _
    · have := h4 i hi; omega
theorem NearTo.stay {l : List Col} {c : Col} {k : Nat} {z b : Int} (h : NearTo l c k z b) (hk : 0 < k) (hle : b ≤ farAt l c k) : NearTo l c (k + 1) z b := by
  rcases h with ⟨h, _⟩ | ⟨j, h1, h2, rfl, h4, h5⟩
  · omega
  · refine .inr ⟨j, h1, by omega, rfl, fun i hi => ?_, h5⟩
    rcases Nat.lt_or_ge i k with h6 | h6
    · exact h4 i h6
    · obtain rfl : i = k := by omega
      exact hle
theorem NearTo.one {l : List Col} {c : Col} {k : Nat} {z z' b b' : Int} (h : NearTo l c k z b) (h' : NearTo l c k z' b') : z = z' := by
  rcases h with ⟨h, h1, _⟩ | ⟨j, h1, h2, rfl, h4, h5⟩
  · rcases h' with ⟨_, h1', _⟩ | ⟨j', _, h2', _⟩
    · rw [h1, h1']
    · omega
  · rcases h' with ⟨h', _⟩ | ⟨j', h1', h2', rfl, h4', h5'⟩
    · omega
    · rcases Nat.lt_trichotomy j j' with h6 | h6 | h6
      · have := h5' j h6; have := h4 j' h2'; omega
      · rw [h1, h1', h6]
      · have := h5 j' h6; have := h4' j h2; omega
end Go.Proofs.Ytibgjklfbfahfaa
