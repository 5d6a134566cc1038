/- Mathematics of tiles: how many there are, which is the k-th, and that their areas are the whole. No program is named here. -/
import Derived.Test.YtfjnlbjlapbilaaVs
namespace Go.Proofs.Ytfjnlbjlapbilaa

/-- How many pieces of t cut w. -/
def cntT (w t : Nat) : Nat := (w + t - 1) / t
/-- How long the i-th is. -/
def lenT (w t i : Nat) : Nat := min t (w - i * t)
theorem cntT_iff {w t i : Nat} (ht : 1 ≤ t) : i < cntT w t ↔ i * t < w := by
  unfold cntT
  rw [Nat.lt_div_iff_mul_lt (by omega)]
  omega
theorem cntT_pos {w t : Nat} (hw : 1 ≤ w) (ht : 1 ≤ t) : 1 ≤ cntT w t := (cntT_iff ht).2 (by omega)
theorem cntT_full {w t : Nat} (ht : 1 ≤ t) : w ≤ cntT w t * t := by
  rcases Nat.lt_or_ge (cntT w t * t) w with h | h
  · exact absurd ((cntT_iff ht).2 h) (Nat.lt_irrefl _)
  · exact h
theorem cntT_le {w t : Nat} (ht : 1 ≤ t) : cntT w t ≤ w := by
  rcases Nat.lt_or_ge w (cntT w t) with h | h
  · have h1 := (cntT_iff (w := w) (i := w) ht).1 h
    have h2 : w * 1 ≤ w * t := Nat.mul_le_mul_left w ht
    omega
  · exact h
/-- Pieces that are longer than the whole: one, as long as it. -/
theorem cntT_one {w t : Nat} (hw : 1 ≤ w) (ht : w ≤ t) : cntT w t = 1 := by
  have h1 := cntT_pos hw (show 1 ≤ t by omega)
  rcases Nat.lt_or_ge 1 (cntT w t) with h | h
  · have h2 := (cntT_iff (w := w) (i := 1) (show 1 ≤ t by omega)).1 h
    omega
  · omega
/-- The area of the first k tiles. -/
def areaT (w h t u : Nat) : Nat → Nat
  | 0 => 0
  | k + 1 => areaT w h t u k + lenT w t (k % cntT w t) * lenT h u (k / cntT w t)
theorem lenT_sum {w t i : Nat} : min (i * t) w + lenT w t i = min ((i + 1) * t) w := by
  unfold lenT
  rw [Nat.add_mul, Nat.one_mul]
  generalize i * t = m
  omega
theorem areaT_row {w h t u : Nat} (hw : 1 ≤ w) (ht : 1 ≤ t) (j : Nat) : ∀ i, i ≤ cntT w t → areaT w h t u (cntT w t * j + i) = areaT w h t u (cntT w t * j) + lenT h u j * min (i * t) w
  | 0, _ => by simp
  | i + 1, hi => by
    have ih := areaT_row (h := h) (u := u) hw ht j i (by omega)
    have h1 : (cntT w t * j + i) % cntT w t = i := by rw [Nat.mul_add_mod, Nat.mod_eq_of_lt (by omega)]
    have h2 : (cntT w t * j + i) / cntT w t = j := by rw [Nat.mul_add_div (by omega), Nat.div_eq_of_lt (by omega), Nat.add_zero]
    have h3 : areaT w h t u (cntT w t * j + (i + 1)) = areaT w h t u (cntT w t * j + i) + lenT w t ((cntT w t * j + i) % cntT w t) * lenT h u ((cntT w t * j + i) / cntT w t) := rfl
    rw [h3, ih, h1, h2, ← lenT_sum (w := w) (t := t) (i := i), Nat.mul_add, Nat.add_assoc, Nat.mul_comm (lenT w t i)]
theorem areaT_rows {w h t u : Nat} (hw : 1 ≤ w) (ht : 1 ≤ t) : ∀ j, areaT w h t u (cntT w t * j) = min (j * u) h * w
  | 0 => by simp [areaT]
  | j + 1 => by
    rw [Nat.mul_add, Nat.mul_one, areaT_row hw ht j _ (Nat.le_refl _), areaT_rows hw ht j, Nat.min_eq_right (cntT_full ht), ← Nat.add_mul, lenT_sum]
theorem areaT_all {w h t u : Nat} (hw : 1 ≤ w) (ht : 1 ≤ t) (hu : 1 ≤ u) : areaT w h t u (cntT w t * cntT h u) = w * h := by
  rw [areaT_rows hw ht, Nat.min_eq_right (cntT_full hu), Nat.mul_comm]
theorem areaT_mono {w h t u : Nat} {a b : Nat} (hab : a ≤ b) : areaT w h t u a ≤ areaT w h t u b := by
  induction b with
  | zero => obtain rfl : a = 0 := by omega
            exact Nat.le_refl _
  | succ b ih =>
    rcases Nat.lt_or_ge a (b + 1) with h | h
    · exact Nat.le_trans (ih (by omega)) (Nat.le_add_right _ _)
    · obtain rfl : a = b + 1 := by omega
      exact Nat.le_refl _
/-- The k-th tile: its place, its size. -/
def tileX (w t : Nat) (k : Nat) : Nat := (k % cntT w t) * t
def tileY (w u : Nat) (t : Nat) (k : Nat) : Nat := (k / cntT w t) * u
def tileV (w h t u k : Nat) : List Value := [.int .i64 (((k % cntT w t) * t : Nat) : Int), .int .i64 (((k / cntT w t) * u : Nat) : Int), .int .i64 (lenT w t (k % cntT w t) : Int), .int .i64 (lenT h u (k / cntT w t) : Int)]
/-- The first k of them, cell by cell. -/
def tilesV (w h t u : Nat) : Nat → List Value
  | 0 => []
  | k + 1 => tilesV w h t u k ++ tileV w h t u k
theorem tilesV_length {w h t u : Nat} : ∀ k, (tilesV w h t u k).length = k * 4
  | 0 => rfl
  | k + 1 => by rw [tilesV, List.length_append, tilesV_length k]; simp [tileV]; omega
theorem tilesV_at {w h t u : Nat} {m : Nat} : ∀ {k : Nat}, k < m → ∀ j, j < 4 → (tilesV w h t u m)[k * 4 + j]? = (tileV w h t u k)[j]? := by
  induction m with
  | zero => intro k hk; omega
  | succ m ih =>
    intro k hk j hj
    rw [tilesV]
    rcases Nat.lt_or_ge k m with h1 | h1
    · rw [List.getElem?_append_left (by rw [tilesV_length]; omega)]
      exact ih h1 j hj
    · obtain rfl : k = m := by omega
      rw [List.getElem?_append_right (by rw [tilesV_length]; omega), tilesV_length]
      congr 1
      omega
end Go.Proofs.Ytfjnlbjlapbilaa
