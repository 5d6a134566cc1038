/- The passes have each place of a picture once. No walk. -/
import Derived.Test.YtaloieeemibblaaFl
set_option linter.unusedVariables false
set_option linter.unusedSimpArgs false
namespace Go.Proofs.Ytaloieeemibblaa
open Go.ChangeShapes Go.WideShapes Go.ChangeAt Go.RowKit

def actP (w h : Int) (k : Nat) : Bool := decide ((pX k : Int) < w ∧ (pY k : Int) < h)
def plL (w h : Int) (n : Nat) : List Nat := (List.range n).filter (actP w h)
def sixP (w h : Int) (k : Nat) : List Int := [(pX k : Int), (pY k : Int), (pDX k : Int), (pDY k : Int), stI (pX k) (pDX k) w, stI (pY k) (pDY k) h]
theorem pasL_pl (w h : Int) : ∀ n, pasL w h n = (plL w h n).flatMap (sixP w h)
  | 0 => rfl
  | n + 1 => by
    rw [pasL, pasL_pl w h n]
    unfold plL
    rw [List.range_succ, List.filter_append, List.flatMap_append]
    unfold pasF
    by_cases hc : (pX n : Int) < w ∧ (pY n : Int) < h
    · rw [if_pos hc]
      simp [actP, hc, sixP]
    · rw [if_neg hc]
      simp [actP, hc]
theorem flat_len (w h : Int) : ∀ l : List Nat, (l.flatMap (sixP w h)).length = 6 * l.length
  | [] => rfl
  | k :: l => by
    rw [List.flatMap_cons, List.length_append, flat_len w h l]
    simp [sixP]
    omega
theorem six_at (w h : Int) : ∀ (l : List Nat) (i j : Nat) (hi : i < l.length) (hj : j < 6), (l.flatMap (sixP w h))[6 * i + j]? = (sixP w h l[i])[j]?
  | k :: l, 0, j, _, hj => by
    rw [List.flatMap_cons, List.getElem?_append_left (by simp [sixP]; omega)]
    simp
  | k :: l, i + 1, j, hi, hj => by
    rw [List.flatMap_cons, List.getElem?_append_right (by simp [sixP]; omega)]
    have : 6 * (i + 1) + j - (sixP w h k).length = 6 * i + j := by simp [sixP]; omega
    rw [this, six_at w h l i j (by simpa using hi) hj]
    simp
theorem plL_lt {w h : Int} {n k : Nat} (hk : k ∈ plL w h n) : k < n ∧ (pX k : Int) < w ∧ (pY k : Int) < h := by
  unfold plL actP at hk
  rw [List.mem_filter] at hk
  exact ⟨List.mem_range.1 hk.1, by simpa using hk.2⟩
/-- How many places a pass has in a row. -/
def stN (f s e : Nat) : Nat := (e - f - 1) / s + 1
theorem stI_nat (f s e : Nat) (h : f < e) : stI (f : Int) (s : Int) (e : Int) = (stN f s e : Nat) := by
  unfold stI stN
  rw [if_neg (by omega)]
  have : (e : Int) - (f : Int) - 1 = ((e - f - 1 : Nat) : Int) := by omega
  rw [this]
  simp
def cov (k a b : Nat) : Bool := decide (a % pDX k = pX k ∧ b % pDY k = pY k)
/-- Has the pass been at the place, in its rows below y and of row y below x? -/
def seen (k y x a b : Nat) : Nat := if a % pDX k = pX k ∧ b % pDY k = pY k ∧ (b / pDY k < y ∨ b / pDY k = y ∧ a / pDX k < x) then 1 else 0
def cnt (l : List Nat) (a b : Nat) : Nat := (l.filter fun k => cov k a b).length
theorem seen_zero (k a b : Nat) : seen k 0 0 a b = 0 := by
  unfold seen
  rw [if_neg]
  rintro ⟨_, _, h | ⟨_, h⟩⟩ <;> exact Nat.not_lt_zero _ h
theorem k_cases {k : Nat} (h : k < 7) : k = 0 ∨ k = 1 ∨ k = 2 ∨ k = 3 ∨ k = 4 ∨ k = 5 ∨ k = 6 := by omega
theorem x_in {k W x : Nat} (hk : k < 7) (hW : pX k < W) : x < stN (pX k) (pDX k) W ↔ pX k + x * pDX k < W := by
  unfold stN
  rcases k_cases hk with rfl | rfl | rfl | rfl | rfl | rfl | rfl <;> simp only [pX, pDX] at hW ⊢ <;> omega
theorem y_in {k H y : Nat} (hk : k < 7) (hH : pY k < H) : y < stN (pY k) (pDY k) H ↔ pY k + y * pDY k < H := by
  unfold stN
  rcases k_cases hk with rfl | rfl | rfl | rfl | rfl | rfl | rfl <;> simp only [pY, pDY] at hH ⊢ <;> omega
theorem seen_step {k y x a b : Nat} (hk : k < 7) : seen k y (x + 1) a b = seen k y x a b + if a = pX k + x * pDX k ∧ b = pY k + y * pDY k then 1 else 0 := by
  unfold seen
  rcases k_cases hk with rfl | rfl | rfl | rfl | rfl | rfl | rfl <;> simp only [pX, pDX, pY, pDY] <;> split <;> split <;> split <;> omega
theorem seen_row {k y a b W : Nat} (hk : k < 7) (hW : pX k < W) (ha : a < W) : seen k y (stN (pX k) (pDX k) W) a b = seen k (y + 1) 0 a b := by
  unfold seen stN
  rcases k_cases hk with rfl | rfl | rfl | rfl | rfl | rfl | rfl <;> simp only [pX, pDX, pY, pDY] at hW ⊢ <;> split <;> split <;> omega
theorem seen_all {k a b H : Nat} (hk : k < 7) (hH : pY k < H) (hb : b < H) : seen k (stN (pY k) (pDY k) H) 0 a b = if cov k a b then 1 else 0 := by
  unfold seen stN cov
  rcases k_cases hk with rfl | rfl | rfl | rfl | rfl | rfl | rfl <;> simp only [pX, pDX, pY, pDY, decide_eq_true_eq] at hH ⊢ <;> split <;> split <;> omega
theorem cnt_next (l : List Nat) (i a b : Nat) (hi : i < l.length) : cnt (l.take (i + 1)) a b = cnt (l.take i) a b + if cov l[i] a b then 1 else 0 := by
  unfold cnt
  rw [List.take_succ_eq_append_getElem hi, List.filter_append, List.length_append]
  congr 1
  by_cases h : cov l[i] a b <;> simp [h]
/-- Each place is had once. -/
theorem cnt_one {W H a b : Nat} (ha : a < W) (hb : b < H) : cnt (plL (W : Int) (H : Int) 7) a b = 1 := by
  have e : cnt (plL (W : Int) (H : Int) 7) a b = cnt (List.range 7) a b := by
    unfold cnt plL
    rw [List.filter_filter]
    congr 1
    refine List.filter_congr (fun k hk => ?_)
    have hk := List.mem_range.1 hk
    rw [Bool.and_eq_left_iff_imp]
    intro hc
    unfold cov at hc
    simp only [decide_eq_true_eq] at hc
    unfold actP
    refine decide_eq_true ?_
    have h1 := Nat.mod_le a (pDX k)
    have h2 := Nat.mod_le b (pDY k)
    omega
  rw [e]
  have hd : ∀ u < 8, ∀ v < 8, cnt (List.range 7) u v = 1 := by decide +kernel
  have hm : cnt (List.range 7) a b = cnt (List.range 7) (a % 8) (b % 8) := by
    unfold cnt
    congr 1
    refine List.filter_congr (fun k hk => ?_)
    have hk := List.mem_range.1 hk
    unfold cov
    congr 1
    rcases k_cases hk with rfl | rfl | rfl | rfl | rfl | rfl | rfl <;> simp only [pX, pDX, pY, pDY, eq_iff_iff] <;> omega
  rw [hm]
  exact hd _ (Nat.mod_lt _ (by omega)) _ (Nat.mod_lt _ (by omega))
/-- The numbers that stand in memory. -/
def numL (W H : Nat) (f : Nat → Nat → Nat) : List Int := (List.range (W * H)).map fun p => ((f (p % W) (p / W) : Nat) : Int)
theorem numL_len (W H : Nat) (f : Nat → Nat → Nat) : (numL W H f).length = W * H := by simp [numL]
theorem numL_get (W H : Nat) (f : Nat → Nat → Nat) (p : Nat) (hp : p < (numL W H f).length) : (numL W H f)[p] = ((f (p % W) (p / W) : Nat) : Int) := by simp [numL]
theorem numL_ext {W H : Nat} {f g : Nat → Nat → Nat} (h : ∀ a b, a < W → b < H → f a b = g a b) : numL W H f = numL W H g := by
  refine List.ext_getElem (by rw [numL_len, numL_len]) (fun p h1 h2 => ?_)
  rw [numL_get, numL_get]
  rw [numL_len] at h1
  have hW : 0 < W := by
    rcases Nat.eq_zero_or_pos W with h0 | h0
    · subst h0; simp at h1
    · exact h0
  rw [h _ _ (Nat.mod_lt p hW) (Nat.div_lt_of_lt_mul h1)]
theorem numL_set {W H : Nat} (f : Nat → Nat → Nat) (a b : Nat) (ha : a < W) (hb : b < H) : (numL W H f).set (b * W + a) (((f a b + 1 : Nat)) : Int) = numL W H (fun u v => f u v + if u = a ∧ v = b then 1 else 0) := by
  refine List.ext_getElem (by rw [List.length_set, numL_len, numL_len]) (fun p h1 h2 => ?_)
  rw [List.getElem_set, numL_get W H _ p h2]
  have e1 : (b * W + a) % W = a := by rw [Nat.add_comm, Nat.add_mul_mod_self_right]; exact Nat.mod_eq_of_lt ha
  have e2 : (b * W + a) / W = b := by rw [Nat.add_comm, Nat.add_mul_div_right _ _ (by omega), Nat.div_eq_of_lt ha, Nat.zero_add]
  by_cases h : b * W + a = p
  · subst h
    rw [if_pos rfl, e1, e2, if_pos ⟨rfl, rfl⟩]
  · rw [if_neg h, numL_get, if_neg]
    · simp
    · rintro ⟨h3, h4⟩
      apply h
      have := Nat.div_add_mod p W
      rw [h3, h4] at this
      rw [← this, Nat.mul_comm]
theorem place_lt_ {W H a b : Nat} (ha : a < W) (hb : b < H) : b * W + a < W * H := by
  have : (b + 1) * W ≤ H * W := Nat.mul_le_mul_right W hb
  rw [Nat.add_mul] at this
  rw [Nat.mul_comm W H]
  omega
end Go.Proofs.Ytaloieeemibblaa
