/- Filtered rows and what they were: mathematics. No walk. -/
import Derived.Test.YtjcnjnkcpempoaaEe
set_option linter.unusedVariables false
set_option linter.unusedSimpArgs false
namespace Go.Proofs.Ytjcnjnkcpempoaa

theorem byteAt_app_l {a b : List UInt8} {i : Nat} (h : i < a.length) : byteAt (a ++ b) i = byteAt a i := by
  unfold byteAt; rw [List.getElem?_append_left h]
theorem byteAt_app_r {a b : List UInt8} {i : Nat} (h : a.length ≤ i) : byteAt (a ++ b) i = byteAt b (i - a.length) := by
  unfold byteAt; rw [List.getElem?_append_right h]
theorem byteAt_drop (l : List UInt8) (k i : Nat) : byteAt (l.drop k) i = byteAt l (k + i) := by
  unfold byteAt; rw [List.getElem?_drop]
theorem byteAt_take {l : List UInt8} {k i : Nat} (h : i < k) : byteAt (l.take k) i = byteAt l i := by
  unfold byteAt; rw [List.getElem?_take_of_lt h]
theorem byteAt_none {l : List UInt8} {i : Nat} (h : l.length ≤ i) : byteAt l i = 0 := by
  unfold byteAt; rw [List.getElem?_eq_none h]; rfl
theorem byteAt_zeros (n i : Nat) : byteAt (List.replicate n 0) i = 0 := by
  unfold byteAt
  rw [List.getElem?_replicate]
  split <;> rfl
theorem gsB_congr {kind bpp i : Nat} {r r' ab ab' : List UInt8} (h1 : bpp ≤ i → byteAt r (i - bpp) = byteAt r' (i - bpp)) (h2 : byteAt ab i = byteAt ab' i) (h3 : bpp ≤ i → byteAt ab (i - bpp) = byteAt ab' (i - bpp)) : gsB kind bpp i r ab = gsB kind bpp i r' ab' := by
  unfold gsB
  rw [h2]
  by_cases h : bpp ≤ i
  · simp only [if_pos h, h1 h, h3 h]
  · simp only [if_neg h]
/-- The first n bytes of a row of which f is the filtering. -/
def uRow (kind bpp : Nat) (f ab : List UInt8) : Nat → List UInt8
  | 0 => []
  | n + 1 => uRow kind bpp f ab n ++ [UInt8.ofNat (byteAt f n + gsB kind bpp n (uRow kind bpp f ab n) ab)]
theorem uRow_length (kind bpp : Nat) (f ab : List UInt8) : ∀ n, (uRow kind bpp f ab n).length = n
  | 0 => rfl
  | n + 1 => by rw [uRow, List.length_append, uRow_length kind bpp f ab n]; rfl
/-- The row as it is gone through in its place. -/
def bufU (kind bpp : Nat) (f ab : List UInt8) (n : Nat) : List UInt8 := uRow kind bpp f ab n ++ f.drop n
theorem bufU_zero (kind bpp : Nat) (f ab : List UInt8) : bufU kind bpp f ab 0 = f := rfl
theorem bufU_length {kind bpp : Nat} {f ab : List UInt8} {n : Nat} (h : n ≤ f.length) : (bufU kind bpp f ab n).length = f.length := by
  rw [bufU, List.length_append, uRow_length, List.length_drop]; omega
theorem bufU_all {kind bpp : Nat} {f ab : List UInt8} {n : Nat} (h : f.length = n) : bufU kind bpp f ab n = uRow kind bpp f ab n := by
  rw [bufU, List.drop_of_length_le (by omega), List.append_nil]
theorem bufU_at {kind bpp : Nat} {f ab : List UInt8} {n : Nat} : byteAt (bufU kind bpp f ab n) n = byteAt f n := by
  rw [bufU, byteAt_app_r (by rw [uRow_length]; omega), uRow_length, byteAt_drop]; simp
theorem bufU_gs {kind bpp : Nat} {f ab : List UInt8} {n : Nat} (hb : 1 ≤ bpp) : gsB kind bpp n (bufU kind bpp f ab n) ab = gsB kind bpp n (uRow kind bpp f ab n) ab :=
  gsB_congr (fun h => byteAt_app_l (by rw [uRow_length]; omega)) rfl (fun _ => rfl)
theorem set_at {a b : List UInt8} {x y : UInt8} {n : Nat} (h : a.length = n) : (a ++ y :: b).set n x = a ++ x :: b := by
  subst h
  rw [List.set_append_right _ _ (Nat.le_refl _)]
  simp
theorem bufU_step {kind bpp : Nat} {f ab : List UInt8} {n : Nat} (hb : 1 ≤ bpp) (h : n < f.length) : (bufU kind bpp f ab n).set n (UInt8.ofNat (byteAt f n + gsB kind bpp n (bufU kind bpp f ab n) ab)) = bufU kind bpp f ab (n + 1) := by
  rw [bufU_gs hb]
  unfold bufU
  rw [List.drop_eq_getElem_cons h, set_at (uRow_length ..), uRow]
  simp
/-- The filtered row k. -/
def pcU (W : Nat) (b : List UInt8) (k : Nat) : List UInt8 := (b.drop ((W + 1) * k)).take (W + 1)
/-- The row ahead of row k; of the first one, zeros. -/
def rowU (W bpp : Nat) (b : List UInt8) : Nat → List UInt8
  | 0 => List.replicate W 0
  | k + 1 => uRow (byteAt (pcU W b k) 0) bpp ((pcU W b k).drop 1) (rowU W bpp b k) W
theorem rowU_length (W bpp : Nat) (b : List UInt8) : ∀ k, (rowU W bpp b k).length = W
  | 0 => by simp [rowU]
  | k + 1 => uRow_length ..
/-- The first k rows. -/
def outU (W bpp : Nat) (b : List UInt8) : Nat → List UInt8
  | 0 => []
  | k + 1 => outU W bpp b k ++ rowU W bpp b (k + 1)
theorem outU_length (W bpp : Nat) (b : List UInt8) : ∀ k, (outU W bpp b k).length = W * k
  | 0 => by simp [outU]
  | k + 1 => by rw [outU, List.length_append, outU_length W bpp b k, rowU_length, Nat.mul_succ]
theorem pcU_length {W : Nat} {b : List UInt8} {k N : Nat} (h : (W + 1) * N = b.length) (hk : k < N) : (pcU W b k).length = W + 1 := by
  have := Nat.mul_le_mul_left (W + 1) (show k + 1 ≤ N by omega)
  rw [Nat.mul_succ] at this
  rw [pcU, List.length_take, List.length_drop]
  omega
theorem u8_val (x g : Nat) : (UInt8.ofNat (x + g)).toNat = (x + g) % 256 := UInt8.toNat_ofNat'
end Go.Proofs.Ytjcnjnkcpempoaa
