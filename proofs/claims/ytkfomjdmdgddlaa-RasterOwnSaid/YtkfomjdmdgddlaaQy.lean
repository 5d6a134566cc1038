/- Paste, the document's: its list, pixel by pixel, is the program's. -/
import Derived.Test.YtkfomjdmdgddlaaQw
import Derived.Test.YtkfomjdmdgddlaaQx
namespace Go.Proofs.Ytkfomjdmdgddlaa
open Go.ChangeShapes Go.WideShapes Go.ChangeAt Go.RowKit

/-- Does the image that is laid in reach the place (i, k)? -/
def covB (P Q : Nat) (x y : Int) (i k : Nat) : Prop := y ≤ (k : Int) ∧ x ≤ (i : Int) ∧ (k : Int) - Q < y ∧ (i : Int) - P < x
instance (P Q : Nat) (x y : Int) (i k : Nat) : Decidable (covB P Q x y i k) := by unfold covB; infer_instance
/-- The first i places of row k. -/
def rowR (L : List Int) (W : Nat) (m : List Int) (P Q : Nat) (x y : Int) (k : Nat) : Nat → List Int
  | 0 => L
  | i + 1 => if covB P Q x y i k then setQ (rowR L W m P Q x y k i) (4 * (k * W + i)) (pxAt m (4 * (((k : Int) - y).toNat * P + ((i : Int) - x).toNat))) else rowR L W m P Q x y k i
/-- The first k rows. -/
def refPL (l : List Int) (W : Nat) (m : List Int) (P Q : Nat) (x y : Int) : Nat → List Int
  | 0 => l
  | k + 1 => rowR (refPL l W m P Q x y k) W m P Q x y k W
theorem rowR_length (L : List Int) (W : Nat) (m : List Int) (P Q : Nat) (x y : Int) (k : Nat) : ∀ i, (rowR L W m P Q x y k i).length = L.length
  | 0 => rfl
  | i + 1 => by
    rw [rowR]
    split
    · rw [setQ_length, rowR_length L W m P Q x y k i]
    · exact rowR_length L W m P Q x y k i
theorem refPL_length (l : List Int) (W : Nat) (m : List Int) (P Q : Nat) (x y : Int) : ∀ k, (refPL l W m P Q x y k).length = l.length
  | 0 => rfl
  | k + 1 => by rw [refPL, rowR_length, refPL_length l W m P Q x y k]
theorem setQ_get (L : List Int) (F : Nat) (z : Col) (h : F + 4 ≤ L.length) (t : Nat) : (setQ L F z).getD t 0 = if F ≤ t ∧ t < F + 4 then (colQ z).getD (t - F) 0 else L.getD t 0 := by
  unfold setQ colQ
  simp only [List.getD_eq_getElem?_getD, List.getElem?_set, List.length_set]
  by_cases h0 : t = F
  · subst h0
    rw [if_neg (by omega), if_neg (by omega), if_neg (by omega), if_pos rfl, if_pos (by omega), if_pos (by omega)]
    simp
  by_cases h1 : t = F + 1
  · subst h1
    rw [if_neg (by omega), if_neg (by omega), if_pos rfl, if_pos (by omega), if_pos (by omega)]
    simp
  by_cases h2 : t = F + 2
  · subst h2
    rw [if_neg (by omega), if_pos rfl, if_pos (by omega), if_pos (by omega)]
    simp
  by_cases h3 : t = F + 3
  · subst h3
    rw [if_pos rfl, if_pos (by omega), if_pos (by omega)]
    simp
  rw [if_neg (by omega), if_neg (by omega), if_neg (by omega), if_neg (by omega), if_neg (by omega)]
theorem colQ_px (m : List Int) (G c : Nat) (h : c < 4) : (colQ (pxAt m G)).getD c 0 = m.getD (G + c) 0 := by
  unfold colQ pxAt
  rcases c with _ | _ | _ | _ | c
  · rfl
  · rfl
  · rfl
  · rfl
  · omega
/-- Two places of a row, in order. -/
theorem place_run {W I K Z X R : Nat} (hI : I < W) (hX : X + R ≤ W) : (Z * W + X ≤ K * W + I ∧ K * W + I < Z * W + X + R) ↔ K = Z ∧ X ≤ I ∧ I < X + R := by
  constructor
  · rintro ⟨h1, h2⟩
    have e : K = Z := by
      rcases Nat.lt_trichotomy K Z with h | h | h
      · have := Nat.mul_le_mul_right W (show K + 1 ≤ Z from h)
        rw [Nat.succ_mul] at this
        omega
      · exact h
      · have := Nat.mul_le_mul_right W (show Z + 1 ≤ K from h)
        rw [Nat.succ_mul] at this
        omega
    subst e
    exact ⟨rfl, by omega, by omega⟩
  · rintro ⟨rfl, h1, h2⟩
    exact ⟨by omega, by omega⟩
theorem four_run {W I K Z X R c : Nat} (hI : I < W) (hX : X + R ≤ W) (hc : c < 4) : (4 * (Z * W + X) ≤ 4 * (K * W + I) + c ∧ 4 * (K * W + I) + c < 4 * (Z * W + X) + 4 * R) ↔ K = Z ∧ X ≤ I ∧ I < X + R := by
  rw [← place_run hI hX]
  generalize Z * W + X = a
  generalize K * W + I = b
  omega
/-- What stands at a place: the laid image's sample, or the image's own. -/
def pasV (m : List Int) (P : Nat) (x y : Int) (I K c : Nat) : Int := m.getD (4 * (((K : Int) - y).toNat * P + ((I : Int) - x).toNat) + c) 0
theorem rowR_get {L : List Int} {W H : Nat} (hL : L.length = 4 * (W * H)) (m : List Int) (P Q : Nat) (x y : Int) (k : Nat) (hk : k < H) (I K c : Nat) (hI : I < W) (hc : c < 4) :
    ∀ i, i ≤ W → (rowR L W m P Q x y k i).getD (4 * (K * W + I) + c) 0 = if (K = k ∧ I < i) ∧ covB P Q x y I K then pasV m P x y I K c else L.getD (4 * (K * W + I) + c) 0
  | 0, _ => by rw [rowR, if_neg (by omega)]
  | i + 1, hi => by
    have ih := rowR_get hL m P Q x y k hk I K c hI hc i (by omega)
    have hp := place_lt (W := W) (H := H) (X := i) (Y := k) (n := 1) (by omega) hk
    have hf := four_run (Z := k) (X := i) (R := 1) (K := K) (c := c) hI (by omega) hc
    rw [rowR]
    by_cases hcv : covB P Q x y i k
    · rw [if_pos hcv, setQ_get _ _ _ (by rw [rowR_length, hL]; omega)]
      by_cases hin : K = k ∧ i ≤ I ∧ I < i + 1
      · rw [if_pos (hf.2 hin)]
        obtain ⟨rfl, h1, h2⟩ := hin
        obtain rfl : I = i := by omega
        rw [if_pos ⟨⟨rfl, by omega⟩, hcv⟩, show 4 * (K * W + I) + c - 4 * (K * W + I) = c by omega, colQ_px _ _ _ hc]
        rfl
      · rw [if_neg (fun h => hin (hf.1 h)), ih]
        by_cases h2 : (K = k ∧ I < i) ∧ covB P Q x y I K
        · rw [if_pos h2, if_pos ⟨⟨h2.1.1, by omega⟩, h2.2⟩]
        · rw [if_neg h2, if_neg (fun h => h2 ⟨⟨h.1.1, by omega⟩, h.2⟩)]
    · rw [if_neg hcv, ih]
      by_cases h2 : (K = k ∧ I < i) ∧ covB P Q x y I K
      · rw [if_pos h2, if_pos ⟨⟨h2.1.1, by omega⟩, h2.2⟩]
      · rw [if_neg h2, if_neg (fun h => ?_)]
        rcases Nat.lt_or_ge I i with h3 | h3
        · exact h2 ⟨⟨h.1.1, h3⟩, h.2⟩
        · obtain rfl : I = i := by omega
          exact hcv (h.1.1 ▸ h.2)
theorem refPL_get {l : List Int} {W H : Nat} (hl : l.length = 4 * (W * H)) (m : List Int) (P Q : Nat) (x y : Int) (I K c : Nat) (hI : I < W) (hc : c < 4) :
    ∀ k, k ≤ H → (refPL l W m P Q x y k).getD (4 * (K * W + I) + c) 0 = if K < k ∧ covB P Q x y I K then pasV m P x y I K c else l.getD (4 * (K * W + I) + c) 0
  | 0, _ => by rw [refPL, if_neg (by omega)]
  | k + 1, hk => by
    have ih := refPL_get hl m P Q x y I K c hI hc k (by omega)
    rw [refPL, rowR_get (H := H) ((refPL_length l W m P Q x y k).trans hl) m P Q x y k (by omega) I K c hI hc W (Nat.le_refl _), ih]
    by_cases hcv : covB P Q x y I K
    · rcases Nat.lt_trichotomy K k with h | h | h
      · rw [if_neg (by omega), if_pos ⟨h, hcv⟩, if_pos ⟨by omega, hcv⟩]
      · rw [if_pos ⟨⟨h, hI⟩, hcv⟩, if_pos ⟨by omega, hcv⟩]
      · rw [if_neg (by omega), if_neg (by omega), if_neg (by omega)]
    · rw [if_neg (fun h => hcv h.2), if_neg (fun h => hcv h.2), if_neg (fun h => hcv h.2)]
theorem rowsL_get {l m : List Int} {W H P Q X Y sx sy R : Nat} (hl : l.length = 4 * (W * H)) (hm : m.length = 4 * (P * Q)) (hx : X + R ≤ W) (hsx : sx + R ≤ P) (I K c : Nat) (hI : I < W) (hc : c < 4) :
    ∀ k, Y + k ≤ H → sy + k ≤ Q → (rowsL l W m P X Y sx sy R k).getD (4 * (K * W + I) + c) 0 = if (Y ≤ K ∧ K < Y + k) ∧ X ≤ I ∧ I < X + R then m.getD (4 * ((sy + K - Y) * P + (sx + I - X)) + c) 0 else l.getD (4 * (K * W + I) + c) 0
  | 0, _, _ => by rw [rowsL, if_neg (by omega)]
  | k + 1, h1, h2 => by
    have ih := rowsL_get (Y := Y) (sy := sy) hl hm hx hsx I K c hI hc k (by omega) (by omega)
    have hlen := rowsL_length (Y := Y) (sy := sy) hl hm hx hsx k (by omega) (by omega)
    have hp := place_lt (W := W) (H := H) (X := X) (Y := Y + k) (n := R) hx (by omega)
    have hq := place_lt (W := P) (H := Q) (X := sx) (Y := sy + k) (n := R) hsx (by omega)
    have hcs : ((m.drop (4 * ((sy + k) * P + sx))).take (4 * R)).length = 4 * R := by rw [List.length_take, List.length_drop, hm]; omega
    have hf := four_run (Z := Y + k) (X := X) (R := R) (K := K) (c := c) hI hx hc
    rw [rowsL, spL_get _ _ _ (by rw [hcs, hlen]; omega), hcs]
    by_cases hin : K = Y + k ∧ X ≤ I ∧ I < X + R
    · rw [if_pos (hf.2 hin), if_pos (show (Y ≤ K ∧ K < Y + (k + 1)) ∧ X ≤ I ∧ I < X + R from ⟨by omega, hin.2⟩)]
      obtain ⟨rfl, h3, h4⟩ := hin
      rw [List.getD_eq_getElem?_getD, List.getElem?_take_of_lt (by omega), List.getElem?_drop, ← List.getD_eq_getElem?_getD]
      congr 1
      rw [show sy + (Y + k) - Y = sy + k by omega]
      generalize (sy + k) * P = a
      generalize (Y + k) * W = b
      omega
    · rw [if_neg (fun h => hin (hf.1 h)), ih]
      by_cases hc2 : (Y ≤ K ∧ K < Y + k) ∧ X ≤ I ∧ I < X + R
      · rw [if_pos hc2, if_pos (show (Y ≤ K ∧ K < Y + (k + 1)) ∧ X ≤ I ∧ I < X + R from ⟨by omega, hc2.2⟩)]
      · rw [if_neg hc2, if_neg (fun h => hc2 ⟨⟨h.1.1, ?_⟩, h.2⟩)]
        rcases Nat.lt_or_ge K (Y + k) with h5 | h5
        · exact h5
        · exact absurd ⟨by omega, h.2⟩ hin
theorem wrap_far {x P : Int} (hx : -9223372036854775808 ≤ x ∧ x ≤ 9223372036854775807) (hP : 0 ≤ P ∧ P ≤ 4096) : wrap64 (x + P) = x + P ∨ (wrap64 (x + P) < 0 ∧ 4096 < x) := by
  unfold wrap64
  omega
set_option maxHeartbeats 2000000 in
theorem pas_same {l m : List Int} {W H P Q : Nat} (hl : l.length = 4 * (W * H)) (hm : m.length = 4 * (P * Q)) (hW : W ≤ 4096) (hH : H ≤ 4096) (hP : P ≤ 4096) (hQ : Q ≤ 4096) (hP1 : 1 ≤ P) (hQ1 : 1 ≤ Q) (x y : Int)
    (hx : -9223372036854775808 ≤ x ∧ x ≤ 9223372036854775807) (hy : -9223372036854775808 ≤ y ∧ y ≤ 9223372036854775807) :
    pasL l (W : Int) (H : Int) m (P : Int) (Q : Int) x y = refPL l W m P Q x y H := by
  have hxw := wrap_far hx (P := (P : Int)) (by omega)
  have hyw := wrap_far hy (P := (Q : Int)) (by omega)
  have hXp : ∀ a b : Int, wrap64 (x + P) = a → wrap64 (y + Q) = b → (pasL l (W : Int) (H : Int) m (P : Int) (Q : Int) x y).length = 4 * (W * H) ∧
      ∀ I K c, I < W → K < H → c < 4 → (pasL l (W : Int) (H : Int) m (P : Int) (Q : Int) x y).getD (4 * (K * W + I) + c) 0 = if covB P Q x y I K then pasV m P x y I K c else l.getD (4 * (K * W + I) + c) 0 := by
    intro a b ha hb
    have hpl : pasL l (W : Int) (H : Int) m (P : Int) (Q : Int) x y = (if min a (W : Int) ≤ max x 0 then l
      else rowsL l W m P (max x 0).toNat (max y 0).toNat (max x 0 - x).toNat (max y 0 - y).toNat (min a (W : Int) - max x 0).toNat (min b (H : Int) - max y 0).toNat) := by
      unfold pasL
      rw [ha, hb]
      simp only [Int.toNat_natCast]
    rw [ha] at hxw
    rw [hb] at hyw
    rw [hpl]
    by_cases hlt : min a (W : Int) ≤ max x 0
    · rw [if_pos hlt]
      refine ⟨hl, fun I K c hI hK hc => ?_⟩
      rw [if_neg (fun h => ?_)]
      obtain ⟨h1, h2, h3, h4⟩ := h
      omega
    · rw [if_neg hlt]
      obtain ⟨X, hX⟩ : ∃ X : Nat, max x 0 = (X : Int) := ⟨(max x 0).toNat, by omega⟩
      obtain ⟨Y, hY⟩ : ∃ Y : Nat, max y 0 = (Y : Int) := ⟨(max y 0).toNat, by omega⟩
      obtain ⟨R, hR⟩ : ∃ R : Nat, (min a (W : Int) - max x 0).toNat = R := ⟨_, rfl⟩
      obtain ⟨sx, hsx⟩ : ∃ sx : Nat, (max x 0 - x).toNat = sx := ⟨_, rfl⟩
      obtain ⟨sy, hsy⟩ : ∃ sy : Nat, (max y 0 - y).toNat = sy := ⟨_, rfl⟩
      obtain ⟨k, hk⟩ : ∃ k : Nat, (min b (H : Int) - max y 0).toNat = k := ⟨_, rfl⟩
      have eX : (max x 0).toNat = X := by omega
      have eY : (max y 0).toNat = Y := by omega
      rw [eX, eY, hR, hsx, hsy, hk]
      have h1 : X + R ≤ W := by omega
      have h2 : sx + R ≤ P := by omega
      rcases Nat.eq_zero_or_pos k with hk0 | hk0
      · rw [hk0]
        refine ⟨hl, fun I K c hI hK hc => ?_⟩
        rw [rowsL, if_neg (fun h => ?_)]
        obtain ⟨h1, h2, h3, h4⟩ := h
        omega
      have h3 : Y + k ≤ H := by omega
      have h4 : sy + k ≤ Q := by omega
      refine ⟨rowsL_length hl hm h1 h2 k h3 h4, fun I K c hI hK hc => ?_⟩
      rw [rowsL_get hl hm h1 h2 I K c hI hc k h3 h4]
      by_cases hcv : covB P Q x y I K
      · obtain ⟨g1, g2, g3, g4⟩ := hcv
        rw [if_pos (by omega), if_pos ⟨g1, g2, g3, g4⟩]
        unfold pasV
        rw [show sy + K - Y = ((K : Int) - y).toNat by omega, show sx + I - X = ((I : Int) - x).toNat by omega]
      · rw [if_neg (fun h => hcv ?_), if_neg hcv]
        unfold covB
        omega
  obtain ⟨e1, e2⟩ := hXp _ _ rfl rfl
  refine List.ext_getElem (by rw [e1, refPL_length, hl]) fun t ht1 ht2 => ?_
  have ht : t < 4 * (W * H) := by rw [← e1]; exact ht1
  rcases Nat.eq_zero_or_pos W with hW0 | hW0
  · subst hW0; omega
  have d1 := Nat.div_add_mod t 4
  have d2 := Nat.div_add_mod (t / 4) W
  have hI : t / 4 % W < W := Nat.mod_lt _ hW0
  have hK : t / 4 / W < H := by
    rw [Nat.div_lt_iff_lt_mul hW0, Nat.mul_comm H W]
    omega
  have et : 4 * ((t / 4 / W) * W + t / 4 % W) + t % 4 = t := by rw [Nat.mul_comm (t / 4 / W) W]; omega
  have g1 := e2 (t / 4 % W) (t / 4 / W) (t % 4) hI hK (by omega)
  have g2 := refPL_get hl m P Q x y (t / 4 % W) (t / 4 / W) (t % 4) hI (by omega) H (Nat.le_refl _)
  rw [et] at g1 g2
  have e3 : (pasL l (W : Int) (H : Int) m (P : Int) (Q : Int) x y).getD t 0 = (refPL l W m P Q x y H).getD t 0 := by
    rw [g1, g2]
    by_cases hcv : covB P Q x y (t / 4 % W) (t / 4 / W)
    · rw [if_pos hcv, if_pos ⟨hK, hcv⟩]
    · rw [if_neg hcv, if_neg (fun h => hcv h.2)]
  simpa [List.getD, ht1, ht2] using e3
end Go.Proofs.Ytkfomjdmdgddlaa
