/- A part of an image laid in again at its place: the list is as it was. -/
import Derived.Test.YtkfomjdmdgddlaaQv
namespace Go.Proofs.Ytkfomjdmdgddlaa
open Go.ChangeShapes Go.WideShapes Go.ChangeAt Go.RowKit

theorem spL_same (L : List Int) (F n : Nat) (h : F + n ≤ L.length) : spL L F ((L.drop F).take n) = L := by
  unfold spL
  rw [List.length_take, List.length_drop, Nat.min_eq_left (by omega), ← List.drop_drop, List.take_append_drop, List.take_append_drop]
theorem partL_row {l : List Int} {W H X Y P : Nat} (hl : l.length = 4 * (W * H)) (hx : X + P ≤ W) (k : Nat) : ∀ Q, Y + Q ≤ H → k < Q → ((partL l W X Y P Q).drop (4 * (k * P))).take (4 * P) = (l.drop (4 * ((Y + k) * W + X))).take (4 * P)
  | 0, _, hk => by omega
  | Q + 1, hq, hk => by
    have hlen := partL_length (Y := Y) hl hx Q (by omega)
    have hcom : P * Q = Q * P := Nat.mul_comm P Q
    rw [partL]
    rcases Nat.lt_or_ge k Q with h | h
    · have ih := partL_row (Y := Y) hl hx k Q (by omega) h
      have h2 := place_lt (W := P) (H := Q) (X := 0) (Y := k) (n := P) (by omega) h
      rw [List.drop_append_of_le_length (by rw [hlen]; omega), List.take_append_of_le_length (by rw [List.length_drop, hlen]; omega)]
      exact ih
    · obtain rfl : k = Q := by omega
      rw [show 4 * (k * P) = (partL l W X Y P k).length by rw [hlen, hcom], List.drop_left, List.take_take, Nat.min_self]
theorem rowsL_part {l : List Int} {W H X Y P Q : Nat} (hl : l.length = 4 * (W * H)) (hx : X + P ≤ W) (hy : Y + Q ≤ H) : ∀ k, k ≤ Q → rowsL l W (partL l W X Y P Q) P X Y 0 0 P k = l
  | 0, _ => rfl
  | k + 1, hk => by
    have hp := place_lt (W := W) (H := H) (X := X) (Y := Y + k) (n := P) hx (by omega)
    rw [rowsL, rowsL_part hl hx hy k (by omega), Nat.zero_add, Nat.add_zero, partL_row hl hx k Q hy (by omega)]
    exact spL_same l _ _ (by rw [hl]; omega)
theorem pasL_part {l : List Int} {W H X Y P Q : Nat} (hl : l.length = 4 * (W * H)) (hW : W ≤ 4096) (hH : H ≤ 4096) (hP : 1 ≤ P) (hQ : 1 ≤ Q) (hx : X + P ≤ W) (hy : Y + Q ≤ H) : pasL l (W : Int) (H : Int) (partL l W X Y P Q) (P : Int) (Q : Int) (X : Int) (Y : Int) = l := by
  unfold pasL
  have e1 : wrap64 ((X : Int) + (P : Int)) = ((X + P : Nat) : Int) := by rw [IntWalk.wrap64_in _ (by omega)]; omega
  have e2 : wrap64 ((Y : Int) + (Q : Int)) = ((Y + Q : Nat) : Int) := by rw [IntWalk.wrap64_in _ (by omega)]; omega
  have m1 : min ((X + P : Nat) : Int) (W : Int) = ((X + P : Nat) : Int) := by omega
  have m2 : min ((Y + Q : Nat) : Int) (H : Int) = ((Y + Q : Nat) : Int) := by omega
  have m3 : max (X : Int) 0 = (X : Int) := by omega
  have m4 : max (Y : Int) 0 = (Y : Int) := by omega
  rw [e1, e2, m1, m2, m3, m4, if_neg (by omega)]
  rw [show (X : Int) - (X : Int) = 0 by omega, show (Y : Int) - (Y : Int) = 0 by omega, show ((X + P : Nat) : Int) - (X : Int) = (P : Int) by omega, show ((Y + Q : Nat) : Int) - (Y : Int) = (Q : Int) by omega]
  simp only [Int.toNat_natCast, Int.toNat_zero]
  exact rowsL_part hl hx hy Q (Nat.le_refl _)
/-- What a part's image is, and what it is laid in again as. -/
theorem crop_cases (W H : Int) (l : List Int) (x y p q : Int) : (cropI W H l x y p q = errI 6 ∨ cropI W H l x y p q = errI 2) ∨
    ∃ pl, cropI W H l x y p q = ⟨p, q, 0, pl⟩ ∧ pasI W H l p q pl x y = ⟨W, H, 0, l⟩ := by
  cases hg : goodB W H l.length with
  | false => exact .inl (.inl (by unfold cropI; rw [if_neg (by rw [hg]; simp)]))
  | true =>
    cases hi : inB x y p q W H with
    | false => exact .inl (.inr (by unfold cropI; rw [if_pos hg, if_neg (by rw [hi]; simp)]))
    | true =>
      refine .inr ⟨partL l W.toNat x.toNat y.toNat p.toNat q.toNat, by unfold cropI; rw [if_pos hg, if_pos hi], ?_⟩
      obtain ⟨W, H, rfl, rfl, hn4, hfew, hw1, hw2, hh1, hh2⟩ := goodB_nat hg
      obtain ⟨i1, i2, i3, i4, i5, i6⟩ := inB_bd hi
      obtain ⟨X, rfl⟩ : ∃ X : Nat, x = (X : Int) := ⟨x.toNat, by omega⟩
      obtain ⟨Y, rfl⟩ : ∃ Y : Nat, y = (Y : Int) := ⟨y.toNat, by omega⟩
      obtain ⟨P, rfl⟩ : ∃ P : Nat, p = (P : Int) := ⟨p.toNat, by omega⟩
      obtain ⟨Q, rfl⟩ : ∃ Q : Nat, q = (Q : Int) := ⟨q.toNat, by omega⟩
      simp only [Int.toNat_natCast]
      have hlen := partL_length (Y := Y) hn4 (show X + P ≤ W by omega) Q (by omega)
      have hPQ : P * Q ≤ W * H := Nat.mul_le_mul (by omega) (by omega)
      have hgp : goodB (P : Int) (Q : Int) (partL l W X Y P Q).length = true := by
        rw [hlen]
        have e1 : (P : Int) * (Q : Int) = ((P * Q : Nat) : Int) := by rw [Int.natCast_mul]
        have e2 : (4 : Int) * (P : Int) * (Q : Int) = ((4 * (P * Q) : Nat) : Int) := by rw [Int.mul_assoc, e1]; omega
        simp only [goodB, mayB, sideB, Bool.and_eq_true, decide_eq_true_eq]
        rw [e1, e2]
        omega
      unfold pasI
      rw [if_pos ⟨hg, hgp⟩, pasL_part hn4 hw2 hh2 (by omega) (by omega) (by omega) (by omega)]
end Go.Proofs.Ytkfomjdmdgddlaa
