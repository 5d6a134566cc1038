/- Plain mathematics: a stream of stored blocks is read as what is stored. No program, no memory. -/
import Derived.Test.YtpemgjnoinnlnaaIs
import Derived.Test.YtpemgjnoinnlnaaG
namespace Go.Proofs.Ytpemgjnoinnlnaa

theorem numAt_testBit (b : List UInt8) (p n k : Nat) : (numAt b p n).testBit k = (decide (k < n) && bitAt b false (p + k)) := by
  unfold numAt num
  rw [if_neg (by decide), numLo_testBit]
theorem bitAt_byte (b : List UInt8) (j k : Nat) (hk : k < 8) : bitAt b false (8 * j + k) = (byteAt b j).testBit k := by
  unfold bitAt byteAt
  rw [show (8 * j + k) / 8 = j by omega, show (8 * j + k) % 8 = k by omega, if_neg (by decide)]
theorem num16 (b : List UInt8) (j : Nat) : numAt b (8 * j) 16 = byteAt b j + 256 * byteAt b (j + 1) := by
  have h0 := byteAt_lt b j
  have h1 := byteAt_lt b (j + 1)
  refine Nat.eq_of_testBit_eq fun k => ?_
  rw [numAt_testBit, show byteAt b j + 256 * byteAt b (j + 1) = 2 ^ 8 * byteAt b (j + 1) + byteAt b j by omega, Nat.testBit_two_pow_mul_add _ (by omega)]
  by_cases hk : k < 8
  · rw [if_pos hk, bitAt_byte b j k hk]; simp; omega
  · rw [if_neg hk]
    by_cases hk2 : k < 16
    · rw [show 8 * j + k = 8 * (j + 1) + (k - 8) by omega, bitAt_byte b (j + 1) (k - 8) (by omega)]; simp [hk2]
    · have : (byteAt b (j + 1)).testBit (k - 8) = false := Nat.testBit_lt_two_pow (Nat.lt_of_lt_of_le h1 (by
        have : 2 ^ 8 ≤ 2 ^ (k - 8) := Nat.pow_le_pow_right (by decide) (by omega)
        omega))
      rw [this]; simp [hk2]
theorem num1 (b : List UInt8) (j : Nat) : numAt b (8 * j) 1 = byteAt b j % 2 := by
  refine Nat.eq_of_testBit_eq fun k => ?_
  rw [numAt_testBit, show byteAt b j % 2 = byteAt b j % 2 ^ 1 by rfl, Nat.testBit_mod_two_pow]
  by_cases hk : k < 1
  · rw [bitAt_byte b j k (by omega)]
  · simp [hk]
theorem num2 (b : List UInt8) (j : Nat) : numAt b (8 * j + 1) 2 = byteAt b j / 2 % 4 := by
  refine Nat.eq_of_testBit_eq fun k => ?_
  rw [numAt_testBit, show byteAt b j / 2 % 4 = byteAt b j / 2 ^ 1 % 2 ^ 2 by rfl, Nat.testBit_mod_two_pow, Nat.testBit_div_two_pow]
  by_cases hk : k < 2
  · rw [show 8 * j + 1 + k = 8 * j + (k + 1) by omega, bitAt_byte b j (k + 1) (by omega)]
  · simp [hk]
theorem blockM_stored {b : List UInt8} {most j last n : Nat} {out : List UInt8} (h0 : byteAt b j = last) (hl : last ≤ 1) (h1 : byteAt b (j + 1) + 256 * byteAt b (j + 2) = n)
    (h2 : byteAt b (j + 3) + 256 * byteAt b (j + 4) = 65535 - n) (hn : n ≤ 65535) (hlen : j + 5 + n ≤ b.length) :
    blockM b most (8 * j) out = if most - out.length < n then .error 3 else .ok (8 * (j + 5 + n), out ++ (b.drop (j + 5)).take n, decide (last = 1)) := by
  have t1 : takeM b (8 * j) 1 = .ok (last, 8 * j + 1) := by
    unfold takeM; rw [if_pos (by omega), num1, h0, show last % 2 = last by omega]
  have t2 : takeM b (8 * j + 1) 2 = .ok (0, 8 * j + 1 + 2) := by
    unfold takeM; rw [if_pos (by omega), num2, h0, show last / 2 % 4 = 0 by omega]
  have t3 : takeM b (8 * (j + 1)) 16 = .ok (n, 8 * (j + 1) + 16) := by
    unfold takeM; rw [if_pos (by omega), num16, h1]
  have t4 : takeM b (8 * (j + 1) + 16) 16 = .ok (65535 - n, 8 * (j + 1) + 16 + 16) := by
    unfold takeM; rw [if_pos (by omega), show 8 * (j + 1) + 16 = 8 * (j + 3) by omega, num16, h2]
  have hs : storedM b most (8 * j + 1 + 2) out = if most - out.length < n then .error 3 else .ok (8 * (j + 5 + n), out ++ (b.drop (j + 5)).take n) := by
    unfold storedM
    rw [show (8 * j + 1 + 2 + 7) / 8 * 8 = 8 * (j + 1) by omega, t3]
    dsimp only
    rw [t4]
    dsimp only
    rw [if_neg (by omega)]
    by_cases hm : most - out.length < n
    · rw [if_pos hm, if_pos hm]
    · rw [if_neg hm, if_neg hm, show (8 * (j + 1) + 16 + 16 + 7) / 8 = j + 5 by omega, if_neg (by omega)]
  unfold blockM
  rw [t1]
  dsimp only
  rw [t2]
  dsimp only
  rw [if_pos rfl, hs]
  by_cases hm : most - out.length < n
  · rw [if_pos hm, if_pos hm]
  · rw [if_neg hm, if_neg hm]

/-- A stored block's bytes. -/
def segS (last : UInt8) (d : List UInt8) : List UInt8 := [last, UInt8.ofNat d.length, UInt8.ofNat (d.length / 256), UInt8.ofNat (255 - d.length % 256), UInt8.ofNat (255 - d.length / 256)] ++ d
theorem segS_length (last : UInt8) (d : List UInt8) : (segS last d).length = 5 + d.length := by unfold segS; simp; omega
/-- How many bytes block i stores, of those that are left behind at_. -/
def sizeS (b : List UInt8) (cuts : List Int) (i at_ : Nat) : Nat := if i < cuts.length then min (cuts.getD i 0).toNat (b.length - at_) else b.length - at_
/-- The stream's first i blocks, and how many bytes they store. -/
def preS (b : List UInt8) (cuts : List Int) : Nat → List UInt8 × Nat
  | 0 => ([], 0)
  | i + 1 => ((preS b cuts i).1 ++ segS (if i < cuts.length then 0 else 1) ((b.drop (preS b cuts i).2).take (sizeS b cuts i (preS b cuts i).2)), (preS b cuts i).2 + sizeS b cuts i (preS b cuts i).2)
section
variable {b : List UInt8} {cuts : List Int}
theorem sizeS_le (i at_ : Nat) : sizeS b cuts i at_ ≤ b.length - at_ := by unfold sizeS; split <;> omega
theorem preS_at (i : Nat) : (preS b cuts i).2 ≤ b.length := by
  induction i with
  | zero => exact Nat.zero_le _
  | succ i ih =>
    have := sizeS_le (b := b) (cuts := cuts) i (preS b cuts i).2
    simp only [preS]
    omega
theorem preS_len (i : Nat) : (preS b cuts i).1.length = 5 * i + (preS b cuts i).2 := by
  induction i with
  | zero => rfl
  | succ i ih =>
    have h1 := sizeS_le (b := b) (cuts := cuts) i (preS b cuts i).2
    have h2 := preS_at (b := b) (cuts := cuts) i
    simp only [preS, List.length_append, segS_length, List.length_take, List.length_drop, ih]
    omega
theorem preS_more (i m : Nat) : ∃ t, (preS b cuts (i + m)).1 = (preS b cuts i).1 ++ t := by
  induction m with
  | zero => exact ⟨[], by simp⟩
  | succ m ih =>
    obtain ⟨t, ht⟩ := ih
    exact ⟨_, by rw [← Nat.add_assoc]; simp only [preS]; rw [ht, List.append_assoc]⟩
theorem byteAt_behind (P Q : List UInt8) (k : Nat) : byteAt (P ++ Q) (P.length + k) = byteAt Q k := by
  unfold byteAt
  rw [List.getElem?_append_right (by omega), show P.length + k - P.length = k by omega]
theorem preS_block (most K i : Nat) (hi : i < K) (hb : b.length ≤ 60000) (out : List UInt8) :
    blockM (preS b cuts K).1 most (8 * (preS b cuts i).1.length) out = if most - out.length < sizeS b cuts i (preS b cuts i).2 then .error 3
      else .ok (8 * (preS b cuts (i + 1)).1.length, out ++ (b.drop (preS b cuts i).2).take (sizeS b cuts i (preS b cuts i).2), decide (¬ i < cuts.length)) := by
  obtain ⟨t, ht⟩ := preS_more (b := b) (cuts := cuts) (i + 1) (K - (i + 1))
  rw [show i + 1 + (K - (i + 1)) = K by omega] at ht
  have hn := sizeS_le (b := b) (cuts := cuts) i (preS b cuts i).2
  have hlen1 := preS_len (b := b) (cuts := cuts) (i + 1)
  have hleni := preS_len (b := b) (cuts := cuts) i
  have hs2 : (preS b cuts (i + 1)).2 = (preS b cuts i).2 + sizeS b cuts i (preS b cuts i).2 := rfl
  have hs1 : (preS b cuts (i + 1)).1 = (preS b cuts i).1 ++ segS (if i < cuts.length then 0 else 1) ((b.drop (preS b cuts i).2).take (sizeS b cuts i (preS b cuts i).2)) := rfl
  generalize sizeS b cuts i (preS b cuts i).2 = n at *
  have hd : ((b.drop (preS b cuts i).2).take n).length = n := by simp; omega
  generalize hD : (b.drop (preS b cuts i).2).take n = D at *
  have hlt : (preS b cuts K).1.length = (preS b cuts (i + 1)).1.length + t.length := by rw [ht]; simp
  rw [hs1] at ht
  have hB : ∀ k, byteAt (preS b cuts K).1 ((preS b cuts i).1.length + k) = byteAt (segS (if i < cuts.length then 0 else 1) D ++ t) k := fun k => by
    rw [ht, List.append_assoc]; exact byteAt_behind _ _ k
  have hdr : ((preS b cuts K).1.drop ((preS b cuts i).1.length + 5)).take n = D := by
    rw [ht, List.append_assoc, ← List.drop_drop, List.drop_left]
    unfold segS
    rw [List.append_assoc]
    simp only [List.cons_append, List.nil_append, List.drop_succ_cons, List.drop_zero]
    rw [← hd, List.take_left]
  have h5 : (preS b cuts (i + 1)).1.length = (preS b cuts i).1.length + 5 + n := by omega
  rw [h5]
  have := blockM_stored (b := (preS b cuts K).1) (most := most) (j := (preS b cuts i).1.length) (last := if i < cuts.length then 0 else 1) (n := n) (out := out)
    (by have := hB 0; rw [Nat.add_zero] at this; rw [this]; unfold segS byteAt; split <;> rfl) (by split <;> omega)
    (by
      rw [hB 1, hB 2]
      unfold segS byteAt
      simp [hd]
      omega)
    (by
      rw [hB 3, hB 4]
      unfold segS byteAt
      simp [hd]
      omega) (by omega) (by omega)
  rw [this, hdr]
  by_cases hc : i < cuts.length
  · simp [hc]
  · simp [hc]
theorem take_more (a n : Nat) : b.take a ++ (b.drop a).take n = b.take (a + n) := by
  rw [List.take_add]
theorem stored_ok {most : Nat} (hb : b.length ≤ 60000) (hm : b.length ≤ most) : ∀ d i fuel, i + d = cuts.length → d + 1 ≤ fuel →
    rawF (preS b cuts (cuts.length + 1)).1 most fuel (8 * (preS b cuts i).1.length) (b.take (preS b cuts i).2) = .ok (8 * (preS b cuts (cuts.length + 1)).1.length, b)
  | 0, i, fuel, hi, hf => by
    obtain ⟨f, rfl⟩ : ∃ f, fuel = f + 1 := ⟨fuel - 1, by omega⟩
    have ha := preS_at (b := b) (cuts := cuts) i
    have hz : sizeS b cuts i (preS b cuts i).2 = b.length - (preS b cuts i).2 := by unfold sizeS; rw [if_neg (by omega)]
    rw [rawF, preS_block most _ i (by omega) hb, hz, if_neg (by simp; omega), take_more, decide_eq_true (by omega)]
    rw [show (preS b cuts i).2 + (b.length - (preS b cuts i).2) = b.length by omega, List.take_length, show i + 1 = cuts.length + 1 by omega]
  | d + 1, i, fuel, hi, hf => by
    obtain ⟨f, rfl⟩ : ∃ f, fuel = f + 1 := ⟨fuel - 1, by omega⟩
    have ha := preS_at (b := b) (cuts := cuts) i
    have hz := sizeS_le (b := b) (cuts := cuts) i (preS b cuts i).2
    rw [rawF, preS_block most _ i (by omega) hb, if_neg (by simp; omega), take_more, decide_eq_false (by omega)]
    exact stored_ok hb hm d (i + 1) f (by omega) (by omega)
theorem stored_long {most : Nat} (hb : b.length ≤ 60000) (hm : most < b.length) : ∀ d i fuel, i + d = cuts.length → d + 1 ≤ fuel → (preS b cuts i).2 ≤ most →
    rawF (preS b cuts (cuts.length + 1)).1 most fuel (8 * (preS b cuts i).1.length) (b.take (preS b cuts i).2) = .error 3
  | 0, i, fuel, hi, hf, ha => by
    obtain ⟨f, rfl⟩ : ∃ f, fuel = f + 1 := ⟨fuel - 1, by omega⟩
    have hz : sizeS b cuts i (preS b cuts i).2 = b.length - (preS b cuts i).2 := by unfold sizeS; rw [if_neg (by omega)]
    rw [rawF, preS_block most _ i (by omega) hb, hz, if_pos (by simp; omega)]
  | d + 1, i, fuel, hi, hf, ha => by
    obtain ⟨f, rfl⟩ : ∃ f, fuel = f + 1 := ⟨fuel - 1, by omega⟩
    rw [rawF, preS_block most _ i (by omega) hb]
    have hl : (b.take (preS b cuts i).2).length = (preS b cuts i).2 := by simp; omega
    rw [hl]
    by_cases hc : most - (preS b cuts i).2 < sizeS b cuts i (preS b cuts i).2
    · rw [if_pos hc]
    · rw [if_neg hc, take_more, decide_eq_false (by omega)]
      exact stored_long hb hm d (i + 1) f (by omega) (by omega) (by simp only [preS]; omega)
theorem rawM_stored {most : Nat} (hb : b.length ≤ 60000) (hm : b.length ≤ most) : rawM (preS b cuts (cuts.length + 1)).1 most = .ok (b, (preS b cuts (cuts.length + 1)).1.length) := by
  have hl := preS_len (b := b) (cuts := cuts) (cuts.length + 1)
  have h := stored_ok (cuts := cuts) hb hm cuts.length 0 (8 * (preS b cuts (cuts.length + 1)).1.length + 1) (by omega) (by omega)
  unfold rawM
  rw [show (rawF (preS b cuts (cuts.length + 1)).1 most (8 * (preS b cuts (cuts.length + 1)).1.length + 1) 0 []) = .ok (8 * (preS b cuts (cuts.length + 1)).1.length, b) from h]
  dsimp only
  rw [show (8 * (preS b cuts (cuts.length + 1)).1.length + 7) / 8 = (preS b cuts (cuts.length + 1)).1.length by omega]
theorem rawM_storedLong {most : Nat} (hb : b.length ≤ 60000) (hm : most < b.length) : rawM (preS b cuts (cuts.length + 1)).1 most = .error 3 := by
  have hl := preS_len (b := b) (cuts := cuts) (cuts.length + 1)
  have h := stored_long (cuts := cuts) hb hm cuts.length 0 (8 * (preS b cuts (cuts.length + 1)).1.length + 1) (by omega) (by omega) (Nat.zero_le _)
  unfold rawM
  rw [show (rawF (preS b cuts (cuts.length + 1)).1 most (8 * (preS b cuts (cuts.length + 1)).1.length + 1) 0 []) = .error 3 from h]
end
end Go.Proofs.Ytpemgjnoinnlnaa
