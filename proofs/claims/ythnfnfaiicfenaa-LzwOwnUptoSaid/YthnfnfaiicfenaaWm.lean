/- The packer of runs: plain mathematics. -/
import Derived.Test.YthnfnfaiicfenaaUa
namespace Go.Proofs.Ythnfnfaiicfenaa

/-- How many at the front are x, m at most. -/
def runLen : Nat → UInt8 → List UInt8 → Nat
  | 0, _, _ => 0
  | _ + 1, _, [] => 0
  | m + 1, x, y :: t => if y = x then runLen m x t + 1 else 0
theorem runLen_nil (m : Nat) (x : UInt8) : runLen m x [] = 0 := by cases m <;> rfl
theorem runLen_le : ∀ (m : Nat) (x : UInt8) (l : List UInt8), runLen m x l ≤ m ∧ runLen m x l ≤ l.length
  | 0, _, _ => ⟨Nat.zero_le _, Nat.zero_le _⟩
  | _ + 1, _, [] => ⟨Nat.zero_le _, Nat.zero_le _⟩
  | m + 1, x, y :: t => by
    have := runLen_le m x t
    unfold runLen
    split
    · simp only [List.length_cons]; omega
    · simp
theorem runLen_take : ∀ (m : Nat) (x : UInt8) (l : List UInt8), l.take (runLen m x l) = List.replicate (runLen m x l) x
  | 0, _, _ => rfl
  | _ + 1, _, [] => by simp [runLen]
  | m + 1, x, y :: t => by
    have := runLen_take m x t
    unfold runLen
    split
    · rename_i h; subst h; rw [List.take_succ_cons, this, List.replicate_succ]
    · rfl
theorem runLen_all (m : Nat) (x : UInt8) : ∀ n, runLen m x (List.replicate n x) = min m n := by
  induction m with
  | zero => intro n; simp [runLen]
  | succ m ih =>
    intro n
    cases n with
    | zero => simp [runLen]
    | succ n => rw [List.replicate_succ]; unfold runLen; rw [if_pos rfl, ih]; omega
/-- How long the run is that begins at a place. -/
def rl (b : List UInt8) (i : Nat) : Nat := match b.drop i with
  | [] => 0
  | x :: t => runLen 128 x (x :: t)
theorem rl_eq (b : List UInt8) (i : Nat) (h : i < b.length) : rl b i = runLen 128 b[i] (b.drop i) := by
  unfold rl
  rw [List.drop_eq_getElem_cons h]
theorem rl_one (b : List UInt8) (i : Nat) (h : i < b.length) : 1 ≤ rl b i ∧ rl b i ≤ 128 ∧ i + rl b i ≤ b.length := by
  rw [rl_eq b i h]
  have h1 := runLen_le 128 b[i] (b.drop i)
  rw [List.length_drop] at h1
  refine ⟨?_, h1.1, by omega⟩
  rw [List.drop_eq_getElem_cons h]
  unfold runLen
  rw [if_pos rfl]
  omega
theorem rl_take (b : List UInt8) (i : Nat) (h : i < b.length) : (b.drop i).take (rl b i) = List.replicate (rl b i) b[i] := by
  rw [rl_eq b i h]; exact runLen_take _ _ _
/-- Where the k-th run begins. -/
def atR (b : List UInt8) : Nat → Nat
  | 0 => 0
  | k + 1 => atR b k + rl b (atR b k)
theorem atR_ends (b : List UInt8) : ∃ N, atR b N = b.length ∧ ∀ k, k < N → atR b k < b.length := by
  have key : ∀ m, (∃ N, atR b N = b.length ∧ ∀ k, k < N → atR b k < b.length) ∨ (m ≤ atR b m ∧ ∀ k, k ≤ m → atR b k < b.length) := by
    intro m
    induction m with
    | zero =>
      by_cases h : 0 < b.length
      · exact .inr ⟨Nat.zero_le _, fun k hk => (by rw [show k = 0 from Nat.le_zero.1 hk]; exact h)⟩
      · exact .inl ⟨0, by show 0 = _; omega, fun k hk => by omega⟩
    | succ m ih =>
      rcases ih with h | ⟨h1, h2⟩
      · exact .inl h
      · have hm := h2 m (Nat.le_refl _)
        have hr := rl_one b (atR b m) hm
        have e : atR b (m + 1) = atR b m + rl b (atR b m) := rfl
        by_cases h : atR b (m + 1) = b.length
        · exact .inl ⟨m + 1, h, fun k hk => h2 k (by omega)⟩
        · refine .inr ⟨by omega, fun k hk => ?_⟩
          by_cases hk2 : k = m + 1
          · subst hk2; omega
          · exact h2 k (by omega)
  rcases key b.length with h | ⟨h1, h2⟩
  · exact h
  · have := h2 b.length (Nat.le_refl _); omega
/-- Bytes that stay as they are, by pieces of 128, the first k of them. -/
def litsTo (l : List UInt8) : Nat → List UInt8
  | 0 => []
  | k + 1 => litsTo l k ++ UInt8.ofNat (min 128 (l.length - 128 * k) - 1) :: (l.drop (128 * k)).take (min 128 (l.length - 128 * k))
def lits (l : List UInt8) : List UInt8 := litsTo l ((l.length + 127) / 128)
theorem litsTo_length (l : List UInt8) : ∀ k, 128 * k ≤ l.length + 127 → (litsTo l k).length = min (128 * k) l.length + k
  | 0, _ => by simp [litsTo]
  | k + 1, h => by
    have := litsTo_length l k (by omega)
    simp only [litsTo, List.length_append, List.length_cons, List.length_take, List.length_drop, this]
    omega
theorem lits_length (l : List UInt8) : (lits l).length = l.length + (l.length + 127) / 128 := by
  unfold lits
  rw [litsTo_length l _ (by omega)]
  omega
/-- What is read as y. -/
def Reads (p y : List UInt8) : Prop := ∃ c, c ≤ p.length ∧ ∀ M f rest out, out.length + y.length ≤ M → runsF M (f + c) (p ++ rest) out = runsF M f rest (out ++ y)
theorem Reads.nil : Reads [] [] := ⟨0, Nat.le_refl _, fun M f rest out _ => by simp⟩
theorem Reads.app {p y p' y' : List UInt8} (h : Reads p y) (h' : Reads p' y') : Reads (p ++ p') (y ++ y') := by
  obtain ⟨c, hc, hr⟩ := h
  obtain ⟨c', hc', hr'⟩ := h'
  refine ⟨c + c', by rw [List.length_append]; omega, fun M f rest out ho => ?_⟩
  rw [List.length_append] at ho
  rw [show f + (c + c') = f + c' + c from by omega, List.append_assoc, hr M _ _ _ (by omega), hr' M f rest _ (by rw [List.length_append]; omega), List.append_assoc]
theorem u8_nat (n : Nat) (h : n < 256) : (UInt8.ofNat n).toNat = n := by
  show n % 256 = n
  omega
theorem Reads.lit (l : List UInt8) (h1 : 1 ≤ l.length) (h2 : l.length ≤ 128) : Reads (UInt8.ofNat (l.length - 1) :: l) l := by
  refine ⟨1, by simp, fun M f rest out ho => ?_⟩
  have e := u8_nat (l.length - 1) (by omega)
  rw [List.cons_append, runsF_cons, e, if_pos (by omega), if_neg (by rw [List.length_append]; omega), if_neg (by omega), show l.length - 1 + 1 = l.length from by omega]
  simp
theorem Reads.run (x : UInt8) (r : Nat) (h1 : 2 ≤ r) (h2 : r ≤ 128) : Reads [UInt8.ofNat (257 - r), x] (List.replicate r x) := by
  refine ⟨1, by simp, fun M f rest out ho => ?_⟩
  have e := u8_nat (257 - r) (by omega)
  rw [List.length_replicate] at ho
  rw [List.cons_append, runsF_cons, e, if_neg (by omega), if_neg (by omega)]
  simp only [List.cons_append, List.nil_append]
  rw [show 257 - (257 - r) = r from by omega, if_neg (by omega)]
theorem Reads.litsTo (l : List UInt8) : ∀ k, 128 * k ≤ l.length + 127 → Reads (litsTo l k) (l.take (128 * k))
  | 0, _ => by simpa [Go.Proofs.Ythnfnfaiicfenaa.litsTo] using Reads.nil
  | k + 1, h => by
    have hl : ((l.drop (128 * k)).take (min 128 (l.length - 128 * k))).length = min 128 (l.length - 128 * k) := by rw [List.length_take, List.length_drop]; omega
    have h1 := Reads.lit ((l.drop (128 * k)).take (min 128 (l.length - 128 * k))) (by omega) (by omega)
    rw [hl] at h1
    have e : l.take (128 * (k + 1)) = l.take (128 * k) ++ (l.drop (128 * k)).take (min 128 (l.length - 128 * k)) := by
      rw [show 128 * (k + 1) = 128 * k + 128 from by omega, List.take_add]
      congr 1
      by_cases hm : 128 ≤ l.length - 128 * k
      · rw [Nat.min_eq_left hm]
      · rw [Nat.min_eq_right (by omega), List.take_of_length_le (by rw [List.length_drop]; omega), List.take_of_length_le (by rw [List.length_drop]; omega)]
    rw [e]
    exact (Reads.litsTo l k (by omega)).app h1
theorem Reads.lits (l : List UInt8) : Reads (lits l) l := by
  have := Reads.litsTo l ((l.length + 127) / 128) (by omega)
  rwa [List.take_of_length_le (by omega)] at this
theorem Reads.unpack {p y : List UInt8} (h : Reads p y) (M : Nat) (hM : y.length ≤ M) : runsM p M = .ok y := by
  obtain ⟨c, hc, hr⟩ := h
  unfold runsM
  have := hr M (p.length - c + 1) [] [] (by simpa using hM)
  rw [show p.length - c + 1 + c = p.length + 1 from by omega, List.append_nil, runsF_nil] at this
  simpa using this
/-- Whether a run is written as one. -/
def savesB (r : Nat) (behind : Bool) : Bool := decide (2 < r) || (decide (r = 2) && !behind)
/-- What is written, and up to where, behind k runs. -/
def stR (b : List UInt8) : Nat → List UInt8 × Nat
  | 0 => ([], 0)
  | k + 1 => if savesB (rl b (atR b k)) (decide ((stR b k).2 < atR b k)) then
      ((stR b k).1 ++ lits ((b.drop (stR b k).2).take (atR b k - (stR b k).2)) ++ [UInt8.ofNat (257 - rl b (atR b k)), b.getD (atR b k) 0], atR b k + rl b (atR b k))
    else stR b k
def finR (b : List UInt8) (N : Nat) : List UInt8 := (stR b N).1 ++ lits (b.drop (stR b N).2)
theorem stR_ok (b : List UInt8) (N : Nat) (hN : ∀ k, k < N → atR b k < b.length) : ∀ k, k ≤ N → (stR b k).2 ≤ atR b k ∧ atR b k ≤ b.length ∧ Reads (stR b k).1 (b.take (stR b k).2) ∧ (stR b k).1.length ≤ (stR b k).2 + (stR b k).2 / 128
  | 0, _ => by simpa [stR, atR] using Reads.nil
  | k + 1, hk => by
    obtain ⟨h1, h2, h3, h4⟩ := stR_ok b N hN k (by omega)
    have hlt := hN k (by omega)
    obtain ⟨r1, r2, r3⟩ := rl_one b _ hlt
    have hrt := rl_take b _ hlt
    have hg : b.getD (atR b k) 0 = b[atR b k] := by simp [List.getD, List.getElem?_eq_getElem hlt]
    have ea : atR b (k + 1) = atR b k + rl b (atR b k) := rfl
    rw [ea]
    unfold stR
    by_cases hs : savesB (rl b (atR b k)) (decide ((stR b k).2 < atR b k)) = true
    · rw [if_pos hs, hg]
      have hs2 : 2 < rl b (atR b k) ∨ rl b (atR b k) = 2 ∧ (stR b k).2 = atR b k := by
        unfold savesB at hs
        simp only [Bool.or_eq_true, Bool.and_eq_true, decide_eq_true_eq, Bool.not_eq_true', decide_eq_false_iff_not] at hs
        omega
      generalize rl b (atR b k) = r at *
      generalize atR b k = i at *
      generalize (stR b k).2 = f at *
      generalize (stR b k).1 = o at *
      have hp : ((b.drop f).take (i - f)).length = i - f := by rw [List.length_take, List.length_drop]; omega
      refine ⟨Nat.le_refl _, r3, ?_, ?_⟩
      · have e : b.take (i + r) = b.take f ++ (b.drop f).take (i - f) ++ List.replicate r b[i] := by
          rw [← hrt, List.take_add, show b.take i = b.take (f + (i - f)) from by rw [show f + (i - f) = i from by omega], List.take_add]
        show Reads _ (b.take (i + r))
        rw [e]
        exact (h3.app (Reads.lits _)).app (Reads.run _ r (by omega) r2)
      · show (o ++ lits _ ++ [_, _]).length ≤ i + r + (i + r) / 128
        rw [List.length_append, List.length_append, lits_length, hp]
        simp only [List.length_cons, List.length_nil]
        omega
    · rw [if_neg hs]
      exact ⟨by omega, by omega, h3, h4⟩
theorem finR_reads (b : List UInt8) (N : Nat) (hN : ∀ k, k < N → atR b k < b.length) : Reads (finR b N) b ∧ (finR b N).length ≤ b.length + (b.length + 127) / 128 := by
  obtain ⟨h1, h2, h3, h4⟩ := stR_ok b N hN N (Nat.le_refl _)
  unfold finR
  generalize (stR b N).2 = f at *
  generalize (stR b N).1 = o at *
  constructor
  · have := h3.app (Reads.lits (b.drop f))
    rwa [List.take_append_drop] at this
  · rw [List.length_append, lits_length, List.length_drop]
    omega
theorem finR_back (b : List UInt8) (N : Nat) (hN : ∀ k, k < N → atR b k < b.length) : runsM (finR b N) b.length = .ok b := (finR_reads b N hN).1.unpack _ (Nat.le_refl _)
theorem rl_all (x : UInt8) (n i : Nat) (_ : i ≤ n) : rl (List.replicate n x) i = min 128 (n - i) := by
  unfold rl
  rw [List.drop_replicate]
  cases hk : n - i with
  | zero => simp
  | succ m =>
    rw [List.replicate_succ]
    show runLen 128 x (x :: List.replicate m x) = _
    rw [← List.replicate_succ, runLen_all]
theorem stR_all (x : UInt8) (n : Nat) : ∀ k, 128 * k ≤ n → atR (List.replicate n x) k = 128 * k ∧ (stR (List.replicate n x) k).2 = 128 * k ∧ (stR (List.replicate n x) k).1.length = 2 * k
  | 0, _ => by simp [atR, stR]
  | k + 1, h => by
    obtain ⟨h1, h2, h3⟩ := stR_all x n k (by omega)
    have hr := rl_all x n (128 * k) (by omega)
    rw [Nat.min_eq_left (by omega)] at hr
    unfold atR stR
    rw [h1, h2, hr]
    have hs : savesB 128 (decide (128 * k < 128 * k)) = true := by simp [savesB]
    rw [if_pos hs]
    refine ⟨by omega, by show 128 * k + 128 = _; omega, ?_⟩
    show (_ ++ lits _ ++ [_, _]).length = _
    rw [List.length_append, List.length_append, lits_length, h3]
    simp
    omega
theorem finR_all (x : UInt8) (n N : Nat) (hE : atR (List.replicate n x) N = n) (hN : ∀ k, k < N → atR (List.replicate n x) k < n) : (finR (List.replicate n x) N).length ≤ 2 * ((n + 127) / 128) := by
  obtain ⟨q, hq⟩ : ∃ q, n / 128 = q := ⟨_, rfl⟩
  obtain ⟨h1, h2, h3⟩ := stR_all x n q (by omega)
  have hNq : q ≤ N := by
    by_cases h : N < q
    · have := (stR_all x n N (by omega)).1
      omega
    · omega
  have hr := rl_all x n (128 * q) (by omega)
  have e1 : atR (List.replicate n x) (q + 1) = n := by
    unfold atR
    rw [h1, hr]
    omega
  by_cases hs : n = 128 * q
  · obtain rfl : N = q := by
      by_cases h : q < N
      · have := hN q h; omega
      · omega
    unfold finR
    rw [List.length_append, lits_length, h3, h2, List.length_drop, List.length_replicate]
    omega
  · obtain rfl : N = q + 1 := by
      by_cases h : q + 1 < N
      · have := hN (q + 1) h; omega
      · have : N ≠ q := fun h => by subst h; omega
        omega
    unfold finR stR
    rw [h1, h2, hr]
    by_cases hv : savesB (min 128 (n - 128 * q)) (decide (128 * q < 128 * q)) = true
    · rw [if_pos hv]
      show ((_ ++ lits _ ++ [_, _]) ++ lits (List.drop (128 * q + _) _)).length ≤ _
      simp only [List.length_append, lits_length, h3, List.length_drop, List.length_replicate, List.length_take, List.length_cons, List.length_nil]
      omega
    · rw [if_neg hv]
      have : n - 128 * q = 1 := by
        simp [savesB] at hv
        omega
      rw [List.length_append, lits_length, h3, h2, List.length_drop, List.length_replicate]
      omega
end Go.Proofs.Ythnfnfaiicfenaa
