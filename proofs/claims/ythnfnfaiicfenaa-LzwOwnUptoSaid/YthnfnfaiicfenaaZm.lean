/- Plain mathematics of LZW, read: a table of strings, the width of the next code, what is written, or the first fault that is met. No program, no memory (but for the imports). -/
import Derived.Test.YthnfnfaiicfenaaN
import Derived.Lib.BitFns
namespace Go.Proofs.Ythnfnfaiicfenaa

/-- How many bits the next code has, if the table has so many codes. -/
def wM (early n : Nat) : Nat := min (Lib.bitLen (n + early)) 12
def takeO (b : List UInt8) (high : Bool) (p n : Nat) : Except Nat (Nat × Nat) :=
  if p + n ≤ 8 * b.length then .ok (num high (fun i => bitAt b high (p + i)) n, p + n) else .error 5
/-- The string of a code that is no sign; a is the string of the code ahead, without bytes if there is none. -/
def strM (clear : Nat) (T : List (List UInt8)) (a : List UInt8) (code : Nat) : Option (List UInt8) :=
  if code < clear then some [UInt8.ofNat code] else if a = [] then none
  else if code < clear + 2 + T.length then T[code - clear - 2]? else if code = clear + 2 + T.length ∧ code < 4096 then some (a ++ a.take 1) else none
def growM (clear : Nat) (T : List (List UInt8)) (a s : List UInt8) : List (List UInt8) :=
  if a = [] then T else if clear + 2 + T.length < 4096 then T ++ [a ++ s.take 1] else T
def writeM (clear most : Nat) (T : List (List UInt8)) (a out : List UInt8) (code : Nat) : Except Nat (List (List UInt8) × List UInt8 × List UInt8) :=
  match strM clear T a code with
  | none => .error 32
  | some s => if most < out.length + s.length then .error 3 else .ok (growM clear T a s, s, out ++ s)
def runM (b : List UInt8) (high : Bool) (clear early most : Nat) : Nat → Nat → List (List UInt8) → List UInt8 → List UInt8 → Except Nat (List UInt8)
  | 0, _, _, _, _ => .error 5
  | f + 1, p, T, a, out => match takeO b high p (wM early (clear + 2 + T.length)) with
    | .error e => .error e
    | .ok (code, q) =>
      if code = clear then runM b high clear early most f q [] [] out
      else if code = clear + 1 then .ok out
      else match writeM clear most T a out code with
        | .error e => .error e
        | .ok (T', a', out') => runM b high clear early most f q T' a' out'
def unpackM (b : List UInt8) (high : Bool) (clear early most : Nat) : Except Nat (List UInt8) := runM b high clear early most (8 * b.length + 1) 0 [] [] []

theorem bitLen_pos (x : Nat) (h : x ≠ 0) (hx : x < 2 ^ 64) : 1 ≤ Lib.bitLen x := by
  rw [Lib.bitLen_half x h hx]; omega
theorem wM_pos (early n : Nat) (h : 1 ≤ n) (hn : n + early < 18446744073709551616) : 1 ≤ wM early n ∧ wM early n ≤ 12 := by
  unfold wM
  have := bitLen_pos (n + early) (by omega) (by simpa using hn)
  omega
theorem takeO_ok {b : List UInt8} {high : Bool} {p n v q : Nat} (h : takeO b high p n = .ok (v, q)) : v < 2 ^ n ∧ q = p + n ∧ q ≤ 8 * b.length := by
  unfold takeO at h
  split at h
  · injection h with h
    injection h with h1 h2
    subst h1 h2
    exact ⟨num_lt _ _ _, rfl, by assumption⟩
  · cases h

/-! The strings as places in what was written. -/
def cut (out : List UInt8) (x : Nat × Nat) : List UInt8 := (out.drop x.1).take x.2
theorem cut_length {out : List UInt8} {x : Nat × Nat} (h : x.1 + x.2 ≤ out.length) : (cut out x).length = x.2 := by
  unfold cut; rw [List.length_take, List.length_drop]; omega
theorem cut_more {out s : List UInt8} {x : Nat × Nat} (h : x.1 + x.2 ≤ out.length) : cut (out ++ s) x = cut out x := by
  unfold cut
  rw [List.drop_append_of_le_length (by omega), List.take_append_of_le_length (by rw [List.length_drop]; omega)]
/-- Where the strings of a table stand in what was written. -/
def Cuts (out : List UInt8) (tx : List (Nat × Nat)) (T : List (List UInt8)) : Prop :=
  T = tx.map (cut out) ∧ ∀ x ∈ tx, x.1 + x.2 ≤ out.length ∧ 1 ≤ x.2 ∧ x.1 < out.length
/-- Where the string of the code ahead stands: at the end of what was written. -/
def Ahead (out : List UInt8) (af an : Nat) (a : List UInt8) : Prop :=
  a = cut out (af, an) ∧ af + an ≤ out.length ∧ (1 ≤ an → af + an = out.length)
theorem Ahead.len {out a : List UInt8} {af an : Nat} (h : Ahead out af an a) : a.length = an := by rw [h.1]; exact cut_length h.2.1
theorem Ahead.nil {out a : List UInt8} {af an : Nat} (h : Ahead out af an a) : a = [] ↔ an = 0 := by
  have := h.len
  rw [← this]; exact (List.length_eq_zero_iff).symm
theorem Cuts.len {out : List UInt8} {tx : List (Nat × Nat)} {T : List (List UInt8)} (h : Cuts out tx T) : T.length = tx.length := by rw [h.1, List.length_map]
theorem getD_in {l : List UInt8} {i : Nat} (h : i < l.length) : l.getD i 0 = l[i] := by
  rw [List.getD_eq_getElem?_getD, List.getElem?_eq_getElem h]; rfl
theorem take_one {l : List UInt8} (h : 0 < l.length) : l.take 1 = [l[0]] := by
  cases l with
  | nil => simp at h
  | cons x r => rfl
/-- Byte by byte, as the last one may be the first one that is written. -/
def againL (out : List UInt8) (f : Nat) : Nat → List UInt8
  | 0 => out
  | k + 1 => againL out f k ++ [(againL out f k).getD (f + k) 0]
theorem againL_length (out : List UInt8) (f k : Nat) : (againL out f k).length = out.length + k := by
  induction k with
  | zero => rfl
  | succ k ih => rw [againL, List.length_append, ih]; simp; omega
theorem againL_in (out : List UInt8) (f k : Nat) (h : f + k ≤ out.length) : againL out f k = out ++ cut out (f, k) := by
  induction k with
  | zero => simp [againL, cut]
  | succ k ih =>
    rw [againL, ih (by omega)]
    have e : (out ++ cut out (f, k)).getD (f + k) 0 = out[f + k]'(by omega) := by
      rw [getD_in (by rw [List.length_append]; omega), List.getElem_append_left (by omega)]
    rw [e]
    have e2 : cut out (f, k + 1) = cut out (f, k) ++ [out[f + k]'(by omega)] := by
      unfold cut
      show (out.drop f).take (k + 1) = _
      rw [List.take_succ_eq_append_getElem (by rw [List.length_drop]; omega)]
      simp
    rw [e2, List.append_assoc]
theorem againL_own (out : List UInt8) (f n : Nat) (h : f + n = out.length) (h1 : 1 ≤ n) : againL out f (n + 1) = out ++ (cut out (f, n) ++ (cut out (f, n)).take 1) := by
  rw [againL, againL_in _ _ _ (by omega)]
  rw [List.append_assoc]
  congr 1
  congr 1
  have hl : (cut out (f, n)).length = n := cut_length (by show f + n ≤ _; omega)
  have e : (out ++ cut out (f, n)).getD (f + n) 0 = (cut out (f, n))[0]'(by omega) := by
    rw [getD_in (by rw [List.length_append]; omega), List.getElem_append_right (by omega)]
    congr 1; omega
  rw [e, take_one (by omega)]
theorem Cuts.more {out s : List UInt8} {tx : List (Nat × Nat)} {T : List (List UInt8)} (h : Cuts out tx T) : Cuts (out ++ s) tx T := by
  refine ⟨?_, fun x hx => ⟨by have := (h.2 x hx).1; rw [List.length_append]; omega, (h.2 x hx).2.1, by have := (h.2 x hx).2.2; rw [List.length_append]; omega⟩⟩
  rw [h.1]
  exact List.map_congr_left fun x hx => (cut_more (h.2 x hx).1).symm
/-- The string that a table gets, once its last byte is written. -/
theorem Cuts.grow {out s a : List UInt8} {tx : List (Nat × Nat)} {T : List (List UInt8)} {af an : Nat} (h : Cuts out tx T) (ha : Ahead out af an a) (h1 : 1 ≤ an) (hs : 1 ≤ s.length) :
    Cuts (out ++ s) (tx ++ [(af, an + 1)]) (T ++ [a ++ s.take 1]) := by
  have he := ha.2.2 h1
  have hm := h.more (s := s)
  refine ⟨?_, fun x hx => ?_⟩
  · rw [List.map_append, ← hm.1]
    congr 1
    show [a ++ s.take 1] = [cut (out ++ s) (af, an + 1)]
    congr 1
    rw [ha.1]
    unfold cut
    show (out.drop af).take an ++ s.take 1 = ((out ++ s).drop af).take (an + 1)
    rw [List.drop_append_of_le_length (by omega), List.take_append, List.take_of_length_le (l := out.drop af) (i := an) (by rw [List.length_drop]; omega), List.take_of_length_le (l := out.drop af) (i := an + 1) (by rw [List.length_drop]; omega), List.length_drop]
    congr 2
    omega
  · rcases List.mem_append.1 hx with hx | hx
    · exact hm.2 x hx
    · rw [List.mem_singleton] at hx
      subst hx
      rw [List.length_append]
      exact ⟨by show af + (an + 1) ≤ _; omega, by show 1 ≤ an + 1; omega, by show af < _; omega⟩
theorem Ahead.mk_ {out s : List UInt8} : Ahead (out ++ s) out.length s.length s := by
  refine ⟨?_, by rw [List.length_append]; omega, fun _ => by rw [List.length_append]⟩
  unfold cut
  show s = ((out ++ s).drop out.length).take s.length
  rw [List.drop_left, List.take_length]
theorem Ahead.none_ {out : List UInt8} : Ahead out 0 0 [] := ⟨by simp [cut], by omega, fun h => by omega⟩
theorem Cuts.nil_ {out : List UInt8} : Cuts out [] [] := ⟨rfl, fun x hx => by cases hx⟩
end Go.Proofs.Ythnfnfaiicfenaa
