/- A writer that is given acts: what it holds; what is read of it. -/
import Derived.Test.YtlkmhmiaekmkdaaK
import Derived.Test.YtlkmhmiaekmkdaaAct
namespace Go.Proofs.Ytlkmhmiaekmkdaa
open Go.ChangeShapes Go.WideShapes Go.ChangeAt Go.RowKit

def actBits (high : Bool) (n : Int) (v : Nat) : List Bool := if 0 ≤ n ∧ n ≤ 32 then bitsOf high v n.toNat else []
def allBits (high : Bool) (acts : List (Int × Int × Nat)) : List Bool := acts.flatMap fun a => actBits high a.2.1 a.2.2
theorem actBits_len (high : Bool) (n : Int) (v : Nat) : (actBits high n v).length ≤ 32 := by
  unfold actBits; split
  · rw [bitsOf_length]; omega
  · simp
theorem allBits_len (high : Bool) (acts : List (Int × Int × Nat)) : (allBits high acts).length ≤ 32 * acts.length := by
  induction acts with
  | nil => simp [allBits]
  | cons a r ih =>
    have h := actBits_len high a.2.1 a.2.2
    simp only [allBits, List.flatMap_cons, List.length_append, List.length_cons] at ih ⊢
    omega
theorem allBits_take (high : Bool) (acts : List (Int × Int × Nat)) (k : Nat) (hk : k < acts.length) : allBits high (acts.take (k + 1)) = allBits high (acts.take k) ++ actBits high acts[k].2.1 acts[k].2.2 := by
  rw [List.take_succ_eq_append_getElem hk]
  simp only [allBits, List.flatMap_append, List.flatMap_cons, List.flatMap_nil, List.append_nil]
theorem allBits_len_take (high : Bool) (acts : List (Int × Int × Nat)) (k : Nat) : (allBits high (acts.take k)).length ≤ 32 * k := by
  have h1 := allBits_len high (acts.take k)
  have h2 : (acts.take k).length ≤ k := List.length_take_le _ _
  omega
theorem allBits_mono (high : Bool) (acts : List (Int × Int × Nat)) (k : Nat) : (allBits high (acts.take k)).length ≤ (allBits high acts).length := by
  have h1 : allBits high acts = allBits high (acts.take k) ++ allBits high (acts.drop k) := by
    have h2 : allBits high acts = allBits high (acts.take k ++ acts.drop k) := by rw [List.take_append_drop]
    rw [h2]
    simp only [allBits, List.flatMap_append]
  rw [h1, List.length_append]
  omega
/-- The bits of one act stand among all of them, behind those of the acts before. -/
theorem allBits_at (high : Bool) (acts : List (Int × Int × Nat)) (k i : Nat) (hk : k < acts.length) (hi : i < (actBits high acts[k].2.1 acts[k].2.2).length) :
    (allBits high acts)[(allBits high (acts.take k)).length + i]? = (actBits high acts[k].2.1 acts[k].2.2)[i]? := by
  have e : allBits high acts = allBits high (acts.take k) ++ (actBits high acts[k].2.1 acts[k].2.2 ++ allBits high (acts.drop (k + 1))) := by
    have h1 : acts = acts.take k ++ (acts[k] :: acts.drop (k + 1)) := by rw [← List.drop_eq_getElem_cons hk, List.take_append_drop]
    have h2 : allBits high acts = allBits high (acts.take k ++ (acts[k] :: acts.drop (k + 1))) := by rw [← h1]
    rw [h2]
    simp only [allBits, List.flatMap_append, List.flatMap_cons]
  rw [e, List.getElem?_append_right (by omega), Nat.add_sub_cancel_left, List.getElem?_append_left hi]
theorem num_of (high : Bool) (f : Nat → Bool) (v n : Nat) (hf : ∀ i, i < n → f i = v.testBit (if high then n - 1 - i else i)) : num high f n = v % 2 ^ n := by
  apply Nat.eq_of_testBit_eq
  intro j
  rw [Nat.testBit_mod_two_pow]
  unfold num
  cases high
  · simp only [Bool.false_eq_true, if_false] at hf ⊢
    rw [numLo_testBit]
    by_cases hj : j < n
    · simp [hj, hf j hj]
    · simp [hj]
  · simp only [if_true] at hf ⊢
    rw [numHi_testBit]
    by_cases hj : j < n
    · rw [hf (n - 1 - j) (by omega), show n - 1 - (n - 1 - j) = j from by omega]
    · simp [hj]

/-- A writer that holds the bits bs; what stood in w stands as it did. -/
def WAt (w : World) (base g : Nat) (high : Bool) (bs : List Bool) (wr : World) : Prop :=
  ∃ A1 c1 l1, Wraw wr base g A1 c1 l1 high bs.length ∧ Packed high bs l1 ∧ Up w wr ∧ w.heap.size ≤ base ∧ base ≤ wr.heap.size
theorem WAt.of_put {w wr w' : World} {base g : Nat} {A1 : Option Addr} {c1 len : Nat} {l1 : List UInt8} {high : Bool} {bs bs' : List Bool} (hW : Wraw wr base g A1 c1 l1 high bs.length) (hU : Up w wr) (hb : w.heap.size ≤ base) (hB : base ≤ wr.heap.size)
    (h : PutAt wr base g A1 high bs' len w') : WAt w base g high bs' w' := by
  obtain ⟨A2, c2, l2, hW2, hlen, hP, hu, _⟩ := h
  subst hlen
  refine ⟨A2, c2, l2, hW2, hP, hU.step hu (fun i e => ?_), hb, Nat.le_trans hB hu.size⟩
  rcases e with e | e
  · subst e; exact Nat.le_trans hb hW.2.2
  · have := (hW.2.1.lt i (by rw [ownBlock_slice]; exact e)).1; omega
theorem WAt.drew {w wr : World} {base g : Nat} {high : Bool} {bs : List Bool} (h : WAt w base g high bs wr) : WAt w base g high bs wr.drew :=
  let ⟨A1, c1, l1, h1, h2, h3, h4, h5⟩ := h
  ⟨A1, c1, l1, h1, h2, Upd.drew h3, h4, h5⟩
def putErr (n : Int) : Int := if 0 ≤ n ∧ n ≤ 32 then 0 else 2
def PutRes (w : World) (base g : Nat) (high : Bool) (bs : List Bool) (n : Int) (e : Ending) (w' : World) : Prop :=
  e = .returned (.int .i64 (putErr n)) ∧ WAt w base g high bs w'
/-- Put, whatever width it is asked for. -/
theorem put_act {w wr : World} {base g : Nat} {high : Bool} {bs : List Bool} (n : Int) (v : Nat) (h : WAt w base g high bs wr) (hv : v < 4294967296) (hsz : bs.length + 32 ≤ 1125899906842000) :
    Calls Try.prog 26 #[.pointer (some ⟨g, 0, none⟩), .int .u32 (v : Int), .int .i64 n] wr (PutRes w base g high (bs ++ actBits high n v) n) := by
  obtain ⟨A1, c1, l1, hW, hP, hU, hb, hB⟩ := h
  by_cases hn : 0 ≤ n ∧ n ≤ 32
  · obtain ⟨m, rfl⟩ := Int.eq_ofNat_of_zero_le hn.1
    refine (put_any wr base g A1 c1 l1 high bs v m hW hP hv (by omega) (by omega) hB).mono ?_
    rintro e w' ⟨rfl, hp⟩
    refine ⟨by unfold putErr; rw [if_pos hn], ?_⟩
    have e : actBits high (m : Int) v = bitsOf high v m := by unfold actBits; rw [if_pos hn, Int.toNat_natCast]
    rw [e]
    exact WAt.of_put hW hU hb hB hp
  · refine (put_range g (v : Int) n wr (by omega)).mono ?_
    rintro e w' ⟨rfl, rfl⟩
    refine ⟨by unfold putErr; rw [if_neg hn], ?_⟩
    have e : actBits high n v = [] := by unfold actBits; rw [if_neg hn]
    rw [e, List.append_nil]
    exact ⟨A1, c1, l1, hW, hP, hU, hb, hB⟩
theorem pow32_wrap (m : Nat) (hm : m ≤ 32) : IntKind.u64.wrap ((2 : Int) ^ m) = ((2 ^ m : Nat) : Int) := by
  have h : 2 ^ m ≤ 2 ^ 32 := Nat.pow_le_pow_right (by omega) hm
  have e : (2 : Int) ^ m = ((2 ^ m : Nat) : Int) := by simp
  rw [e, IntKind.wrap_u64]
  generalize 2 ^ m = y at h ⊢
  omega
theorem pow32_ne (m : Nat) (hm : m ≤ 32) : ¬ IntKind.u64.wrap ((2 : Int) ^ m) = 0 := by
  rw [pow32_wrap m hm]
  have := Nat.two_pow_pos m
  omega
theorem pow32_eq (v m : Nat) (hv : v < 4294967296) (hm : m ≤ 32) : (IntKind.u64.wrap ((v : Int) % 2 ^ m) != (v : Int) % IntKind.u64.wrap ((2 : Int) ^ m)) = false := by
  have e : (2 : Int) ^ m = ((2 ^ m : Nat) : Int) := by simp
  rw [pow32_wrap m hm, e, bne_eq_false_iff_eq, IntKind.wrap_u64]
  have h0 := Nat.two_pow_pos m
  generalize 2 ^ m = y at h0 ⊢
  have h1 : ((v : Int) % (y : Int)) = ((v % y : Nat) : Int) := by simp
  rw [h1]
  have := Nat.mod_le v y
  omega
theorem actBits_in (high : Bool) (m v : Nat) (hm : m ≤ 32) : actBits high (m : Int) v = bitsOf high v m := by
  unfold actBits; rw [if_pos (by omega), Int.toNat_natCast]
theorem actBits_out (high : Bool) (n : Int) (v : Nat) (hn : n < 0 ∨ 32 < n) : actBits high n v = [] := by
  unfold actBits; rw [if_neg (by omega)]
end Go.Proofs.Ytlkmhmiaekmkdaa
