/- Plain mathematics: the bits of symbols that are written one behind the other, and that they are read as these. No program, no memory. -/
import Derived.Test.YtpolbnobnilfcaaCp
import Derived.Test.YtpolbnobnilfcaaN
import Derived.Test.YtpolbnobnilfcaaPe
namespace Go.Proofs.Ytpolbnobnilfcaa

def codeBits (l : List Int) (s : Nat) : List Bool := bitsOf true (codeAt l s) (lenAt l s).toNat
def sentBits (l : List Int) (S : List Nat) : List Bool := S.flatMap (codeBits l)
theorem codeBits_length (l : List Int) (s : Nat) : (codeBits l s).length = (lenAt l s).toNat := bitsOf_length _ _ _
theorem sentBits_snoc (l : List Int) (S : List Nat) (s : Nat) : sentBits l (S ++ [s]) = sentBits l S ++ codeBits l s := by simp [sentBits]
theorem sentBits_le (l : List Int) (hg : l.any badLen = false) (S : List Nat) (hS : ∀ s ∈ S, s < l.length) : (sentBits l S).length ≤ 16 * S.length := by
  induction S with
  | nil => simp [sentBits]
  | cons s r ih =>
    have h1 := ih (fun s h => hS s (List.mem_cons_of_mem _ h))
    have h2 := good_len l hg s (hS s (by simp))
    rw [← lenAt_get l s (hS s (by simp))] at h2
    have e : sentBits l (s :: r) = codeBits l s ++ sentBits l r := rfl
    rw [e, List.length_append, codeBits_length, List.length_cons]
    omega
theorem bit_one (high : Bool) (v : Nat) : bitsOf high v 1 = [v.testBit 0] := by
  unfold bitsOf
  cases high <;> rfl
/-- A bit of a code more. -/
theorem code_bit (high : Bool) (v n k : Nat) (h : k < n) : (bitsOf true v n).take (n - 1 - k) ++ bitsOf high (v / 2 ^ k) 1 = (bitsOf true v n).take (n - k) := by
  have hl := bitsOf_length true v n
  rw [bit_one, show n - k = (n - 1 - k) + 1 from by omega, List.take_succ_eq_append_getElem (by omega)]
  congr 1
  have h1 := bitsOf_get true v n (n - 1 - k) (by omega)
  rw [List.getElem?_eq_getElem (by omega)] at h1
  rw [Option.some.inj h1]
  simp only [if_true]
  rw [show n - 1 - (n - 1 - k) = k from by omega, ← Nat.shiftRight_eq_div_pow, Nat.testBit_shiftRight, Nat.add_zero]
theorem toNat_testBit (v k : Nat) : (v.testBit k).toNat = v / 2 ^ k % 2 := by
  rw [Nat.testBit_eq_decide_div_mod_eq]
  have : v / 2 ^ k % 2 < 2 := Nat.mod_lt _ (by omega)
  by_cases h : v / 2 ^ k % 2 = 1
  · simp [h]
  · have h0 : v / 2 ^ k % 2 = 0 := by omega
    simp [h0]
/-- What stands behind the first i symbols is read as the next one. -/
theorem sent_read (l : List Int) (hg : l.any badLen = false) (hro : 0 ≤ roomOf l) (S : List Nat) (hS : ∀ s ∈ S, s < l.length ∧ 0 < lenAt l s) (high : Bool) (b : List UInt8) (hP : Packed high (sentBits l S) b) (i : Nat) (hi : i < S.length) :
    nextOf l (fun j => bitAt b high ((sentBits l (S.take i)).length + j)) (8 * b.length - (sentBits l (S.take i)).length) = ((lenAt l S[i]).toNat, S[i], 0) ∧
      (sentBits l (S.take i)).length + (lenAt l S[i]).toNat = (sentBits l (S.take (i + 1))).length ∧ (sentBits l (S.take (i + 1))).length ≤ 8 * b.length := by
  obtain ⟨hs, hp⟩ := hS S[i] (List.getElem_mem hi)
  have hgl := good_len l hg S[i] hs
  rw [← lenAt_get l S[i] hs] at hgl
  obtain ⟨n, hn⟩ : ∃ n : Nat, lenAt l S[i] = (n : Int) := ⟨(lenAt l S[i]).toNat, by omega⟩
  have hln : l[S[i]] = (n : Int) := by rw [← lenAt_get l S[i] hs, hn]
  have e1 : sentBits l (S.take (i + 1)) = sentBits l (S.take i) ++ codeBits l S[i] := by rw [List.take_succ_eq_append_getElem hi, sentBits_snoc]
  have e2 : sentBits l S = sentBits l (S.take (i + 1)) ++ sentBits l (S.drop (i + 1)) := by
    conv => lhs; rw [← List.take_append_drop (i + 1) S]
    unfold sentBits
    rw [List.flatMap_append]
  have hcl : (codeBits l S[i]).length = n := by rw [codeBits_length, hn]; omega
  have hL1 : (sentBits l (S.take (i + 1))).length = (sentBits l (S.take i)).length + n := by rw [e1, List.length_append, hcl]
  have hL2 : (sentBits l S).length = (sentBits l (S.take (i + 1))).length + (sentBits l (S.drop (i + 1))).length := by rw [e2, List.length_append]
  have hbl := hP.1
  have hnn : (lenAt l S[i]).toNat = n := by rw [hn]; omega
  rw [hnn]
  refine ⟨?_, hL1.symm, by omega⟩
  have hany : anyOf l = true := by
    rw [anyOf_list]
    exact List.any_eq_true.mpr ⟨l[S[i]], List.getElem_mem hs, by rw [hln]; simp; omega⟩
  unfold nextOf
  rw [if_pos hany]
  have h0 : codeAt l S[i] / 2 ^ (n - 0) = 0 := by
    have h1 := codeAt_lt n S[i] hs hln (by omega)
    have h2 := endN_le l hro n (by omega)
    rw [Nat.sub_zero]
    exact Nat.div_eq_of_lt (by omega)
  have h := nextFrom_code n S[i] (8 * b.length - (sentBits l (S.take i)).length) (fun j => bitAt b high ((sentBits l (S.take i)).length + j)) hs hln (by omega) (by omega) (by omega) (fun j hj => ?_) n 0 (by omega) (by omega)
  · rw [h0] at h
    exact h
  · show (bitAt b high ((sentBits l (S.take i)).length + j)).toNat = _
    rw [hP.2, e2, List.getElem?_append_left (by omega), e1, List.getElem?_append_right (by omega), Nat.add_sub_cancel_left]
    unfold codeBits
    rw [hnn, bitsOf_get _ _ _ _ hj]
    simp only [if_true, Option.getD_some]
    exact toNat_testBit _ _
end Go.Proofs.Ytpolbnobnilfcaa
