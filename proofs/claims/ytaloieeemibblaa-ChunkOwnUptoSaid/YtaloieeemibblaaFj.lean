/- Chunks and their bytes: what is put together is taken apart as it was; what is taken apart is what its chunks are put together to. No walk. -/
import Derived.Test.YtaloieeemibblaaEx
import Derived.Test.YtaloieeemibblaaEs
set_option linter.unusedVariables false
set_option linter.unusedSimpArgs false
namespace Go.Proofs.Ytaloieeemibblaa
open Go.ChangeShapes Go.WideShapes Go.ChangeAt Go.RowKit

/-- The chunks that a row of bytes begins with. -/
def ckAt (lb : List UInt8) (j : Nat) : Ck := ⟨typC lb j, datC lb j⟩
def cksOf (lb : List UInt8) (n : Nat) : List Ck := (List.range n).map (ckAt lb)
def flatC (l : List Ck) : List UInt8 := l.flatMap ckL
theorem cksOf_len (lb : List UInt8) (n : Nat) : (cksOf lb n).length = n := by simp [cksOf]
theorem joinF_take (l : List Ck) : ∀ i, i ≤ l.length → joinF l i = mkL ++ flatC (l.take i)
  | 0, _ => by simp [joinF, flatC]
  | i + 1, h => by
    rw [joinF_next l i (by omega), joinF_take l i (by omega), List.take_succ_eq_append_getElem (by omega)]
    simp only [flatC, List.flatMap_append, List.flatMap_cons, List.flatMap_nil, List.append_nil, List.append_assoc]
theorem joinF_all (l : List Ck) : joinF l l.length = mkL ++ flatC l := by rw [joinF_take l _ (Nat.le_refl _), List.take_length]
theorem be4_eq (r : List UInt8) (i : Nat) : be4 r i = ((byteAt r i * 256 + byteAt r (i + 1)) * 256 + byteAt r (i + 2)) * 256 + byteAt r (i + 3) := by
  unfold be4 numB
  rw [if_pos rfl]
  simp only [beNum, Nat.add_zero]
  omega
theorem byteAt_app (x y : List UInt8) (j : Nat) : byteAt (x ++ y) (x.length + j) = byteAt y j := by
  unfold byteAt
  rw [List.getElem?_append_right (by omega), Nat.add_sub_cancel_left]
theorem byteAt_drp (r : List UInt8) (i j : Nat) : byteAt r (i + j) = byteAt (r.drop i) j := by
  unfold byteAt
  rw [List.getElem?_drop]
theorem be4_beB (v : Nat) (hv : v < 4294967296) (x r : List UInt8) (n : Nat) (hn : x.length = n) : be4 (x ++ (beB v ++ r)) n = v := by
  subst hn
  rw [be4_eq, byteAt_app, byteAt_app, byteAt_app]
  rw [show byteAt (x ++ (beB v ++ r)) x.length = byteAt (beB v ++ r) 0 from byteAt_app x _ 0]
  have h0 : byteAt (beB v ++ r) 0 = (v >>> 24) % 256 := by show (UInt8.ofNat (v >>> 24)).toNat = _; rw [UInt8.toNat_ofNat']
  have h1 : byteAt (beB v ++ r) 1 = (v >>> 16) % 256 := by show (UInt8.ofNat (v >>> 16)).toNat = _; rw [UInt8.toNat_ofNat']
  have h2 : byteAt (beB v ++ r) 2 = (v >>> 8) % 256 := by show (UInt8.ofNat (v >>> 8)).toNat = _; rw [UInt8.toNat_ofNat']
  have h3 : byteAt (beB v ++ r) 3 = v % 256 := by show (UInt8.ofNat v).toNat = _; rw [UInt8.toNat_ofNat']
  rw [h0, h1, h2, h3]
  simp only [Nat.shiftRight_eq_div_pow]
  omega
theorem beB_be4 (r : List UInt8) (i : Nat) (h : i + 4 ≤ r.length) : beB (be4 r i) = (r.drop i).take 4 := by
  rw [be4_eq]
  rw [show byteAt r i = byteAt (r.drop i) 0 from byteAt_drp r i 0, byteAt_drp, byteAt_drp, byteAt_drp]
  have hl : 4 ≤ (r.drop i).length := by rw [List.length_drop]; omega
  generalize r.drop i = s at *
  match s, hl with
  | a :: b :: c :: d :: t, _ =>
    show [UInt8.ofNat _, UInt8.ofNat _, UInt8.ofNat _, UInt8.ofNat _] = [a, b, c, d]
    have e0 : byteAt (a :: b :: c :: d :: t) 0 = a.toNat := rfl
    have e1 : byteAt (a :: b :: c :: d :: t) 1 = b.toNat := rfl
    have e2 : byteAt (a :: b :: c :: d :: t) 2 = c.toNat := rfl
    have e3 : byteAt (a :: b :: c :: d :: t) 3 = d.toNat := rfl
    rw [e0, e1, e2, e3]
    have ha := a.toNat_lt; have hb := b.toNat_lt; have hc := c.toNat_lt; have hd := d.toNat_lt
    have key : ∀ (x : UInt8) (y : Nat), y % 256 = x.toNat → UInt8.ofNat y = x := fun x y h => by
      apply UInt8.toNat.inj
      rw [UInt8.toNat_ofNat']
      exact h
    simp only [Nat.shiftRight_eq_div_pow]
    rw [key a _ (by omega), key b _ (by omega), key c _ (by omega), key d _ (by omega)]
/-- A right chunk is what its type and data are put together to. -/
theorem ok_bytes {r : List UInt8} (h : firstOk r = true) : r.take (be4 r 0 + 12) = ckL ⟨⟨((sumOf r).take 4).toArray⟩, (sumOf r).drop 4⟩ := by
  obtain ⟨h1, h2⟩ := ok_fits h
  have hs : sound r = true := by
    unfold firstOk at h
    simp only [Bool.and_eq_true] at h
    exact h.2
  unfold sound at hs
  simp only [Bool.and_eq_true, decide_eq_true_eq] at hs
  obtain ⟨_, hs⟩ := hs
  have hlen : (sumOf r).length = 4 + be4 r 0 := by
    unfold sumOf
    rw [List.length_take, List.length_drop]
    omega
  have hbody : bodyL ⟨⟨((sumOf r).take 4).toArray⟩, (sumOf r).drop 4⟩ = sumOf r := by
    unfold bodyL sb
    simp
  unfold ckL
  rw [hbody]
  simp only [List.length_drop, hlen, Nat.add_sub_cancel_left]
  rw [beB_be4 r 0 (by omega), ← hs, beB_be4 r (8 + be4 r 0) (by omega), List.drop_zero]
  rw [show be4 r 0 + 12 = (4 + (4 + be4 r 0)) + 4 by omega, List.take_add, List.take_add]
  rw [show 4 + (4 + be4 r 0) = 8 + be4 r 0 by omega]
  rfl
theorem ckL_len (k : Ck) (h : (sb k.t).length = 4) : (ckL k).length = k.d.length + 12 := by
  unfold ckL bodyL
  simp only [List.length_append, beB_length, h]
  omega
/-- What is put together is right. -/
theorem ok_ckL (k : Ck) (r : List UInt8) (ht : tyB (sb k.t) = true) (hd : k.d.length ≤ 2147483647) :
    firstOk (ckL k ++ r) = true ∧ be4 (ckL k ++ r) 0 = k.d.length ∧ sumOf (ckL k ++ r) = bodyL k := by
  have h4 := tyB_four ht
  have hn : be4 (ckL k ++ r) 0 = k.d.length := by
    unfold ckL
    rw [List.append_assoc, List.append_assoc]
    exact be4_beB k.d.length (by omega) [] _ 0 rfl
  have hbl : (bodyL k).length = 4 + k.d.length := by unfold bodyL; rw [List.length_append, h4]
  have hsum : sumOf (ckL k ++ r) = bodyL k := by
    unfold sumOf
    rw [hn]
    unfold ckL
    rw [List.append_assoc, List.append_assoc, List.drop_append_of_le_length (by rw [beB_length]; omega), List.drop_of_length_le (by rw [beB_length]; omega), List.nil_append]
    rw [List.take_append_of_le_length (by omega), List.take_of_length_le (by omega)]
  have hc : be4 (ckL k ++ r) (8 + k.d.length) = crcOn 0 (bodyL k) := by
    unfold ckL
    rw [List.append_assoc]
    exact be4_beB _ (crcOn_lt (by omega) _) (beB k.d.length ++ bodyL k) r _ (by rw [List.length_append, beB_length, hbl]; omega)
  refine ⟨?_, hn, hsum⟩
  unfold firstOk fits sound
  rw [hn, hsum, hc]
  have e4 : (bodyL k).take 4 = sb k.t := by
    unfold bodyL
    rw [List.take_append_of_le_length (by omega), List.take_of_length_le (by omega)]
  rw [e4, ht]
  have hlen : (ckL k ++ r).length = k.d.length + 12 + r.length := by rw [List.length_append, ckL_len k h4]
  rw [hlen]
  simp
  omega
theorem sb_mk (s : ByteArray) : (⟨(sb s).toArray⟩ : ByteArray) = s := by
  cases s
  simp [sb]
section
variable {l : List Ck} (hty : ∀ k ∈ l, tyB (sb k.t) = true) (hd : ∀ k ∈ l, k.d.length ≤ 2147483647) (r : List UInt8)
include hty hd
theorem rest_flat : ∀ i, i ≤ l.length → restC (flatC l ++ r) i = flatC (l.drop i) ++ r
  | 0, _ => by simp [restC, offs]
  | i + 1, h => by
    have hi : i < l.length := by omega
    rw [restC_succ, rest_flat i (by omega), List.drop_eq_getElem_cons hi]
    have e : flatC (l[i] :: l.drop (i + 1)) ++ r = ckL l[i] ++ (flatC (l.drop (i + 1)) ++ r) := by simp only [flatC, List.flatMap_cons, List.append_assoc]
    rw [e]
    obtain ⟨_, h2, _⟩ := ok_ckL l[i] (flatC (l.drop (i + 1)) ++ r) (hty _ (List.getElem_mem hi)) (hd _ (List.getElem_mem hi))
    rw [h2, ← ckL_len l[i] (tyB_four (hty _ (List.getElem_mem hi))), List.drop_left]
theorem at_flat (i : Nat) (hi : i < l.length) : firstOk (restC (flatC l ++ r) i) = true ∧ ckAt (flatC l ++ r) i = l[i] := by
  have e : restC (flatC l ++ r) i = ckL l[i] ++ (flatC (l.drop (i + 1)) ++ r) := by
    rw [rest_flat hty hd r i (by omega), List.drop_eq_getElem_cons hi]
    simp only [flatC, List.flatMap_cons, List.append_assoc]
  obtain ⟨h1, h2, h3⟩ := ok_ckL l[i] (flatC (l.drop (i + 1)) ++ r) (hty _ (List.getElem_mem hi)) (hd _ (List.getElem_mem hi))
  have h4 := tyB_four (hty _ (List.getElem_mem hi))
  refine ⟨by rw [e]; exact h1, ?_⟩
  unfold ckAt typC datC
  rw [e, h3]
  have e4 : (bodyL l[i]).take 4 = sb l[i].t := by
    unfold bodyL
    rw [List.take_append_of_le_length (by omega), List.take_of_length_le (by omega)]
  have e5 : (bodyL l[i]).drop 4 = l[i].d := by
    unfold bodyL
    rw [List.drop_append_of_le_length (by omega), List.drop_of_length_le (by omega), List.nil_append]
  rw [e4, e5, sb_mk]
theorem cks_flat : cksOf (flatC l ++ r) l.length = l := by
  refine List.ext_getElem (by rw [cksOf_len]) (fun i h1 h2 => ?_)
  simp only [cksOf, List.getElem_map, List.getElem_range]
  exact (at_flat hty hd r i h2).2
end
theorem mark_mk (x : List UInt8) : markOk (mkL ++ x) = true := by
  unfold markOk
  rw [List.take_append_of_le_length (by decide), List.length_append]
  simp [mkL]
theorem drop_mk (x : List UInt8) : (mkL ++ x).drop 8 = x := List.drop_left (l₁ := mkL)
/-- What is put together is taken apart, whatever stands behind it. -/
theorem join_splits {l : List Ck} (hj : jokB l = true) (hd : ∀ k ∈ l, k.d.length ≤ 2147483647) (r : List UInt8) :
    splitYes (joinF l l.length ++ r) (l.length - 1) ∧ cksOf ((joinF l l.length ++ r).drop 8) l.length = l := by
  have hall : (List.range l.length).all (ckB l.length l) = true ∧ 0 < l.length := by
    unfold jokB at hj
    simpa using hj
  have hty : ∀ k ∈ l, tyB (sb k.t) = true := by
    intro k hk
    obtain ⟨i, hi, rfl⟩ := List.getElem_of_mem hk
    exact ckB_true hall.1 hi hi
  have he : ∀ (i : Nat) (hi : i < l.length), isE l[i].t = decide (i + 1 = l.length) := fun i hi => by
    have h1 := List.all_eq_true.1 hall.1 i (List.mem_range.2 hi)
    unfold ckB at h1
    rw [List.getElem?_eq_getElem hi] at h1
    simp only [Bool.and_eq_true, beq_iff_eq] at h1
    exact h1.2
  rw [joinF_all, List.append_assoc, drop_mk]
  refine ⟨⟨mark_mk _, ?_, ?_, ?_⟩, cks_flat hty hd r⟩
  · intro j hj
    rw [drop_mk]
    obtain ⟨h1, h2⟩ := at_flat hty hd r j (by omega)
    refine ⟨h1, ?_⟩
    have : typC (flatC l ++ r) j = l[j].t := by rw [← h2]; rfl
    rw [this, he j (by omega)]
    exact decide_eq_false (by omega)
  · rw [drop_mk]
    exact (at_flat hty hd r _ (by omega)).1
  · rw [drop_mk]
    obtain ⟨h1, h2⟩ := at_flat hty hd r (l.length - 1) (by omega)
    have : typC (flatC l ++ r) (l.length - 1) = (l[l.length - 1]'(by omega)).t := by rw [← h2]; rfl
    rw [this, he _ (by omega)]
    exact decide_eq_true (by omega)
theorem take_offs (lb : List UInt8) : ∀ n, (∀ j, j < n → firstOk (restC lb j) = true) → lb.take (offs lb n) = flatC (cksOf lb n)
  | 0, _ => by simp [offs, flatC, cksOf]
  | n + 1, h => by
    have e : cksOf lb (n + 1) = cksOf lb n ++ [ckAt lb n] := by unfold cksOf; rw [List.range_succ, List.map_append]; rfl
    rw [e]
    unfold flatC
    rw [List.flatMap_append, offs, List.take_add]
    have := take_offs lb n (fun j hj => h j (by omega))
    unfold flatC at this
    rw [this]
    have h2 := ok_bytes (h n (by omega))
    unfold restC at h2
    rw [h2]
    simp only [List.flatMap_cons, List.flatMap_nil, List.append_nil]
    rfl
/-- Bytes that are taken apart begin with what their chunks are put together to. -/
theorem split_joins {b : List UInt8} {k : Nat} (h : splitYes b k) : b.take 8 = mkL ∧ (b.drop 8).take (offs (b.drop 8) (k + 1)) = flatC (cksOf (b.drop 8) (k + 1)) := by
  obtain ⟨h1, h2, h3, _⟩ := h
  unfold markOk at h1
  simp only [Bool.and_eq_true, beq_iff_eq] at h1
  refine ⟨h1.2, take_offs _ _ (fun j hj => ?_)⟩
  rcases Nat.lt_or_ge j k with h | h
  · exact (h2 j h).1
  · obtain rfl : j = k := by omega
    exact h3
/-- Bytes of the same number that are taken apart to the same chunks are the same. -/
theorem told {b : List UInt8} {l : List Ck} {k : Nat} (hs : splitYes b k) (hl : cksOf (b.drop 8) (k + 1) = l) (hlen : b.length = (joinF l l.length).length) : b = joinF l l.length := by
  obtain ⟨h1, h2⟩ := split_joins hs
  rw [hl] at h2
  rw [joinF_all] at hlen ⊢
  have h8 : (mkL : List UInt8).length = 8 := rfl
  rw [List.length_append, h8] at hlen
  have h3 : (b.drop 8).length = (flatC l).length := by rw [List.length_drop]; omega
  have h4 : (b.drop 8).take (offs (b.drop 8) (k + 1)) = b.drop 8 := by
    refine List.take_of_length_le ?_
    have := congrArg List.length h2
    rw [List.length_take] at this
    omega
  rw [h4] at h2
  rw [← List.take_append_drop 8 b, h1, h2]
theorem yes_one {b : List UInt8} {k m : Nat} (h1 : splitYes b k) (h2 : splitYes b m) : k = m := by
  obtain ⟨_, a2, _, a4⟩ := h1
  obtain ⟨_, b2, _, b4⟩ := h2
  rcases Nat.lt_trichotomy k m with h | h | h
  · rw [(b2 k h).2] at a4; cases a4
  · exact h
  · rw [(a2 m h).2] at b4; cases b4
theorem yes_no {b : List UInt8} {k : Nat} (h1 : splitYes b k) (h2 : splitNo b) : False := by
  obtain ⟨a1, a2, a3, a4⟩ := h1
  rcases h2 with h | ⟨N, c1, c2⟩
  · rw [a1] at h; cases h
  · rcases Nat.lt_trichotomy k N with h | h | h
    · rw [(c1 k h).2] at a4; cases a4
    · subst h; rw [a3] at c2; cases c2
    · rw [(a2 N h).1] at c2; cases c2
end Go.Proofs.Ytaloieeemibblaa
