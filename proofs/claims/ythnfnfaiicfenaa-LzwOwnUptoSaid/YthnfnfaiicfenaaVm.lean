/- What is packed by codes is read back: the codes of the packer, read with a table that is one string behind. Plain mathematics. -/
import Derived.Test.YthnfnfaiicfenaaPe
import Derived.Test.YthnfnfaiicfenaaRa
namespace Go.Proofs.Ythnfnfaiicfenaa

theorem num_of (high : Bool) (f : Nat → Bool) (v n : Nat) (hf : ∀ i, i < n → f i = v.testBit (if high then n - 1 - i else i)) : num high f n = v % 2 ^ n := by
  apply Nat.eq_of_testBit_eq
  intro j
  rw [Nat.testBit_mod_two_pow]
  unfold num
  cases high
  · simp only [Bool.false_eq_true, if_false] at hf ⊢
    rw [numLo_testBit]
    by_cases h : j < n
    · rw [hf j h]
    · simp [h]
  · simp only [if_true] at hf ⊢
    rw [numHi_testBit]
    by_cases h : j < n
    · rw [hf _ (by omega), show n - 1 - (n - 1 - j) = j by omega]
    · simp [h]
/-- The bytes hold these bits (and perhaps more behind them). -/
def Holds' (high : Bool) (full : List Bool) (l : List UInt8) : Prop := full.length ≤ 8 * l.length ∧ ∀ i (h : i < full.length), bitAt l high i = full[i]
theorem Holds'.of {high : Bool} {full : List Bool} {l : List UInt8} (h : Packed high full l) : Holds' high full l := by
  obtain ⟨h1, h2⟩ := h
  refine ⟨by omega, fun i hi => ?_⟩
  rw [h2 i, List.getElem?_eq_getElem hi]
  rfl
theorem take_bits {high : Bool} {full bits t : List Bool} {l : List UInt8} {v n : Nat} (h : Holds' high full l) (hf : full = bits ++ bitsOf high v n ++ t) (hv : v < 2 ^ n) : takeO l high bits.length n = .ok (v, (bits ++ bitsOf high v n).length) := by
  have hlen : full.length = bits.length + n + t.length := by rw [hf]; simp only [List.length_append, bitsOf_length]
  unfold takeO
  rw [if_pos (by have := h.1; omega), List.length_append, bitsOf_length]
  congr 2
  rw [num_of high _ v n (fun i hi => ?_), Nat.mod_eq_of_lt hv]
  rw [h.2 (bits.length + i) (by omega)]
  have e : full[bits.length + i]? = some (v.testBit (if high then n - 1 - i else i)) := by
    rw [hf, List.append_assoc, List.getElem?_append_right (by omega), Nat.add_sub_cancel_left, List.getElem?_append_left (by rw [bitsOf_length]; exact hi), bitsOf_get high v n i hi]
  exact (List.getElem?_eq_some_iff.1 e).2
/-- The reader's table, with the string that the next byte gives it. -/
def extT (T : List (List UInt8)) (a : List UInt8) (x : UInt8) : List (List UInt8) := if a = [] then T else T ++ [a ++ [x]]
theorem strC_ext {clear c : Nat} {E F : List (List UInt8)} (h : GoodC clear E.length c) : strC clear (E ++ F) c = strC clear E c := by
  unfold strC
  by_cases h1 : c < clear
  · rw [if_pos h1, if_pos h1]
  · rw [if_neg h1, if_neg h1]
    rcases h with h | h
    · omega
    · rw [List.getD_eq_getElem?_getD, List.getD_eq_getElem?_getD, List.getElem?_append_left (by omega)]
theorem GoodC.more {clear k k' c : Nat} (h : GoodC clear k c) (hk : k ≤ k') : GoodC clear k' c := by
  rcases h with h | h
  · exact .inl h
  · exact .inr ⟨h.1, by omega⟩
/-- What the packer's strings say of the reader's table. -/
def Sync (clear : Nat) (M : List ((Nat × UInt8) × Nat)) (E : List (List UInt8)) : Prop :=
  ∀ c y d, lk M c y = some d → GoodC clear E.length c ∧ GoodC clear E.length d ∧ strC clear E d = strC clear E c ++ [y]
theorem Sync.nil (clear : Nat) (E : List (List UInt8)) : Sync clear [] E := fun c y d h => by rw [lk_nil] at h; cases h
theorem longM_sync {clear : Nat} {M : List ((Nat × UInt8) × Nat)} {E : List (List UInt8)} (hS : Sync clear M E) (r : List UInt8) : ∀ (c k : Nat) (pre : List UInt8), GoodC clear E.length c → strC clear E c = pre →
    GoodC clear E.length (longM M c r k).1 ∧ k ≤ (longM M c r k).2 ∧ (longM M c r k).2 ≤ k + r.length ∧ strC clear E (longM M c r k).1 = pre ++ r.take ((longM M c r k).2 - k) := by
  induction r with
  | nil => intro c k pre hc hp; exact ⟨hc, Nat.le_refl _, Nat.le_refl _, by simp [longM, hp]⟩
  | cons x r ih =>
    intro c k pre hc hp
    rw [longM]
    cases hl : lk M c x with
    | none => exact ⟨hc, Nat.le_refl _, by simp, by simp [hp]⟩
    | some d =>
      dsimp only
      obtain ⟨h1, h2, h3⟩ := hS c x d hl
      obtain ⟨g1, g2, g3, g4⟩ := ih d (k + 1) (pre ++ [x]) h2 (by rw [h3, hp])
      refine ⟨g1, by omega, by simp only [List.length_cons]; omega, ?_⟩
      rw [g4, show (longM M d r (k + 1)).2 - k = ((longM M d r (k + 1)).2 - (k + 1)) + 1 by omega, List.take_succ_cons, List.append_assoc]
      rfl
theorem wM_bound (early n : Nat) (he : early ≤ 1) (h1 : 4 ≤ n) (h2 : n ≤ 4095) : n < 2 ^ wM early n ∧ 1 ≤ wM early n := by
  obtain ⟨_, b⟩ := bitLen_two (n + early) (by omega) (by omega)
  have l := bitLen_one (n + early) (by omega)
  unfold wM
  by_cases h : Lib.bitLen (n + early) ≤ 12
  · rw [Nat.min_eq_left h]; exact ⟨by omega, l⟩
  · rw [Nat.min_eq_right (by omega)]; exact ⟨by omega, by omega⟩
theorem packF_prefix (size : Nat) (high : Bool) (early : Nat) : ∀ (f : Nat) (rem : List UInt8) (bits : List Bool) (M : List ((Nat × UInt8) × Nat)) (n : Nat) (ah : Bool), ∃ t, packF size high early f rem bits M n ah = bits ++ t := by
  intro f
  induction f with
  | zero => intro rem bits M n ah; exact ⟨[], by simp [packF]⟩
  | succ f ih =>
    intro rem bits M n ah
    cases rem with
    | nil => exact ⟨_, rfl⟩
    | cons x r =>
      rw [packF]
      cases hd : (x :: r).drop (longM M x.toNat r 1).2 with
      | nil =>
        obtain ⟨t, ht⟩ := ih [] (bits ++ bitsOf high (longM M x.toNat r 1).1 (wM early n)) M (nextN n ah) true
        exact ⟨_, by dsimp only; rw [ht, List.append_assoc]⟩
      | cons y s =>
        dsimp only
        split
        · obtain ⟨t, ht⟩ := ih (y :: s) (bits ++ bitsOf high (longM M x.toNat r 1).1 (wM early n) ++ bitsOf high (clr size) (wM early 4094)) [] (clr size + 2) false
          exact ⟨_, by rw [ht, List.append_assoc, List.append_assoc]⟩
        · obtain ⟨t, ht⟩ := ih (y :: s) (bits ++ bitsOf high (longM M x.toNat r 1).1 (wM early n)) ((((longM M x.toNat r 1).1, y), nextN n ah) :: M) (nextN n ah) true
          exact ⟨_, by rw [ht, List.append_assoc]⟩
theorem Sync.more {clear : Nat} {M : List ((Nat × UInt8) × Nat)} {E : List (List UInt8)} (h : Sync clear M E) (z : List UInt8) : Sync clear M (E ++ [z]) := fun c y d hl => by
  obtain ⟨h1, h2, h3⟩ := h c y d hl
  rw [strC_ext h1, strC_ext h2]
  exact ⟨h1.more (by simp), h2.more (by simp), h3⟩
theorem Sync.note {clear : Nat} {M : List ((Nat × UInt8) × Nat)} {E : List (List UInt8)} (h : Sync clear M E) {d : Nat} {s : List UInt8} (hd : GoodC clear E.length d) (hs : strC clear E d = s) (y : UInt8) : Sync clear (((d, y), clear + 2 + E.length) :: M) (E ++ [s ++ [y]]) := fun c x v hl => by
  rw [lk_cons] at hl
  by_cases he : d = c ∧ y = x
  · rw [if_pos he] at hl
    obtain ⟨rfl, rfl⟩ := he
    injection hl with hl
    subst hl
    refine ⟨hd.more (by simp), .inr ⟨by omega, by simp⟩, ?_⟩
    rw [strC_ext hd, hs]
    unfold strC
    rw [if_neg (by omega), show clear + 2 + E.length - clear - 2 = E.length by omega]
    simp [List.getD]
  · rw [if_neg he] at hl
    exact h.more _ c x v hl
theorem ofNat_self (x : UInt8) : UInt8.ofNat x.toNat = x := by simp
/-- What the reader makes of a code whose string begins what is left. -/
theorem strM_sync {clear : Nat} {T : List (List UInt8)} {a : List UInt8} {x : UInt8} {q : List UInt8} {d : Nat} (ha : a = [] → T = []) (hd : GoodC clear (extT T a x).length d) (hs : strC clear (extT T a x) d = x :: q) (hn : clear + 2 + T.length < 4096) : strM clear T a d = some (x :: q) := by
  unfold strM
  by_cases h1 : d < clear
  · rw [if_pos h1, ← hs]
    unfold strC
    rw [if_pos h1]
  · rw [if_neg h1]
    have hs' := hs
    unfold strC at hs'
    rw [if_neg h1] at hs'
    by_cases h0 : a = []
    · have hT := ha h0
      unfold extT at hd
      rw [if_pos h0, hT] at hd
      rcases hd with hd | hd
      · omega
      · simp at hd; omega
    · rw [if_neg h0]
      have hE : extT T a x = T ++ [a ++ [x]] := by unfold extT; rw [if_neg h0]
      rw [hE] at hd hs'
      rcases hd with hd | ⟨hd1, hd2⟩
      · omega
      · rw [List.length_append] at hd2
        simp only [List.length_cons, List.length_nil] at hd2
        by_cases h2 : d < clear + 2 + T.length
        · rw [if_pos h2]
          rw [List.getD_eq_getElem?_getD, List.getElem?_append_left (by omega), List.getElem?_eq_getElem (show d - clear - 2 < T.length by omega)] at hs'
          rw [List.getElem?_eq_getElem (show d - clear - 2 < T.length by omega)]
          exact congrArg some hs'
        · have he : d = clear + 2 + T.length := by omega
          rw [if_neg h2, if_pos ⟨he, by omega⟩]
          have hx : a ++ [x] = x :: q := by
            rw [← hs', he, show clear + 2 + T.length - clear - 2 = T.length by omega]
            simp [List.getD]
          cases a with
          | nil => exact absurd rfl h0
          | cons z a =>
            simp only [List.cons_append, List.cons.injEq] at hx
            obtain ⟨rfl, h4⟩ := hx
            simp [h4]
theorem growM_sync {clear : Nat} {T : List (List UInt8)} {a : List UInt8} {x : UInt8} {q : List UInt8} (hn : clear + 2 + T.length < 4096) : growM clear T a (x :: q) = extT T a x := by
  unfold growM extT
  by_cases h : a = []
  · rw [if_pos h, if_pos h]
  · rw [if_neg h, if_neg h, if_pos hn]; rfl
theorem writeM_sync {clear most : Nat} {T : List (List UInt8)} {a out : List UInt8} {x : UInt8} {q : List UInt8} {d : Nat} (ha : a = [] → T = []) (hd : GoodC clear (extT T a x).length d) (hs : strC clear (extT T a x) d = x :: q) (hn : clear + 2 + T.length < 4096) :
    writeM clear most T a out d = if most < out.length + (x :: q).length then .error 3 else .ok (extT T a x, x :: q, out ++ (x :: q)) := by
  unfold writeM
  rw [strM_sync ha hd hs hn]
  dsimp only
  rw [growM_sync hn]
set_option maxHeartbeats 1000000 in
theorem pack_back {size early most : Nat} {high : Bool} {full : List Bool} {l : List UInt8} (h1 : 2 ≤ size) (h2 : size ≤ 8) (he : early ≤ 1) (hH : Holds' high full l) :
    ∀ (f : Nat) (rem : List UInt8) (bits : List Bool) (M : List ((Nat × UInt8) × Nat)) (n : Nat) (ah : Bool) (T : List (List UInt8)) (a out : List UInt8) (fuel : Nat),
      packF size high early f rem bits M n ah = full → rem.length < f → n = clr size + 2 + T.length → n ≤ 4094 → (rem ≠ [] → n ≤ 4093) → (ah = true ↔ a ≠ []) → (a = [] → T = []) → (∀ b ∈ rem, b.toNat < clr size) →
      (∀ x r, rem = x :: r → Sync (clr size) M (extT T a x)) → 8 * l.length + 1 ≤ fuel + bits.length → out.length ≤ most →
      runM l high (clr size) early most fuel bits.length T a out = if (out ++ rem).length ≤ most then .ok (out ++ rem) else .error 3 := by
  have hc := clr_le h1 h2
  intro f
  induction f with
  | zero => intro rem bits M n ah T a out fuel _ hf; omega
  | succ f ih =>
    intro rem bits M n ah T a out fuel hfull hf hn hn2 hn3 hah haT hby hS hfuel hout
    have hw := wM_bound early n he (by omega) (by omega)
    cases rem with
    | nil =>
      have hfl : full = bits ++ bitsOf high (clr size + 1) (wM early n) ++ [] := by rw [← hfull, packF, List.append_nil]
      have hlen : bits.length + wM early n ≤ 8 * l.length := by
        have := hH.1; rw [hfl] at this; simp [bitsOf_length] at this; omega
      obtain ⟨fuel, rfl⟩ : ∃ g, fuel = g + 1 := ⟨fuel - 1, by omega⟩
      rw [runM, ← hn, take_bits hH hfl (by omega)]
      dsimp only
      rw [if_neg (by omega), if_pos rfl, List.append_nil, if_pos hout]
    | cons x r =>
      have hSx := hS x r rfl
      have hx : x.toNat < clr size := hby x (by simp)
      obtain ⟨g1, g2, g3, g4⟩ := longM_sync hSx r x.toNat 1 [x] (.inl hx) (by unfold strC; rw [if_pos hx, ofNat_self])
      have hn4 := hn3 (by simp)
      rw [packF] at hfull
      generalize hdk : longM M x.toNat r 1 = dk at *
      obtain ⟨d, k⟩ := dk
      dsimp only at g1 g2 g3 g4 hfull
      obtain ⟨j, rfl⟩ : ∃ j, k = j + 1 := ⟨k - 1, by omega⟩
      rw [Nat.add_sub_cancel] at g4
      rw [List.drop_succ_cons] at hfull
      have hEl : (extT T a x).length = T.length + (if ah = true then 1 else 0) := by
        unfold extT
        by_cases h0 : a = []
        · rw [if_pos h0, if_neg (fun e => (hah.1 e) h0)]; rfl
        · rw [if_neg h0, if_pos (hah.2 h0)]; simp
      have hn' : nextN n ah = clr size + 2 + (extT T a x).length := by
        rw [hEl]
        unfold nextN
        split <;> omega
      have hn5 : nextN n ah ≤ 4094 := by unfold nextN; split <;> omega
      have hdn : d ≤ n := by
        rcases g1 with g | g
        · omega
        · rw [hEl] at g; split at g <;> omega
      have hdc : d ≠ clr size ∧ d ≠ clr size + 1 := by
        rcases g1 with g | g
        · omega
        · omega
      have hW := writeM_sync (most := most) (out := out) haT g1 (show strC (clr size) (extT T a x) d = x :: r.take j from g4) (by omega)
      have hrem : x :: r = (x :: r.take j) ++ r.drop j := by rw [List.cons_append, List.take_append_drop]
      -- the step that reads the code, whatever follows
      have step : ∀ t, full = bits ++ bitsOf high d (wM early n) ++ t → ∃ g, fuel = g + 1 ∧ runM l high (clr size) early most fuel bits.length T a out = if most < out.length + (x :: r.take j).length then .error 3 else runM l high (clr size) early most g (bits ++ bitsOf high d (wM early n)).length (extT T a x) (x :: r.take j) (out ++ (x :: r.take j)) := by
        intro t hfl
        have hlen : bits.length + wM early n ≤ 8 * l.length := by
          have := hH.1; rw [hfl] at this; simp [bitsOf_length] at this; omega
        obtain ⟨g, rfl⟩ : ∃ g, fuel = g + 1 := ⟨fuel - 1, by omega⟩
        refine ⟨g, rfl, ?_⟩
        rw [runM, ← hn, take_bits hH hfl (by omega)]
        dsimp only
        rw [if_neg hdc.1, if_neg hdc.2, hW]
        by_cases hm : most < out.length + (x :: r.take j).length
        · rw [if_pos hm, if_pos hm]
        · rw [if_neg hm, if_neg hm]
      have hlw : (bits ++ bitsOf high d (wM early n)).length = bits.length + wM early n := by rw [List.length_append, bitsOf_length]
      have over : most < out.length + (x :: r.take j).length → (if (out ++ (x :: r)).length ≤ most then (.ok (out ++ (x :: r)) : Except Nat (List UInt8)) else .error 3) = .error 3 := fun hm => by
        rw [if_neg]
        rw [hrem, List.length_append, List.length_append]
        omega
      have hby' : ∀ b ∈ r.drop j, b.toNat < clr size := fun b hb => hby b (List.mem_cons_of_mem _ (List.mem_of_mem_drop hb))
      cases hdr : r.drop j with
      | nil =>
        rw [hdr] at hfull
        dsimp only at hfull
        obtain ⟨t, ht⟩ := packF_prefix size high early f [] (bits ++ bitsOf high d (wM early n)) M (nextN n ah) true
        obtain ⟨g, rfl, hst⟩ := step t (by rw [← hfull, ht])
        rw [hst]
        by_cases hm : most < out.length + (x :: r.take j).length
        · rw [if_pos hm, over hm]
        · rw [if_neg hm, ih [] _ M (nextN n ah) true (extT T a x) (x :: r.take j) (out ++ (x :: r.take j)) g hfull (by simp only [List.length_cons] at hf; simp; omega) hn' hn5 (fun h => absurd rfl h) (by simp) (fun h => by cases h) (fun b hb => by cases hb) (fun x r h => by cases h) (by rw [hlw]; omega) (by rw [List.length_append]; omega)]
          rw [hdr, List.append_nil] at hrem
          rw [hrem, List.append_nil]
      | cons y s =>
        rw [hdr] at hfull
        dsimp only at hfull
        have hlt : (y :: s).length < f := by
          have e1 : (r.drop j).length = (y :: s).length := by rw [hdr]
          rw [List.length_drop] at e1
          simp only [List.length_cons] at hf e1 ⊢
          omega
        by_cases hfu : nextN n ah = 4094
        · rw [if_pos hfu] at hfull
          obtain ⟨t, ht⟩ := packF_prefix size high early f (y :: s) (bits ++ bitsOf high d (wM early n) ++ bitsOf high (clr size) (wM early 4094)) [] (clr size + 2) false
          obtain ⟨g, rfl, hst⟩ := step (bitsOf high (clr size) (wM early 4094) ++ t) (by rw [← hfull, ht, List.append_assoc (bits ++ bitsOf high d (wM early n))])
          rw [hst]
          by_cases hm : most < out.length + (x :: r.take j).length
          · rw [if_pos hm, over hm]
          · rw [if_neg hm]
            have hw2 := wM_bound early 4094 he (by omega) (by omega)
            have hfl2 : full = (bits ++ bitsOf high d (wM early n)) ++ bitsOf high (clr size) (wM early 4094) ++ t := by rw [← hfull, ht]
            have hlen2 : (bits ++ bitsOf high d (wM early n)).length + wM early 4094 ≤ 8 * l.length := by
              have := hH.1; rw [hfl2] at this; simp [bitsOf_length] at this; rw [hlw]; omega
            obtain ⟨g, rfl⟩ : ∃ g', g = g' + 1 := ⟨g - 1, by omega⟩
            rw [runM, ← hn', hfu, take_bits hH hfl2 (by omega)]
            dsimp only
            rw [if_pos rfl]
            rw [ih (y :: s) _ [] (clr size + 2) false [] [] (out ++ (x :: r.take j)) g hfull hlt rfl (by omega) (fun _ => by omega) (by simp) (fun _ => rfl) (fun b hb => hby' b (by rw [hdr]; exact hb)) (fun x r _ => Sync.nil _ _) (by rw [List.length_append, bitsOf_length, hlw]; omega) (by rw [List.length_append]; omega)]
            rw [hdr] at hrem
            rw [hrem, List.append_assoc]
        · rw [if_neg hfu] at hfull
          obtain ⟨t, ht⟩ := packF_prefix size high early f (y :: s) (bits ++ bitsOf high d (wM early n)) (((d, y), nextN n ah) :: M) (nextN n ah) true
          obtain ⟨g, rfl, hst⟩ := step t (by rw [← hfull, ht])
          rw [hst]
          by_cases hm : most < out.length + (x :: r.take j).length
          · rw [if_pos hm, over hm]
          · rw [if_neg hm, ih (y :: s) _ (((d, y), nextN n ah) :: M) (nextN n ah) true (extT T a x) (x :: r.take j) (out ++ (x :: r.take j)) g hfull hlt hn' hn5 (fun _ => by omega) (by simp) (fun h => by cases h) (fun b hb => hby' b (by rw [hdr]; exact hb))
              (fun y' s' h => by
                injection h with h3 h4
                subst h3
                have e : extT (extT T a x) (x :: r.take j) y = extT T a x ++ [(x :: r.take j) ++ [y]] := by unfold extT; rw [if_neg (by simp)]
                rw [e, hn']
                exact hSx.note g1 g4 y) (by rw [hlw]; omega) (by rw [List.length_append]; omega)]
            rw [hdr] at hrem
            rw [hrem, List.append_assoc]
/-- What is packed is read back; a byte less room is refused. -/
theorem unpack_pack {size early most : Nat} {high : Bool} {b l : List UInt8} (h1 : 2 ≤ size) (h2 : size ≤ 8) (he : early ≤ 1) (hb : ∀ x ∈ b, x.toNat < clr size) (hp : Packed high (packM size high early b) l) :
    unpackM l high (clr size) early most = if b.length ≤ most then .ok b else .error 3 := by
  have hH := Holds'.of hp
  have hc := clr_le h1 h2
  obtain ⟨t, ht⟩ := packF_prefix size high early (b.length + 1) b (bitsOf high (clr size) (wM early (clr size + 2))) [] (clr size + 2) false
  have hfl : packM size high early b = [] ++ bitsOf high (clr size) (wM early (clr size + 2)) ++ t := by unfold packM; rw [ht, List.nil_append]
  have hw := wM_bound early (clr size + 2) he (by omega) (by omega)
  have hlen : wM early (clr size + 2) ≤ 8 * l.length := by
    have := hH.1; rw [hfl] at this; simp [bitsOf_length] at this; omega
  unfold unpackM
  rw [runM, show clr size + 2 + ([] : List (List UInt8)).length = clr size + 2 from rfl]
  have htk := take_bits hH hfl (by omega)
  rw [show ([] : List Bool).length = 0 from rfl, List.nil_append] at htk
  rw [htk]
  dsimp only
  rw [if_pos rfl]
  have h := pack_back (most := most) h1 h2 he hH (b.length + 1) b (bitsOf high (clr size) (wM early (clr size + 2))) [] (clr size + 2) false [] [] [] (8 * l.length) rfl (by omega) rfl (by omega) (fun _ => by omega) (by simp) (fun _ => rfl) hb (fun x r _ => Sync.nil _ _) (by rw [bitsOf_length]; omega) (Nat.zero_le _)
  rw [List.nil_append] at h
  exact h
end Go.Proofs.Ythnfnfaiicfenaa
