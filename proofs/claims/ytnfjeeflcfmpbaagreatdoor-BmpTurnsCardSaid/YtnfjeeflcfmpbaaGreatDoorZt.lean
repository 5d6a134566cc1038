/- Joined texts (a claim has at most 60 files): Zq Zs Zt. -/
import Derived.Test.YtnfjeeflcfmpbaaGreatDoorZn
import Derived.Test.YtnfjeeflcfmpbaaGreatDoorZp
/- What is written is read: Decode on what Encode answers. -/
set_option linter.unusedVariables false
set_option linter.unusedSimpArgs false
namespace Go.Proofs.YtnfjeeflcfmpbaaGreatDoor
open Go.ChangeShapes Go.WideShapes Go.ChangeAt Go.RowKit

theorem rnd_bd {s : Int} (h : 0 ≤ s ∧ s ≤ 65535) : 0 ≤ downN s 255 ∧ downN s 255 ≤ 255 ∧ 0 ≤ rnd s ∧ rnd s ≤ 65535 := by
  have h1 := down_bd h
  have h2 := upN_bd h1.1 h1.2 (show (1 : Int) ≤ 255 by omega)
  exact ⟨h1.1, h1.2, h2.1, h2.2⟩
set_option maxRecDepth 100000 in
theorem round_any (s : Int) (hs : 0 ≤ s ∧ s ≤ 65535) (w : World) : Calls Tryz.prog 17 #[.int .u16 s, .int .i64 255] w fun e w' => e = .returned (.int .u16 (rnd s)) ∧ w' = w := by
  obtain ⟨b1, b2, _, _⟩ := rnd_bd hs
  have HD : Hid (Calls Tryz.prog 44 #[.int .u16 s, .int .i64 255] w fun e w' => e = .returned (.tuple #[.int .i64 (downN s 255), .int .i64 0]) ∧ w' = w) := Lib.hid ((refDown_any s 255 hs (by omega) w).mono fun e w' h => by
    obtain ⟨h1, ⟨_, h2⟩ | ⟨h2, _⟩⟩ := h
    · exact ⟨h2, h1⟩
    · exact absurd ⟨by omega, by omega⟩ h2)
  have HU : Hid (Calls Tryz.prog 45 #[.int .i64 (downN s 255), .int .i64 255] w fun e w' => e = .returned (.tuple #[.int .u16 (rnd s), .int .i64 0]) ∧ w' = w) := Lib.hid ((refUp_any (downN s 255) 255 (by omega) (by omega) w).mono fun e w' h => by
    obtain ⟨h1, ⟨_, h2⟩ | ⟨h2, _⟩⟩ := h
    · exact ⟨h2, h1⟩
    · exact absurd ⟨by omega, by omega, b1, b2⟩ h2)
  generalize downN s 255 = d at *
  generalize rnd s = r at *
  go_enter Tryz.func17, Tryz.ntmps17
  go_wp2_with fail
  refine HD.out.mono ?_
  rintro e w1 ⟨rfl, rfl⟩
  go_wp2_with fail
  refine HU.out.mono ?_
  rintro e w2 ⟨rfl, rfl⟩
  go_wp2_with fail
  go_ret
  exact ⟨rfl, rfl⟩
theorem headB_msk (W H P n : Nat) (body : List UInt8) (hn : 122 ≤ n) (hnb : n ≤ 4194304) : MskOk n (headB true W H P ++ body) := by
  have hl := headB_length true W H P
  simp only [if_true] at hl
  refine ⟨?_, ?_, ?_, ?_, hn, hnb⟩
  all_goals
    rw [numB_app _ _ _ _ (by omega)]
    simp only [headB, if_true]
    repeat rw [numB_far _ _ _ _ _ _ _ (by first | decide | omega)]
    rw [numB_setB _ _ _ _ _ (by simp [setB_length])]
theorem enc_bd {al : Bool} {W H : Nat} {L : List Col} (hl : L.length = W * H) (hf : W * H ≤ 65536) (hH : H ≤ 4096) : (encB al W H L).length = (if al then 122 else 54) + rowN al W * H ∧ (encB al W H L).length ≤ 4194304 := by
  have e1 := encB_length al W H L hl
  have e2 : rowN al W * H ≤ (4 * W + 4) * H := Nat.mul_le_mul_right H (row_fits al W).2
  rw [Nat.add_mul, Nat.mul_assoc] at e2
  refine ⟨e1, ?_⟩
  rw [e1]
  cases al <;> simp <;> omega
/-- Decode on what Encode answers. -/
theorem dec_any (al : Bool) (W H : Nat) (L : List Col) (hl : L.length = W * H) (hok : ∀ c ∈ L, ColOk c) (w1 : 1 ≤ W) (w2 : W ≤ 4096) (h1 : 1 ≤ H) (h2 : H ≤ 4096) (hf : W * H ≤ 65536) (n c : Nat) (hn : (encB al W H L).length = n) (hnc : n ≤ c) (hcb : c ≤ maxLen) (most : Int) (hm : ((W * H : Nat) : Int) ≤ most) (A : Option Addr) (B : Nat) (w : World) (hbs : Bs w B A (encB al W H L)) (hB : B ≤ w.heap.size) (hT : Tab32 w) (hB1 : 0 < w.heap.size) :
    Calls Tryz.prog 9 #[.slice A n c, .int .i64 most] w (ImR w ⟨W, H, 0, flatL (L.map (rndC al)) (W * H)⟩) := by
  obtain ⟨e1, e2⟩ := enc_bd (al := al) hl hf h2
  rw [← dec_enc al W H L hl hok]
  have hn2 : (if al then 122 else 54) ≤ n := by omega
  have ok := headB_ok al W H (rowN al W * H) n (encR al W L H).reverse.flatten w1 w2 h1 h2 hn2 (by omega)
  cases al
  · simp only [Bool.false_eq_true, if_false] at e1
    exact decF_ok false W H _ n c (encB false W H L) ok hn (by omega) hnc hcb hf most hm A B w hbs hB hT hB1
  · simp only [if_true] at e1
    exact decT_ok false W H _ n c (encB true W H L) ok (headB_msk W H (rowN true W * H) n _ (by omega) (by omega)) hn (by omega) hnc hcb hf most hm A B w hbs hB hT hB1
/-- The samples that are read. -/
def bakL (al : Bool) (l : List Int) : List Int := (List.range l.length).map fun i => if i % 4 = 3 ∧ al = false then 65535 else rnd (l.getD i 0)
theorem bakL_length (al : Bool) (l : List Int) : (bakL al l).length = l.length := by simp [bakL]
theorem flat_pxs (al : Bool) (l : List Int) (M : Nat) : ∀ k, k ≤ M → flatL ((pxL l M).map (rndC al)) k = (List.range (4 * k)).map fun i => if i % 4 = 3 ∧ al = false then 65535 else rnd (l.getD i 0)
  | 0, _ => rfl
  | k + 1, hk => by
    have hg : ((pxL l M).map (rndC al)).getD k col0 = rndC al (pxAt l (4 * k)) := by
      have h := pxL_get l M k (by omega)
      have hlt : k < (pxL l M).length := by rw [pxL_length]; omega
      rw [List.getD_eq_getElem?_getD, List.getElem?_eq_getElem hlt, Option.getD_some] at h
      rw [List.getD_eq_getElem?_getD, List.getElem?_map, List.getElem?_eq_getElem hlt, Option.map_some, Option.getD_some, h]
    rw [flatL, flat_pxs al l M k (by omega), hg, show 4 * (k + 1) = 4 * k + 1 + 1 + 1 + 1 from by omega, List.range_succ, List.range_succ, List.range_succ, List.range_succ]
    simp only [List.map_append, List.map_cons, List.map_nil, List.append_assoc, List.cons_append, List.nil_append]
    congr 1
    have a0 : ¬ (4 * k % 4 = 3) := by omega
    have a1 : ¬ ((4 * k + 1) % 4 = 3) := by omega
    have a2 : ¬ ((4 * k + 1 + 1) % 4 = 3) := by omega
    have a3 : (4 * k + 1 + 1 + 1) % 4 = 3 := by omega
    simp only [colQ, rndC, pxAt, a0, a1, a2, a3, false_and, if_false, true_and]
    cases al <;> simp
theorem flat_bak (al : Bool) (l : List Int) (M : Nat) (h : l.length = 4 * M) : flatL ((pxL l M).map (rndC al)) M = bakL al l := by
  rw [flat_pxs al l M M (Nat.le_refl _), bakL, h]
theorem px_ok {l : List Int} (hlb : ∀ v ∈ l, 0 ≤ v ∧ v ≤ 65535) (M : Nat) : ∀ x ∈ pxL l M, ColOk x := by
  intro x hx
  obtain ⟨i, hi, rfl⟩ := List.mem_iff_getElem.1 hx
  rw [pxL_length] at hi
  have := pxL_get l M i hi
  rw [List.getD_eq_getElem?_getD, List.getElem?_eq_getElem (by rw [pxL_length]; exact hi), Option.getD_some] at this
  rw [this]
  have hd : ∀ j, 0 ≤ l.getD j 0 ∧ l.getD j 0 ≤ 65535 := fun j => by
    by_cases hj : j < l.length
    · rw [List.getD_eq_getElem?_getD, List.getElem?_eq_getElem hj]; exact hlb _ (List.getElem_mem hj)
    · rw [List.getD_eq_getElem?_getD, List.getElem?_eq_none (by omega)]; simp
  exact ⟨hd _, hd _, hd _, hd _⟩
end Go.Proofs.YtnfjeeflcfmpbaaGreatDoor

/- A file whose rows are told from the top: what Set makes of a file. No walk. -/
set_option linter.unusedVariables false
set_option linter.unusedSimpArgs false
namespace Go.Proofs.YtnfjeeflcfmpbaaGreatDoor

theorem setB_drop (l : List UInt8) (a s v m : Nat) (h : a + s ≤ m) : ∀ k, k ≤ s → (setB l a s false v k).drop m = l.drop m
  | 0, _ => rfl
  | k + 1, hk => by
    rw [setB, List.drop_set_of_lt (by omega), setB_drop l a s v m h k (by omega)]
/-- The file told from the top. -/
def turB (al : Bool) (W H : Nat) (L : List Col) : List UInt8 := setB (encB al W H L) 22 4 false (4294967296 - H) 4
theorem turB_length (al : Bool) (W H : Nat) (L : List Col) : (turB al W H L).length = (encB al W H L).length := setB_length ..
theorem turB_drop (al : Bool) (W H : Nat) (L : List Col) : (turB al W H L).drop (if al then 122 else 54) = (encB al W H L).drop (if al then 122 else 54) :=
  setB_drop _ _ _ _ _ (by cases al <;> simp) 4 (Nat.le_refl _)
theorem turB_ok {al : Bool} {W H cnt n : Nat} {L : List Col} (h : HdOk al false W H cnt n (encB al W H L)) (hn : (encB al W H L).length = n) : HdOk al true W H cnt n (turB al W H L) := by
  have hlen : 26 ≤ (encB al W H L).length := by
    have := h.hn
    rw [hn]
    cases al <;> simp at this <;> omega
  have hH := h.h1
  have hH2 := h.h2
  unfold turB
  refine ⟨?_, ?_, ?_, ?_, ?_, ?_, ?_, ?_, ?_, h.hn, h.hnb, h.w1, h.w2, h.h1, h.h2⟩
  · rw [numB_far _ _ _ _ _ _ _ (by omega)]; exact h.h0
  · rw [numB_far _ _ _ _ _ _ _ (by omega)]; exact h.h14
  · rw [numB_far _ _ _ _ _ _ _ (by omega)]; exact h.h26
  · rw [numB_far _ _ _ _ _ _ _ (by omega)]; exact h.h10
  · rw [numB_far _ _ _ _ _ _ _ (by omega)]; exact h.h18
  · rw [numB_setB _ _ _ _ _ (by omega), if_pos rfl]
    exact Nat.mod_eq_of_lt (by omega)
  · rw [numB_far _ _ _ _ _ _ _ (by omega)]; exact h.h28
  · rw [numB_far _ _ _ _ _ _ _ (by omega)]; exact h.h30
  · rw [numB_far _ _ _ _ _ _ _ (by omega)]; exact h.h46
theorem turB_msk {W H n : Nat} {L : List Col} (h : MskOk n (encB true W H L)) : MskOk n (turB true W H L) := by
  unfold turB
  refine ⟨?_, ?_, ?_, ?_, h.hn, h.hnb⟩
  · rw [numB_far _ _ _ _ _ _ _ (by omega)]; exact h.m0
  · rw [numB_far _ _ _ _ _ _ _ (by omega)]; exact h.m1
  · rw [numB_far _ _ _ _ _ _ _ (by omega)]; exact h.m2
  · rw [numB_far _ _ _ _ _ _ _ (by omega)]; exact h.m3
/-- The rows of an image, the last one first. -/
def turL (W H : Nat) (L : List Col) : List Col := ((List.range H).map fun j => rowL W L j).reverse.flatten
theorem turL_length {W H : Nat} {L : List Col} (hl : L.length = W * H) : (turL W H L).length = W * H := by
  have h : ∀ X : List (List Col), X.reverse.flatten.length = X.flatten.length := fun X => by
    induction X with
    | nil => rfl
    | cons x X ih => simp [ih, Nat.add_comm]
  unfold turL
  rw [h]
  have := pcs_flat W L H (by omega)
  unfold rowL
  rw [this, List.length_take, hl]
  omega
theorem rowsN_turL (al : Bool) (W H : Nat) (L : List Col) : (rowsN al W H L).reverse.flatten = (turL W H L).map (pxC al) := by
  have e : rowsN al W H L = ((List.range H).map fun j => rowL W L j).map (List.map (pxC al)) := by
    unfold rowsN
    rw [List.map_map]
    rfl
  rw [e, ← List.map_reverse, ← List.map_flatten]
  rfl
theorem turL_mem {W H : Nat} {L : List Col} {c : Col} (h : c ∈ turL W H L) : c ∈ L := by
  simp only [turL, List.mem_flatten, List.mem_reverse, List.mem_map, List.mem_range] at h
  obtain ⟨r, ⟨j, _, rfl⟩, hc⟩ := h
  exact List.mem_of_mem_drop (List.mem_of_mem_take hc)
theorem dec_tur (al : Bool) (W H : Nat) (L : List Col) (hl : L.length = W * H) (hok : ∀ c ∈ L, ColOk c) : decI al true (turB al W H L) W H = ⟨W, H, 0, flatL ((turL W H L).map (rndC al)) (W * H)⟩ := by
  have ht := turL_length hl
  unfold decI
  rw [turB_drop, encB_drop, num_rows al W H L hl, ord_rowsT al W H L hl, rowsN_turL]
  congr 2
  unfold colsK
  rw [← ht, ← List.length_map (f := pxC al), List.take_length, List.map_map]
  exact List.map_congr_left fun c hc => colP_px al c (hok c (turL_mem hc))
theorem flat_at {α : Type} (R : Nat) (RR : List (List α)) (j t : Nat) (hj : j < RR.length) (ht : t < R) (h : ∀ r ∈ RR, r.length = R) : RR.flatten[R * j + t]? = RR[j][t]? := by
  have e := piece_flat R RR j hj h
  rw [← e, List.getElem?_take_of_lt ht, List.getElem?_drop]
theorem flatL_map (Q : List Col) : ∀ k, k ≤ Q.length → flatL Q k = (Q.take k).flatMap colQ
  | 0, _ => by simp [flatL]
  | k + 1, hk => by
    rw [flatL, flatL_map Q k (by omega), List.take_succ_eq_append_getElem (by omega), List.flatMap_append, List.getD_eq_getElem?_getD, List.getElem?_eq_getElem (by omega)]
    simp
theorem flatL_whole (Q : List Col) (M : Nat) (h : Q.length = M) : flatL Q M = Q.flatMap colQ := by
  rw [flatL_map Q M (by omega), ← h, List.take_length]
theorem flatMap_rows {α β : Type} (g : α → List β) : ∀ X : List (List α), X.flatten.flatMap g = (X.map fun r => r.flatMap g).flatten
  | [] => rfl
  | x :: X => by simp [flatMap_rows g X]
theorem flatMap_len (g : Col → List Int) (hg : ∀ c, (g c).length = 4) : ∀ r : List Col, (r.flatMap g).length = 4 * r.length
  | [] => rfl
  | c :: r => by simp [hg, flatMap_len g hg r]; omega
/-- The samples of the rows. -/
def rowsQ (al : Bool) (W H : Nat) (L : List Col) : List (List Int) := (List.range H).map fun j => (rowL W L j).flatMap fun c => colQ (rndC al c)
theorem rowsQ_each {al : Bool} {W H : Nat} {L : List Col} (hl : L.length = W * H) : ∀ r ∈ rowsQ al W H L, r.length = 4 * W := by
  intro r hr
  simp only [rowsQ, List.mem_map, List.mem_range] at hr
  obtain ⟨j, hj, rfl⟩ := hr
  rw [flatMap_len _ (fun _ => rfl), rowL_length hl hj]
theorem rowsQ_len (al : Bool) (W H : Nat) (L : List Col) : (rowsQ al W H L).length = H := by simp [rowsQ]
theorem rowsQ_flat {al : Bool} {W H : Nat} {L : List Col} (hl : L.length = W * H) : flatL (L.map (rndC al)) (W * H) = (rowsQ al W H L).flatten := by
  rw [flatL_whole _ _ (by rw [List.length_map, hl]), List.flatMap_map]
  have e : L = ((List.range H).map fun j => rowL W L j).flatten := by
    have h := pcs_flat W L H (by omega)
    unfold rowL
    rw [h, ← hl, List.take_length]
  conv => lhs; rw [e]
  rw [flatMap_rows, List.map_map]
  rfl
theorem rowsQ_turn {al : Bool} {W H : Nat} {L : List Col} (hl : L.length = W * H) : flatL ((turL W H L).map (rndC al)) (W * H) = (rowsQ al W H L).reverse.flatten := by
  rw [flatL_whole _ _ (by rw [List.length_map, turL_length hl]), List.flatMap_map, turL, flatMap_rows, List.map_reverse, List.map_map]
  rfl
/-- A sample, and where it stands in the image that is turned. -/
theorem turn_at {al : Bool} {W H : Nat} {L : List Col} (hl : L.length = W * H) (hW : 1 ≤ W) (i : Nat) (hi : i < 4 * (W * H)) :
    (flatL ((turL W H L).map (rndC al)) (W * H))[(4 * W) * (H - 1 - i / (4 * W)) + i % (4 * W)]? = (flatL (L.map (rndC al)) (W * H))[i]? ∧ i / (4 * W) < H := by
  have hn : 0 < 4 * W := by omega
  have hj : i / (4 * W) < H := by
    rw [Nat.div_lt_iff_lt_mul hn, Nat.mul_comm H, Nat.mul_assoc]
    exact hi
  have ht : i % (4 * W) < 4 * W := Nat.mod_lt _ hn
  refine ⟨?_, hj⟩
  have e := Nat.div_add_mod i (4 * W)
  generalize i / (4 * W) = j at *
  generalize i % (4 * W) = t at *
  subst e
  rw [rowsQ_flat hl, rowsQ_turn hl, flat_at (4 * W) (rowsQ al W H L) j t (by rw [rowsQ_len]; exact hj) ht (rowsQ_each hl), flat_at (4 * W) (rowsQ al W H L).reverse (H - 1 - j) t (by rw [List.length_reverse, rowsQ_len]; omega) ht (fun r hr => rowsQ_each hl r (List.mem_reverse.1 hr))]
  congr 1
  rw [List.getElem_reverse]
  congr 1
  rw [rowsQ_len]
  omega
end Go.Proofs.YtnfjeeflcfmpbaaGreatDoor

/- Decode on a file that is told from the top; what the document's Set makes of the file. -/
set_option linter.unusedVariables false
set_option linter.unusedSimpArgs false
namespace Go.Proofs.YtnfjeeflcfmpbaaGreatDoor
open Go.ChangeShapes Go.WideShapes Go.ChangeAt Go.RowKit

/-- Decode on the file that is told from the top. -/
theorem decTur_any (al : Bool) (W H : Nat) (L : List Col) (hl : L.length = W * H) (hok : ∀ c ∈ L, ColOk c) (w1 : 1 ≤ W) (w2 : W ≤ 4096) (h1 : 1 ≤ H) (h2 : H ≤ 4096) (hf : W * H ≤ 65536) (n c : Nat) (hn : (encB al W H L).length = n) (hnc : n ≤ c) (hcb : c ≤ maxLen) (most : Int) (hm : ((W * H : Nat) : Int) ≤ most) (A : Option Addr) (B : Nat) (w : World) (hbs : Bs w B A (turB al W H L)) (hB : B ≤ w.heap.size) (hT : Tab32 w) (hB1 : 0 < w.heap.size) :
    Calls Tryz.prog 9 #[.slice A n c, .int .i64 most] w (ImR w ⟨W, H, 0, flatL ((turL W H L).map (rndC al)) (W * H)⟩) := by
  obtain ⟨e1, e2⟩ := enc_bd (al := al) hl hf h2
  rw [← dec_tur al W H L hl hok]
  have hn2 : (if al then 122 else 54) ≤ n := by omega
  have ok := headB_ok al W H (rowN al W * H) n (encR al W L H).reverse.flatten w1 w2 h1 h2 hn2 (by omega)
  have ok2 := turB_ok (L := L) ok hn
  have hn3 : (turB al W H L).length = n := by rw [turB_length, hn]
  cases al
  · simp only [Bool.false_eq_true, if_false] at e1
    exact decF_ok true W H _ n c (turB false W H L) ok2 hn3 (by omega) hnc hcb hf most hm A B w hbs hB hT hB1
  · simp only [if_true] at e1
    have mo : MskOk n (encB true W H L) := headB_msk W H (rowN true W * H) n _ (by omega) (by omega)
    exact decT_ok true W H _ n c (turB true W H L) ok2 (turB_msk mo) hn3 (by omega) hnc hcb hf most hm A B w hbs hB hT hB1
/-- What Set makes of a file. -/
theorem setTur_any (al : Bool) (W H : Nat) (L : List Col) (hH : 1 ≤ H) (hH2 : H ≤ 4096) (n c : Nat) (hn : (encB al W H L).length = n) (hn1 : 26 ≤ n) (hn2 : n ≤ 4194304) (A : Option Addr) (B : Nat) (w : World) (hbs : Bs w B A (encB al W H L)) (hB : B ≤ w.heap.size) :
    Calls Tryz.prog 18 #[.slice A n c, .int .i64 22, .int .i64 4, .bool false, .int .u32 ((4294967296 - H : Nat) : Int)] w fun e w' => ∃ A' c', e = .returned (.tuple #[.slice A' n c', .int .i64 0]) ∧ w'.ownsRow w.heap.size 5 1 (.slice A' n c') n (bytesV (turB al W H L)) ∧ Below w.heap.size w w' := by
  subst hn
  exact refSet_ok A c (encB al W H L) 22 4 (4294967296 - H) false B w hbs hB (by omega) (by omega) (by omega) (by omega)
end Go.Proofs.YtnfjeeflcfmpbaaGreatDoor
