/- What is written is read: Decode on what Encode answers. -/
import Derived.Test.YthbhaggldighlaaGreatDoorZm
import Derived.Test.YthbhaggldighlaaGreatDoorZp
set_option linter.unusedVariables false
set_option linter.unusedSimpArgs false
namespace Go.Proofs.YthbhaggldighlaaGreatDoor
open Go.ChangeShapes Go.WideShapes Go.ChangeAt Go.RowKit

theorem rnd_bd {s : Int} (h : 0 ≤ s ∧ s ≤ 65535) : 0 ≤ downN s 255 ∧ downN s 255 ≤ 255 ∧ 0 ≤ rnd s ∧ rnd s ≤ 65535 := by
  have h1 := down_bd h
  have h2 := upN_bd h1.1 h1.2 (show (1 : Int) ≤ 255 by omega)
  exact ⟨h1.1, h1.2, h2.1, h2.2⟩
set_option maxRecDepth 100000 in
theorem round_any (s : Int) (hs : 0 ≤ s ∧ s ≤ 65535) (w : World) : Calls Tryz.prog 26 #[.int .u16 s, .int .i64 255] w fun e w' => e = .returned (.int .u16 (rnd s)) ∧ w' = w := by
  obtain ⟨b1, b2, _, _⟩ := rnd_bd hs
  have HD : Hid (Calls Tryz.prog 68 #[.int .u16 s, .int .i64 255] w fun e w' => e = .returned (.tuple #[.int .i64 (downN s 255), .int .i64 0]) ∧ w' = w) := Lib.hid ((refDown_any s 255 hs (by omega) w).mono fun e w' h => by
    obtain ⟨h1, ⟨_, h2⟩ | ⟨h2, _⟩⟩ := h
    · exact ⟨h2, h1⟩
    · exact absurd ⟨by omega, by omega⟩ h2)
  have HU : Hid (Calls Tryz.prog 37 #[.int .i64 (downN s 255), .int .i64 255] w fun e w' => e = .returned (.tuple #[.int .u16 (rnd s), .int .i64 0]) ∧ w' = w) := Lib.hid ((refUp_any (downN s 255) 255 (by omega) (by omega) w).mono fun e w' h => by
    obtain ⟨h1, ⟨_, h2⟩ | ⟨h2, _⟩⟩ := h
    · exact ⟨h2, h1⟩
    · exact absurd ⟨by omega, by omega, b1, b2⟩ h2)
  generalize downN s 255 = d at *
  generalize rnd s = r at *
  go_enter Tryz.func26, Tryz.ntmps26
  go_wp2_with fail
  refine HD.out.mono ?_
  rintro e w1 ⟨rfl, rfl⟩
  go_wp2_with fail
  refine HU.out.mono ?_
  rintro e w2 ⟨rfl, rfl⟩
  go_wp2_with fail
  go_ret
  exact ⟨rfl, rfl⟩
theorem headB_msk (W H P n : Nat) (body : List UInt8) (hn : 122 ≤ n) (hnb : n ≤ 4194304) : MskOk n (headB true W H P ++ body) := by
  have hl := headB_length true W H P
  simp only [if_true] at hl
  refine ⟨?_, ?_, ?_, ?_, hn, hnb⟩
  all_goals
    rw [numB_app _ _ _ _ (by omega)]
    simp only [headB, if_true]
    repeat rw [numB_far _ _ _ _ _ _ _ (by first | decide | omega)]
    rw [numB_setB _ _ _ _ _ (by simp [setB_length])]
theorem enc_bd {al : Bool} {W H : Nat} {L : List Col} (hl : L.length = W * H) (hf : W * H ≤ 65536) (hH : H ≤ 4096) : (encB al W H L).length = (if al then 122 else 54) + rowN al W * H ∧ (encB al W H L).length ≤ 4194304 := by
  have e1 := encB_length al W H L hl
  have e2 : rowN al W * H ≤ (4 * W + 4) * H := Nat.mul_le_mul_right H (row_fits al W).2
  rw [Nat.add_mul, Nat.mul_assoc] at e2
  refine ⟨e1, ?_⟩
  rw [e1]
  cases al <;> simp <;> omega
/-- Decode on what Encode answers. -/
theorem dec_any (al : Bool) (W H : Nat) (L : List Col) (hl : L.length = W * H) (hok : ∀ c ∈ L, ColOk c) (w1 : 1 ≤ W) (w2 : W ≤ 4096) (h1 : 1 ≤ H) (h2 : H ≤ 4096) (hf : W * H ≤ 65536) (n c : Nat) (hn : (encB al W H L).length = n) (hnc : n ≤ c) (hcb : c ≤ maxLen) (most : Int) (hm : ((W * H : Nat) : Int) ≤ most) (A : Option Addr) (B : Nat) (w : World) (hbs : Bs w B A (encB al W H L)) (hB : B ≤ w.heap.size) (hT : Tab32 w) (hB1 : 1 < w.heap.size) :
    Calls Tryz.prog 21 #[.slice A n c, .int .i64 most] w (ImR w ⟨W, H, 0, flatL (L.map (rndC al)) (W * H)⟩) := by
  obtain ⟨e1, e2⟩ := enc_bd (al := al) hl hf h2
  rw [← dec_enc al W H L hl hok]
  have hn2 : (if al then 122 else 54) ≤ n := by omega
  have ok := headB_ok al W H (rowN al W * H) n (encR al W L H).reverse.flatten w1 w2 h1 h2 hn2 (by omega)
  cases al
  · simp only [Bool.false_eq_true, if_false] at e1
    exact decF_ok false W H _ n c (encB false W H L) ok hn (by omega) hnc hcb hf most hm A B w hbs hB hT hB1
  · simp only [if_true] at e1
    exact decT_ok false W H _ n c (encB true W H L) ok (headB_msk W H (rowN true W * H) n _ (by omega) (by omega)) hn (by omega) hnc hcb hf most hm A B w hbs hB hT hB1
/-- The samples that are read. -/
def bakL (al : Bool) (l : List Int) : List Int := (List.range l.length).map fun i => if i % 4 = 3 ∧ al = false then 65535 else rnd (l.getD i 0)
theorem bakL_length (al : Bool) (l : List Int) : (bakL al l).length = l.length := by simp [bakL]
theorem flat_pxs (al : Bool) (l : List Int) (M : Nat) : ∀ k, k ≤ M → flatL ((pxL l M).map (rndC al)) k = (List.range (4 * k)).map fun i => if i % 4 = 3 ∧ al = false then 65535 else rnd (l.getD i 0)
  | 0, _ => rfl
  | k + 1, hk => by
    have hg : ((pxL l M).map (rndC al)).getD k col0 = rndC al (pxAt l (4 * k)) := by
      have h := pxL_get l M k (by omega)
      have hlt : k < (pxL l M).length := by rw [pxL_length]; omega
      rw [List.getD_eq_getElem?_getD, List.getElem?_eq_getElem hlt, Option.getD_some] at h
      rw [List.getD_eq_getElem?_getD, List.getElem?_map, List.getElem?_eq_getElem hlt, Option.map_some, Option.getD_some, h]
    rw [flatL, flat_pxs al l M k (by omega), hg, show 4 * (k + 1) = 4 * k + 1 + 1 + 1 + 1 from by omega, List.range_succ, List.range_succ, List.range_succ, List.range_succ]
    simp only [List.map_append, List.map_cons, List.map_nil, List.append_assoc, List.cons_append, List.nil_append]
    congr 1
    have a0 : ¬ (4 * k % 4 = 3) := by omega
    have a1 : ¬ ((4 * k + 1) % 4 = 3) := by omega
    have a2 : ¬ ((4 * k + 1 + 1) % 4 = 3) := by omega
    have a3 : (4 * k + 1 + 1 + 1) % 4 = 3 := by omega
    simp only [colQ, rndC, pxAt, a0, a1, a2, a3, false_and, if_false, true_and]
    cases al <;> simp
theorem flat_bak (al : Bool) (l : List Int) (M : Nat) (h : l.length = 4 * M) : flatL ((pxL l M).map (rndC al)) M = bakL al l := by
  rw [flat_pxs al l M M (Nat.le_refl _), bakL, h]
theorem px_ok {l : List Int} (hlb : ∀ v ∈ l, 0 ≤ v ∧ v ≤ 65535) (M : Nat) : ∀ x ∈ pxL l M, ColOk x := by
  intro x hx
  obtain ⟨i, hi, rfl⟩ := List.mem_iff_getElem.1 hx
  rw [pxL_length] at hi
  have := pxL_get l M i hi
  rw [List.getD_eq_getElem?_getD, List.getElem?_eq_getElem (by rw [pxL_length]; exact hi), Option.getD_some] at this
  rw [this]
  have hd : ∀ j, 0 ≤ l.getD j 0 ∧ l.getD j 0 ≤ 65535 := fun j => by
    by_cases hj : j < l.length
    · rw [List.getD_eq_getElem?_getD, List.getElem?_eq_getElem hj]; exact hlb _ (List.getElem_mem hj)
    · rw [List.getD_eq_getElem?_getD, List.getElem?_eq_none (by omega)]; simp
  exact ⟨hd _, hd _, hd _, hd _⟩
end Go.Proofs.YthbhaggldighlaaGreatDoor
