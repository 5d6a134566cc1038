/- Contract of the document's more: does a longer code begin with these bits? -/
import Derived.Test.YthbdhpciibjnmaaTb
namespace Go.Proofs.Ythbdhpciibjnmaa
open Go.ChangeShapes Go.WideShapes Go.ChangeAt Go.RowKit

/-- The cells cs are the table of the lengths l. -/
def TblV (w : World) (B : Nat) (l : List Int) (cs : List Value) : Prop :=
  cs.length = 37 ∧ (∀ k, k < 18 → cs[k]? = some (.int .i64 (firstOf l 16 k))) ∧
    (∀ k, k < 18 → ∃ A c, cs[18 + k]? = some (.slice A (symsOf l k).length c) ∧ Is w B A (natsI (symsOf l k))) ∧ cs[36]? = some (.bool (anyOf l))
theorem TblV.below {w w' : World} {B : Nat} {l : List Int} {cs : List Value} (h : TblV w B l cs) (hb : Below B w w') : TblV w' B l cs := by
  obtain ⟨h1, h2, h3, h4⟩ := h
  exact ⟨h1, h2, fun k hk => by obtain ⟨A, c, h5, h6⟩ := h3 k hk; exact ⟨A, c, h5, Vs.below h6 hb⟩, h4⟩
/-- Does a code of length k begin with the n bits v? -/
def begins (l : List Int) (n v k : Nat) : Bool := decide (n < k ∧ 0 < cntN l k ∧ v * 2 ^ (k - n) < endN l k ∧ 2 * endN l (k - 1) < (v + 1) * 2 ^ (k - n))
def moreB (l : List Int) (n v : Nat) : Bool := (List.range 17).any fun k => begins l n v k
theorem moreB_no {l : List Int} {n v : Nat} (h : ∀ k, k < 17 → begins l n v k = false) : moreB l n v = false := by
  unfold moreB
  rw [List.any_eq_false]
  intro k hk
  have := h k (by simpa using hk)
  rw [this]
  decide
theorem moreB_yes {l : List Int} {n v k : Nat} (hk : k < 17) (h : begins l n v k = true) : moreB l n v = true := by
  unfold moreB
  rw [List.any_eq_true]
  exact ⟨k, by simpa using hk, h⟩
theorem firstOf_mid (l : List Int) (k : Nat) (h1 : 1 ≤ k) (h2 : k ≤ 16) : firstOf l 16 k = ((2 * endN l (k - 1) : Nat) : Int) := by
  unfold firstOf; rw [if_pos ⟨h1, h2⟩]
theorem symsOf_len (l : List Int) (k : Nat) (h1 : 1 ≤ k) (h2 : k ≤ 16) : (symsOf l k).length = cntN l k := by rw [symsOf_eq l k h1 h2, syms_length]
theorem endN_pred (l : List Int) (k : Nat) (h : 1 ≤ k) : endN l k = 2 * endN l (k - 1) + cntN l k := by
  obtain ⟨m, rfl⟩ : ∃ m, k = m + 1 := ⟨k - 1, by omega⟩
  rfl
theorem cntN_le (l : List Int) (n : Nat) : cntN l n ≤ l.length := List.countP_le_length
theorem wrap_nat (q : Nat) (h : q ≤ 65536) : wrap64 (q : Int) = (q : Int) := IntWalk.wrap64_in _ (by omega)
theorem wrap_sum (a b : Nat) (h : a + b ≤ 65536) : wrap64 ((a : Int) + (b : Int)) = (a : Int) + (b : Int) := IntWalk.wrap64_in _ (by omega)
theorem wrap_sum1 (a b : Nat) (h : a + b ≤ 65536) : wrap64 ((a : Int) + (b : Int) - 1) = (a : Int) + (b : Int) - 1 := IntWalk.wrap64_in _ (by omega)
/-- The numbers between which the codes of length k begin with the n bits v. -/
theorem shifted (v n k : Nat) (_hn : n ≤ 16) (hk : n ≤ k) (hk2 : k ≤ 16) (hv : v < 2 ^ n) : ∃ lo P : Nat, lo + P ≤ 65536 ∧ 0 < P ∧ wrap64 ((v : Int) * 2 ^ (k - n)) = (lo : Int) ∧ wrap64 ((2 : Int) ^ (k - n)) = (P : Int) ∧ (v * 2 ^ (k - n) = lo ∧ 2 ^ (k - n) = P) := by
  have h1 : (v + 1) * 2 ^ (k - n) ≤ 2 ^ n * 2 ^ (k - n) := Nat.mul_le_mul_right _ hv
  rw [← Nat.pow_add, show n + (k - n) = k from by omega, Nat.add_mul, Nat.one_mul] at h1
  have h2 : 2 ^ k ≤ 65536 := Nat.pow_le_pow_right (n := 2) (by omega) hk2
  have h3 : 0 < 2 ^ (k - n) := Nat.two_pow_pos _
  have e1 : ((v : Int) * 2 ^ (k - n)) = ((v * 2 ^ (k - n) : Nat) : Int) := by simp
  have e2 : ((2 : Int) ^ (k - n)) = ((2 ^ (k - n) : Nat) : Int) := by simp
  have h4 := Nat.le_trans h1 h2
  refine ⟨v * 2 ^ (k - n), 2 ^ (k - n), h4, h3, ?_, ?_, rfl, rfl⟩
  · rw [e1]; exact wrap_nat _ (Nat.le_trans (Nat.le_add_right _ _) h4)
  · rw [e2]; exact wrap_nat _ (Nat.le_trans (Nat.le_add_left _ _) h4)
def MoreAt (w : World) (l : List Int) (cs : List Value) (n v k : Nat) (wr : World) : Prop :=
  Blk wr w.heap.size 63 cs.toArray ∧ Below w.heap.size w wr ∧ ∀ j, j < k → begins l n v j = false

set_option maxHeartbeats 4000000 in
set_option maxRecDepth 100000 in
theorem refMore_any (l : List Int) (cs : List Value) (n v B : Nat) (w : World) (hT : TblV w B l cs) (hn : n ≤ 16) (hn1 : 1 ≤ n) (hv : v < 2 ^ n) (hl : l.length ≤ 4096) (hro : 0 ≤ roomOf l) :
    Calls Try.prog 80 #[.agg cs.toArray, .int .i64 (v : Int), .int .i64 (n : Int)] w fun e w' => e = .returned (.bool (moreB l n v)) ∧ Below w.heap.size w w' := by
  obtain ⟨hcl, hF, hO, hA⟩ := hT
  have hsz : (Try.prog.info? 63).map (·.size) = some cs.toArray.size := by rw [List.size_toArray, hcl]; exact tbl_info
  go_enter Try.func80, Try.ntmps80
  go_wp2_with fail
  go_loopw [7] (fun i wr => ∃ k : Nat, n + 1 ≤ k ∧ k ≤ 17 ∧ i = .int .i64 k ∧ MoreAt w l cs n v k wr) (fun i _ => 17 - (intOf i).toNat)
  case atStart => exact ⟨n + 1, by omega, by omega, by go_num, Blk.new w _ _, (Below.refl _ _).alloc (Nat.le_refl _) _, fun j hj => by unfold begins; rw [decide_eq_false_iff_not]; omega⟩
  case round =>
    obtain ⟨k, hk1, hk2, rfl, hB, hb, hno⟩ := hrel
    have HB := Lib.hid hB; clear hB
    have HBB := Lib.hid hb; clear hb
    have HNO := Lib.hid hno; clear hno
    by_cases hlt : k < 17
    · obtain ⟨A, c, hr1, _⟩ := hO k (by omega)
      have hf1 := hF k (by omega)
      rw [firstOf_mid l k (by omega) (by omega)] at hf1
      rw [symsOf_len l k (by omega) (by omega)] at hr1
      have hcr : wr.cell? ⟨w.heap.size, 18 + k, none⟩ = some (.slice A (cntN l k) c) := by rw [HB.out.cell]; simpa using hr1
      have hcf : wr.cell? ⟨w.heap.size, k, none⟩ = some (.int .i64 ((2 * endN l (k - 1) : Nat) : Int)) := by rw [HB.out.cell]; simpa using hf1
      have hep := endN_pred l k (by omega)
      have heb := endN_bd l hro k (by omega)
      have hcn := cntN_le l k
      have HBG : Hid (begins l n v k = decide (n < k ∧ 0 < cntN l k ∧ v * 2 ^ (k - n) < endN l k ∧ 2 * endN l (k - 1) < (v + 1) * 2 ^ (k - n))) := Lib.hid rfl
      obtain ⟨lo, P, hP, hP0, q1, q2, hlo⟩ := shifted v n k hn (by omega) (by omega) hv
      rw [Nat.add_mul, Nat.one_mul, hlo.1, hlo.2] at HBG
      have HQ1 := Lib.hid q1
      have HQ2 := Lib.hid q2
      have HQ3 : Hid (wrap64 ((lo : Int) + (P : Int)) = (lo : Int) + (P : Int)) := Lib.hid (wrap_sum lo P hP)
      have HQ4 : Hid (wrap64 ((lo : Int) + (P : Int) - 1) = (lo : Int) + (P : Int) - 1) := Lib.hid (wrap_sum1 lo P hP)
      clear hlo q1 q2
      have HV := Lib.hid hv; clear hv
      generalize 2 * endN l (k - 1) = F at *
      generalize cntN l k = L at *
      generalize endN l k = E at *
      clear hr1 hf1
      have d0 : decide ((k : Int) ≤ 16) = true := by simp; omega
      have hLb : L ≤ 4096 := by omega
      have hFb : F ≤ 131072 := by omega
      have s1 : IntKind.i64.wrap ((F : Int) + (L : Int)) = (F : Int) + (L : Int) := IntWalk.i64_in _ (by omega)
      have s2 : IntKind.i64.wrap ((F : Int) + (L : Int) - 1) = (F : Int) + (L : Int) - 1 := IntWalk.i64_in _ (by omega)
      have HEP := Lib.hid hep; clear hep
      by_cases h1 : 0 < L
      · have c1 : decide (0 < L) = true := by simpa using h1
        by_cases h2 : lo < F + L
        · have c2 : decide ((lo : Int) ≤ (F : Int) + (L : Int) - 1) = true := by simp; omega
          have c2' : decide ((lo : Int) < (F : Int) + (L : Int)) = true := by simp; omega
          by_cases h3 : F < lo + P
          · have c3 : decide ((F : Int) ≤ (lo : Int) + (P : Int) - 1) = true := by simp; omega
            have c3' : decide ((F : Int) < (lo : Int) + (P : Int)) = true := by simp; omega
            have HM := Lib.hid (moreB_yes (l := l) (n := n) (v := v) (k := k) (by omega) (by rw [HBG.out, decide_eq_true_iff]; exact ⟨by omega, h1, by rw [HEP.out]; exact h2, h3⟩))
            clear h1 h2 h3
            go_wp2_with fail
            rw [HQ1.out, HQ2.out, HQ3.out, HQ4.out]
            go_quiet (fail)
            go_wp2_with fail
            go_ret
            exact ⟨ret_bl HM.out.symm, below_drewN HBB.out _⟩
          · have c3 : decide ((F : Int) ≤ (lo : Int) + (P : Int) - 1) = false := by simp; omega
            have c3' : decide ((F : Int) < (lo : Int) + (P : Int)) = false := by simp; omega
            have HM : Hid (begins l n v k = false) := Lib.hid (by rw [HBG.out, decide_eq_false_iff_not]; intro h; exact h3 h.2.2.2)
            clear h1 h2 h3
            go_wp2_with fail
            rw [HQ1.out, HQ2.out, HQ3.out, HQ4.out]
            go_quiet (fail)
            go_wp2_with fail
            go_roundw
            case rel => exact ⟨k + 1, by omega, by omega, by go_num, HB.out, below_drewN HBB.out _, fun j hj => by rcases Nat.lt_succ_iff_lt_or_eq.mp hj with h | h; exact HNO.out j h; subst h; exact HM.out⟩
            case measure => simp [intOf]; omega
        · have c2 : decide ((lo : Int) ≤ (F : Int) + (L : Int) - 1) = false := by simp; omega
          have c2' : decide ((lo : Int) < (F : Int) + (L : Int)) = false := by simp; omega
          have HM : Hid (begins l n v k = false) := Lib.hid (by rw [HBG.out, decide_eq_false_iff_not]; intro h; have h3 := h.2.2.1; rw [HEP.out] at h3; exact h2 h3)
          clear h1 h2
          go_wp2_with fail
          rw [HQ1.out, HQ2.out, HQ3.out, HQ4.out]
          go_quiet (fail)
          go_wp2_with fail
          go_roundw
          case rel => exact ⟨k + 1, by omega, by omega, by go_num, HB.out, below_drewN HBB.out _, fun j hj => by rcases Nat.lt_succ_iff_lt_or_eq.mp hj with h | h; exact HNO.out j h; subst h; exact HM.out⟩
          case measure => simp [intOf]; omega
      · have c1 : decide (0 < L) = false := by simpa using h1
        have HM : Hid (begins l n v k = false) := Lib.hid (by rw [HBG.out, decide_eq_false_iff_not]; intro h; exact h1 h.2.1)
        clear h1
        go_wp2_with fail
        rw [HQ1.out, HQ2.out, HQ3.out, HQ4.out]
        go_quiet (fail)
        go_wp2_with fail
        go_roundw
        case rel => exact ⟨k + 1, by omega, by omega, by go_num, HB.out, below_drewN HBB.out _, fun j hj => by rcases Nat.lt_succ_iff_lt_or_eq.mp hj with h | h; exact HNO.out j h; subst h; exact HM.out⟩
        case measure => simp [intOf]; omega
    · obtain rfl : k = 17 := by omega
      have HM := Lib.hid (moreB_no (fun j hj => HNO.out j hj))
      have d0 : decide (((17 : Nat) : Int) ≤ 16) = false := by simp
      go_wp2_with fail
      go_ret
      exact ⟨ret_bl HM.out.symm, HBB.out⟩
end Go.Proofs.Ythbdhpciibjnmaa
