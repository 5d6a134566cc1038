/- Contracts of the codes' making: decoderOf, the fixed codes' lengths, fixedCodes, mayBe, goodDecoder. -/
import Derived.Test.YthbdhpciibjnmaaId
namespace Go.Proofs.Ythbdhpciibjnmaa
open Go.ChangeShapes Go.WideShapes Go.ChangeAt Go.RowKit

theorem codesErr_ok {l : List Int} (h1 : l.length ≤ 4096) (h2 : l.any badLen = false) (h3 : 0 ≤ roomOf l) : codesErr l = 0 := by
  have e : roomErr l = 0 := by
    unfold roomErr
    rw [if_neg (by omega), h2]
    rfl
  unfold codesErr
  rw [if_pos e, if_neg (by omega)]
theorem decoderOf_any (Ai : Option Addr) (ci n : Nat) (l : List Int) (w : World) (hn : l.length = n) (hbs : Is w w.heap.size Ai l) (hl : l.length ≤ 4096) (hg : l.any badLen = false) (hro : 0 ≤ roomOf l) :
    Calls Try.prog 60 #[.slice Ai n ci] w fun e w' => ∃ g, e = .returned (.pointer (some ⟨g, 0, none⟩)) ∧ DecAt w' w.heap.size g l ∧ Below w.heap.size w w' := by
  subst hn
  have HN := Lib.hid (new_any Ai ci l w hbs (by omega))
  have HE := Lib.hid (codesErr_ok hl hg hro)
  clear hg hro
  go_enter Try.func60, Try.ntmps60
  go_wp2_with fail
  refine HN.out.mono ?_
  intro e w1 h
  unfold NewRes at h
  rw [if_pos HE.out] at h
  obtain ⟨g, rfl, hd, hb⟩ := h
  go_wp2_with fail
  refine (must_ok w1).mono ?_
  rintro e w2 ⟨rfl, rfl⟩
  go_wp2_with fail
  go_ret
  exact ⟨g, rfl, hd, hb⟩
theorem fixedL_get (k : Nat) (h : k < 288) : fixedL[k]? = some (if k ≤ 143 then 8 else if k ≤ 255 then 9 else if k ≤ 279 then 7 else 8) := by simp [fixedL, h]
def FxAt (w : World) (k : Nat) (wr : World) : Prop := ∃ xs : List Int, wr.ownsRow w.heap.size 3 1 (.slice (some ⟨w.heap.size, 0, none⟩) 288 288) 288 (intsV xs) ∧ (∀ j, j < k → xs[j]? = fixedL[j]?) ∧ Below w.heap.size w wr
theorem FxAt.step {w wr : World} {k : Nat} {z : Int} (h : FxAt w k wr) (hk : k < 288) (hz : fixedL[k]? = some z) : FxAt w (k + 1) (wr.setCell ⟨w.heap.size, k, none⟩ (.int .i64 z)) := by
  obtain ⟨xs, h1, h2, h3⟩ := h
  have hl := own_len h1
  rw [intsV_length] at hl
  refine ⟨xs.set k z, row_set h1 k z, fun j hj => ?_, h3.setCell (p := ⟨w.heap.size, k, none⟩) (Nat.le_refl _) _⟩
  by_cases e : j = k
  · subst e; rw [hz, List.getElem?_set_self (by omega)]
  · rw [List.getElem?_set_ne (fun x => e x.symm)]; exact h2 j (by omega)
theorem make_ints (n : Nat) : (madeCells (Value.int .i64 0).cells (n * 1)).toList = intsV (List.replicate n 0) := by
  rw [show (Value.int .i64 0).cells = #[.int .i64 0] from rfl, Nat.mul_one, toList_madeCells_one]
  simp [intsV]
theorem FxAt.start {w w1 : World} (h : w1.ownsRow w.heap.size 3 1 (.slice (some ⟨w.heap.size, 0, none⟩) 288 288) 288 (intsV (List.replicate 288 0))) (hg : w.grownBy w1 none) : FxAt w 0 w1 :=
  ⟨_, h, fun j hj => by omega, (Below.refl _ _).grown hg (Nat.le_refl _) (by simp)⟩
theorem FxAt.cell {w wr : World} {k : Nat} (h : FxAt w k wr) (hk : k < 288) : ∃ v, wr.cell? ⟨w.heap.size, k, none⟩ = some v ∧ wr.frozen? ⟨w.heap.size, k, none⟩ = false := by
  obtain ⟨xs, h1, _, _⟩ := h
  have hl := own_len h1
  rw [intsV_length] at hl
  exact ⟨_, row_at h1 k (by omega), h1.frozenAt k⟩
theorem FxAt.done {w wr : World} (h : FxAt w 288 wr) : Is wr wr.heap.size (some ⟨w.heap.size, 0, none⟩) fixedL ∧ Below w.heap.size w wr := by
  obtain ⟨xs, h1, h2, h3⟩ := h
  have hl := own_len h1
  rw [intsV_length] at hl
  have e : xs = fixedL := by
    apply List.ext_getElem?
    intro j
    by_cases hj : j < 288
    · exact h2 j hj
    · rw [List.getElem?_eq_none (by omega), List.getElem?_eq_none (by simp [fixedL]; omega)]
  subst e
  exact ⟨Vs.of_own h1, h3⟩
set_option maxHeartbeats 4000000 in
set_option maxRecDepth 100000 in
theorem fixedLiterals_any (w : World) :
    Calls Try.prog 61 #[] w fun e w' => ∃ Ai ci, e = .returned (.slice Ai 288 ci) ∧ Is w' w'.heap.size Ai fixedL ∧ Below w.heap.size w w' := by
  obtain ⟨i0, hi, hz0, hz1, hz2⟩ := info_parts info_int
  go_enter Try.func61, Try.ntmps61
  go_wp2_with (at_make; refine wpList_make_full _ rfl (.const (.int .i64 288)) (.const (.int .i64 288)) 36 rfl w.heap.size 3 i0 (.int .i64 0) 1 Try.underlying36 hi hz0 hz1 .i64 .i64 288 288 288 rfl rfl rfl rfl (by rw [hz2]; decide) (by decide) (Nat.le_refl _) ?_; intro w1 hown1 hg1; rw [make_ints 288] at hown1; have HF0 : Hid (FxAt w 0 w1) := Lib.hid (FxAt.start hown1 hg1); clear hown1 hg1)
  go_loopw [6] (fun i wr => ∃ k : Nat, k ≤ 288 ∧ i = .int .i64 (k : Int) ∧ Hid (FxAt w k wr)) (fun i _ => 288 - (intOf i).toNat)
  case atStart => exact ⟨0, by omega, rfl, HF0⟩
  case round =>
    obtain ⟨k, hk, rfl, HF⟩ := hrel
    by_cases hlt : k < 288
    · obtain ⟨v, hc, hf⟩ := HF.out.cell hlt
      have hg := fixedL_get k hlt
      by_cases c1 : k ≤ 143
      · rw [if_pos c1] at hg
        have HN := Lib.hid (HF.out.step hlt hg)
        clear hg
        go_wp2_with fail
        go_roundw
        case rel => exact ⟨k + 1, by omega, by go_num, HN⟩
        case measure => simp [intOf]; omega
      · rw [if_neg c1] at hg
        by_cases c2 : k ≤ 255
        · rw [if_pos c2] at hg
          have HN := Lib.hid (HF.out.step hlt hg)
          clear hg
          go_wp2_with fail
          go_roundw
          case rel => exact ⟨k + 1, by omega, by go_num, HN⟩
          case measure => simp [intOf]; omega
        · rw [if_neg c2] at hg
          by_cases c3 : k ≤ 279
          · rw [if_pos c3] at hg
            have HN := Lib.hid (HF.out.step hlt hg)
            clear hg
            go_wp2_with fail
            go_roundw
            case rel => exact ⟨k + 1, by omega, by go_num, HN⟩
            case measure => simp [intOf]; omega
          · rw [if_neg c3] at hg
            have HN := Lib.hid (HF.out.step hlt hg)
            clear hg
            go_wp2_with fail
            go_roundw
            case rel => exact ⟨k + 1, by omega, by go_num, HN⟩
            case measure => simp [intOf]; omega
    · obtain rfl : k = 288 := by omega
      go_wp2_with fail
      go_ret
      exact ⟨_, _, rfl, HF.out.done⟩
def FyAt (w : World) (k : Nat) (wr : World) : Prop := ∃ xs : List Int, wr.ownsRow w.heap.size 3 1 (.slice (some ⟨w.heap.size, 0, none⟩) 30 30) 30 (intsV xs) ∧ (∀ j, j < k → xs[j]? = some 5) ∧ Below w.heap.size w wr
theorem FyAt.step {w wr : World} {k : Nat} (h : FyAt w k wr) (hk : k < 30) : FyAt w (k + 1) (wr.setCell ⟨w.heap.size, k, none⟩ (.int .i64 5)) := by
  obtain ⟨xs, h1, h2, h3⟩ := h
  have hl := own_len h1
  rw [intsV_length] at hl
  refine ⟨xs.set k 5, row_set h1 k 5, fun j hj => ?_, h3.setCell (p := ⟨w.heap.size, k, none⟩) (Nat.le_refl _) _⟩
  by_cases e : j = k
  · subst e; rw [List.getElem?_set_self (by omega)]
  · rw [List.getElem?_set_ne (fun x => e x.symm)]; exact h2 j (by omega)
theorem FyAt.start {w w1 : World} (h : w1.ownsRow w.heap.size 3 1 (.slice (some ⟨w.heap.size, 0, none⟩) 30 30) 30 (intsV (List.replicate 30 0))) (hg : w.grownBy w1 none) : FyAt w 0 w1 :=
  ⟨_, h, fun j hj => by omega, (Below.refl _ _).grown hg (Nat.le_refl _) (by simp)⟩
theorem FyAt.cell {w wr : World} {k : Nat} (h : FyAt w k wr) (hk : k < 30) : ∃ v, wr.cell? ⟨w.heap.size, k, none⟩ = some v ∧ wr.frozen? ⟨w.heap.size, k, none⟩ = false := by
  obtain ⟨xs, h1, _, _⟩ := h
  have hl := own_len h1
  rw [intsV_length] at hl
  exact ⟨_, row_at h1 k (by omega), h1.frozenAt k⟩
theorem FyAt.done {w wr : World} (h : FyAt w 30 wr) : Is wr wr.heap.size (some ⟨w.heap.size, 0, none⟩) fixedD ∧ Below w.heap.size w wr := by
  obtain ⟨xs, h1, h2, h3⟩ := h
  have hl := own_len h1
  rw [intsV_length] at hl
  have e : xs = fixedD := by
    apply List.ext_getElem?
    intro j
    by_cases hj : j < 30
    · rw [h2 j hj]; unfold fixedD; rw [List.getElem?_replicate, if_pos hj]
    · rw [List.getElem?_eq_none (by omega), List.getElem?_eq_none (by simp [fixedD]; omega)]
  subst e
  exact ⟨Vs.of_own h1, h3⟩
set_option maxHeartbeats 4000000 in
set_option maxRecDepth 100000 in
theorem fixedDistances_any (w : World) :
    Calls Try.prog 62 #[] w fun e w' => ∃ Ai ci, e = .returned (.slice Ai 30 ci) ∧ Is w' w'.heap.size Ai fixedD ∧ Below w.heap.size w w' := by
  obtain ⟨i0, hi, hz0, hz1, hz2⟩ := info_parts info_int
  go_enter Try.func62, Try.ntmps62
  go_wp2_with (at_make; refine wpList_make_full _ rfl (.const (.int .i64 30)) (.const (.int .i64 30)) 36 rfl w.heap.size 3 i0 (.int .i64 0) 1 Try.underlying36 hi hz0 hz1 .i64 .i64 30 30 30 rfl rfl rfl rfl (by rw [hz2]; decide) (by decide) (Nat.le_refl _) ?_; intro w1 hown1 hg1; rw [make_ints 30] at hown1; have HF0 : Hid (FyAt w 0 w1) := Lib.hid (FyAt.start hown1 hg1); clear hown1 hg1)
  go_loopw [6] (fun i wr => ∃ k : Nat, k ≤ 30 ∧ i = .int .i64 (k : Int) ∧ Hid (FyAt w k wr)) (fun i _ => 30 - (intOf i).toNat)
  case atStart => exact ⟨0, by omega, rfl, HF0⟩
  case round =>
    obtain ⟨k, hk, rfl, HF⟩ := hrel
    by_cases hlt : k < 30
    · obtain ⟨v, hc, hf⟩ := HF.out.cell hlt
      have HN := Lib.hid (HF.out.step hlt)
      go_wp2_with fail
      go_roundw
      case rel => exact ⟨k + 1, by omega, by go_num, HN⟩
      case measure => simp [intOf]; omega
    · obtain rfl : k = 30 := by omega
      go_wp2_with fail
      go_ret
      exact ⟨_, _, rfl, HF.out.done⟩
end Go.Proofs.Ythbdhpciibjnmaa
