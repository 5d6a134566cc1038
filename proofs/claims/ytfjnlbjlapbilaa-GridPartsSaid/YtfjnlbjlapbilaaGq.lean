/- The document's Within and Crop. -/
import Derived.Test.YtfjnlbjlapbilaaGs
import Derived.Test.YtfjnlbjlapbilaaAr
import Derived.Deep.CutBlock
namespace Go.Proofs.Ytfjnlbjlapbilaa
open Go.ChangeShapes Go.WideShapes Go.ChangeAt Go.RowKit

theorem inB_no {x y p q W H : Int} (h : ¬ (1 ≤ p ∧ 1 ≤ q ∧ 0 ≤ x ∧ 0 ≤ y ∧ p ≤ W ∧ q ≤ H)) : inB x y p q W H = false := by
  cases hi : inB x y p q W H with
  | false => rfl
  | true =>
    have := inB_bd hi
    omega
set_option maxRecDepth 100000 in
theorem within_in (x y p q : Int) (W H : Nat) (hW : W ≤ 4096) (hH : H ≤ 4096) (w : World) :
    Calls Try.prog 45 #[.int .i64 x, .int .i64 y, .int .i64 p, .int .i64 q, .int .i64 (W : Int), .int .i64 (H : Int)] w fun e w' => e = .returned (.bool (inB x y p q W H)) ∧ w' = w := by
  go_enter Try.func45, Try.ntmps45
  by_cases h1 : (1 : Int) ≤ p
  case neg =>
    have HE : Hid (inB x y p q W H = false) := Lib.hid (inB_no (by omega))
    go_wp2_with fail
    go_ret
    exact ⟨ret_bl HE.out.symm, rfl⟩
  by_cases h2 : (1 : Int) ≤ q
  case neg =>
    have HE : Hid (inB x y p q W H = false) := Lib.hid (inB_no (by omega))
    go_wp2_with fail
    go_ret
    exact ⟨ret_bl HE.out.symm, rfl⟩
  by_cases h3 : (0 : Int) ≤ x
  case neg =>
    have HE : Hid (inB x y p q W H = false) := Lib.hid (inB_no (by omega))
    go_wp2_with fail
    go_ret
    exact ⟨ret_bl HE.out.symm, rfl⟩
  by_cases h4 : (0 : Int) ≤ y
  case neg =>
    have HE : Hid (inB x y p q W H = false) := Lib.hid (inB_no (by omega))
    go_wp2_with fail
    go_ret
    exact ⟨ret_bl HE.out.symm, rfl⟩
  by_cases h5 : p ≤ (W : Int)
  case neg =>
    have HE : Hid (inB x y p q W H = false) := Lib.hid (inB_no (by omega))
    go_wp2_with fail
    go_ret
    exact ⟨ret_bl HE.out.symm, rfl⟩
  by_cases h6 : q ≤ (H : Int)
  case neg =>
    have HE : Hid (inB x y p q W H = false) := Lib.hid (inB_no (by omega))
    go_wp2_with fail
    go_ret
    exact ⟨ret_bl HE.out.symm, rfl⟩
  have HE : Hid (inB x y p q W H = (decide (x ≤ (W : Int) - p) && decide (y ≤ (H : Int) - q))) := Lib.hid (by simp [inB, h1, h2, h3, h4])
  have r1 : wrap64 ((W : Int) - p) = (W : Int) - p := IntWalk.wrap64_in _ (by omega)
  have r2 : wrap64 ((H : Int) - q) = (H : Int) - q := IntWalk.wrap64_in _ (by omega)
  by_cases h7 : x ≤ (W : Int) - p
  case neg =>
    have HF : Hid (inB x y p q W H = false) := Lib.hid (by rw [HE.out]; simp [h7])
    go_wp2_with fail
    go_ret
    exact ⟨ret_bl HF.out.symm, rfl⟩
  go_wp2_with fail
  go_ret
  exact ⟨ret_bl (by rw [HE.out]; simp [h7]), rfl⟩

/-- The first i numbers of a row. -/
def rowL (l : List Int) (F i : Nat) : List Int := (l.drop F).take i
theorem rowL_succ (l : List Int) (F i : Nat) (h : F + i < l.length) : rowL l F (i + 1) = rowL l F i ++ [l[F + i]] := by
  unfold rowL
  rw [List.take_succ_eq_append_getElem (by rw [List.length_drop]; omega)]
  simp [List.getElem_drop]
/-- A row of numbers has one more. -/
theorem append_int (base : Nat) (w : World) (A : Option Addr) (c k : Nat) (xs : List Int) (a : Int) (h : w.ownsRow base 3 1 (.slice A k c) k (intsV xs)) (hb : base ≤ w.heap.size) (hk : k ≤ 65536) (ty : TypeId) :
    ∃ A' c' w', (Builtin.append_ #[22, 22] ty #[.slice A k c, .slice (some ⟨w.heap.size, 0, none⟩) 1 1]).run Try.prog (w.alloc (.cells #[.int .i64 a] 3)) = .ok (.slice A' (k + 1) c') w' ∧
      w'.ownsRow base 3 1 (.slice A' (k + 1) c') (k + 1) (intsV (xs ++ [a])) ∧ Upd (fun i => (Value.slice A k c).ownBlock = some i ∨ w.heap.size ≤ i) w w' := by
  obtain ⟨i0, hi, hz0, hz1, hz2⟩ := info_parts info_int
  obtain ⟨A', c', w', hrun, h2, h3, _⟩ := run_append_vn (P := Try.prog) (w.alloc (.cells #[.int .i64 a] 3)) base 22 ty 3 i0 _ 1 8 Try.underlying22 hi hz0 hz1 hz2 rfl (by omega) (.slice A k c) k (intsV xs) (own_upd h ((Upd.refl No w).alloc _) (fun _ _ => id)) (w.heap.size + 1) ⟨w.heap.size, 0, none⟩ 1 1 [.int .i64 a] rfl (vs_lit w 3 [.int .i64 a] _ (by omega)) (by simp [Value.oneCell']) (by unfold maxLen; omega) (by omega) (by simp; omega)
  rw [show intsV (xs ++ [a]) = intsV xs ++ [.int .i64 a] by rw [intsV_append]; rfl]
  exact ⟨A', c', w', hrun, h2, ((Upd.refl _ w).alloc _).then (Upd.of_grown h3) (fun i hi e => .inl e.symm)⟩
end Go.Proofs.Ytfjnlbjlapbilaa
