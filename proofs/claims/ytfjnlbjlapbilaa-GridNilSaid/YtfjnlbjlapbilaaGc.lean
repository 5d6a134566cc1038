/- A run of a row; At and Set. -/
import Derived.Test.YtfjnlbjlapbilaaGb
import Derived.Test.YtfjnlbjlapbilaaTl
import Derived.Deep.QuietTactic
import Derived.BigQuiet
namespace Go.Proofs.Ytfjnlbjlapbilaa
open Go.ChangeShapes Go.WideShapes Go.ChangeAt Go.RowKit

theorem place_lt {W H X Y n : Nat} (hx : X + n ≤ W) (hy : Y < H) : Y * W + X + n ≤ W * H := by
  have h1 : (Y + 1) * W ≤ H * W := Nat.mul_le_mul_right W hy
  rw [Nat.add_mul, Nat.one_mul] at h1
  rw [Nat.mul_comm W H]
  omega

set_option maxRecDepth 100000 in
set_option maxHeartbeats 1000000 in
theorem run_go (w : World) (g r c X Y W n m N F G : Nat) (k0 : w.cell? ⟨g, 0, none⟩ = some (.int .i64 (W : Int))) (k2 : w.cell? ⟨g, 2, none⟩ = some (.slice (some ⟨r, 0, none⟩) N c))
    (r1 : wrap64 ((Y : Int) * (W : Int)) = (m : Int)) (r2 : wrap64 ((m : Int) + (X : Int)) = (F : Int)) (r3 : wrap64 ((F : Int) + (n : Int)) = (G : Int)) (h1 : F < G) (h2 : G ≤ N) (h3 : N ≤ c) (_ : c ≤ maxLen) :
    Calls Try.prog 42 #[.pointer (some ⟨g, 0, none⟩), .int .i64 (X : Int), .int .i64 (Y : Int), .int .i64 (n : Int)] w fun e w' => e = .returned (.slice (some ⟨r, F, none⟩) (G - F) (c - F)) ∧ w' = w := by
  go_enter Try.func42, Try.ntmps42
  go_wp2_with fail
  go_ret
  exact ⟨rfl, rfl⟩

theorem run_arith {W H X Y n : Nat} (hx : X + n ≤ W) (hy : Y < H) (hf : W * H ≤ 65536) : wrap64 ((Y : Int) * (W : Int)) = ((Y * W : Nat) : Int) ∧ wrap64 (((Y * W : Nat) : Int) + (X : Int)) = ((Y * W + X : Nat) : Int) ∧ wrap64 (((Y * W + X : Nat) : Int) + (n : Int)) = ((Y * W + X + n : Nat) : Int) := by
  have hp := place_lt hx hy
  rw [← Int.natCast_mul, ← Int.natCast_add, ← Int.natCast_add]
  have b : Y * W + X + n ≤ 65536 := Nat.le_trans hp hf
  clear hp hf hx hy
  generalize Y * W = m at *
  refine ⟨IntWalk.wrap64_in _ ?_, IntWalk.wrap64_in _ ?_, IntWalk.wrap64_in _ ?_⟩ <;> omega
theorem run_any {w : World} {base g r c W H : Nat} {xs : List Value} (h : GridAt w base 87 3 g r c W H xs) (X Y n : Nat) (hn : 1 ≤ n) (hx : X + n ≤ W) (hy : Y < H) :
    Calls Try.prog 42 #[.pointer (some ⟨g, 0, none⟩), .int .i64 (X : Int), .int .i64 (Y : Int), .int .i64 (n : Int)] w fun e w' => e = .returned (.slice (some ⟨r, Y * W + X, none⟩) n (c - (Y * W + X))) ∧ w' = w := by
  obtain ⟨f1, f2, _, _⟩ := h.form
  obtain ⟨r1, r2, r3⟩ := run_arith hx hy h.few
  have hq := run_go w g r c X Y W n (Y * W) (W * H) (Y * W + X) (Y * W + X + n) h.c0 h.c2 r1 r2 r3 (Nat.lt_add_of_pos_right hn) (place_lt hx hy) f1 f2
  rw [Nat.add_sub_cancel_left] at hq
  exact hq

theorem run_at {w : World} {base g r c W H : Nat} {xs : List Value} (h : GridAt w base 87 3 g r c W H xs) (X Y n : Nat) (y : Int) (hy' : y = (Y : Int)) (hn : 1 ≤ n) (hx : X + n ≤ W) (hy : Y < H) :
    Calls Try.prog 42 #[.pointer (some ⟨g, 0, none⟩), .int .i64 (X : Int), .int .i64 y, .int .i64 (n : Int)] w fun e w' => e = .returned (.slice (some ⟨r, Y * W + X, none⟩) n (c - (Y * W + X))) ∧ w' = w := by
  subst hy'
  exact run_any h X Y n hn hx hy

theorem inB_iff (x y : Int) (W H : Nat) : inB x y 1 1 W H = true ↔ 0 ≤ x ∧ 0 ≤ y ∧ x < W ∧ y < H := by
  simp only [inB, Bool.and_eq_true, decide_eq_true_eq]
  omega

def cellV (l : List Int) (W H : Nat) (x y : Int) : Int := if inB x y 1 1 W H = true then l.getD (y.toNat * W + x.toNat) 0 else 0
set_option maxRecDepth 100000 in
set_option maxHeartbeats 1000000 in
/-- The cell at a place, and whether there is one. -/
theorem at_any {w : World} {base g r c W H : Nat} {l : List Int} (h : GridAt w base 87 3 g r c W H (intsV l)) (x y : Int) :
    Calls Try.prog 13 #[.pointer (some ⟨g, 0, none⟩), .int .i64 x, .int .i64 y] w fun e w' =>
      e = .returned (.tuple #[.int .i64 (cellV l W H x y), .bool (inB x y 1 1 W H)]) ∧ Below w.heap.size w w' := by
  go_enter Try.func13, Try.ntmps13
  go_wp2_with fail
  refine (holds_any h x y 1 1 (by omega) (by omega)).mono ?_
  rintro e w1 ⟨rfl, hb1⟩
  replace h := h.below hb1
  have HB1 := Lib.hid hb1
  clear hb1
  cases hi : inB x y 1 1 W H with
  | false =>
    have HV : Hid (cellV l W H x y = 0) := Lib.hid (by unfold cellV; rw [if_neg (by rw [hi]; simp)])
    have HI := Lib.hid hi
    go_wp2_with fail
    go_ret2
    exact ⟨by rw [HV.out, HI.out]; rfl, HB1.out⟩
  | true =>
    have hcv : cellV l W H x y = l.getD (y.toNat * W + x.toNat) 0 := by unfold cellV; rw [if_pos hi]
    have HI := Lib.hid hi
    obtain ⟨_, _, i1, i2, i3, i4⟩ := inB_bd hi
    obtain ⟨X, rfl⟩ : ∃ X : Nat, x = (X : Int) := ⟨x.toNat, by omega⟩
    obtain ⟨Y, rfl⟩ : ∃ Y : Nat, y = (Y : Int) := ⟨y.toNat, by omega⟩
    have hx : X + 1 ≤ W := by omega
    have hy : Y < H := by omega
    have hpl := place_lt hx hy
    have hlen := h.len
    rw [intsV_length] at hlen
    have hF : Y * W + X < l.length := by rw [hlen]; exact hpl
    have hc := h.at_ (k := Y * W + X) (by rw [intsV_length]; exact hF)
    rw [intsV_get] at hc
    have hfm := h.form.1
    have hfn := Nat.le_trans hpl hfm
    have HV : Hid (cellV l W H X Y = l[Y * W + X]) := Lib.hid (by rw [hcv]; simp [List.getD, List.getElem?_eq_getElem hF])
    have HRun := run_any h X Y 1 (Nat.le_refl _) hx hy
    have HR2 := Lib.hid HRun
    clear HRun hpl hfm hlen hcv hi
    generalize l[Y * W + X] = v at *
    generalize Y * W + X = F at *
    clear i1 i2 i3 i4
    go_wp2_with fail
    refine HR2.out.mono ?_
    rintro e w2 ⟨rfl, rfl⟩
    go_wp2_with fail
    go_ret2
    exact ⟨by rw [HV.out, HI.out]; rfl, HB1.out⟩
end Go.Proofs.Ytfjnlbjlapbilaa
