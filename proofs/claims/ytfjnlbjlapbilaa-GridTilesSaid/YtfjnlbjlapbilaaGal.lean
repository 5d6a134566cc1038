/- All: the iterator over a grid's cells. -/
import Derived.Test.YtfjnlbjlapbilaaGl
import Derived.Test.YtfjnlbjlapbilaaSu
import Derived.Test.YtfjnlbjlapbilaaTr
namespace Go.Proofs.Ytfjnlbjlapbilaa
open Go.ChangeShapes Go.WideShapes Go.ChangeAt Go.RowKit Go.Shelf
attribute [local go_sem] Oper.semAt_some

theorem all_any (w : World) (A : Option Addr) : Calls Try.prog 23 #[.pointer A] w fun e w' => e = .returned (.func (.func 48) #[] #[.pointer (some ⟨w.heap.size, 0, none⟩)]) ∧ w' = w.alloc (.cells #[.pointer A] 26) := by
  go_enter Try.func23, Try.ntmps23
  go_wp2_with fail
  go_ret
  exact ⟨rfl, rfl⟩
abbrev CellX := Int × Int × Int
def cellEnc (x : CellX) : Array Value := #[.agg #[.int .i64 x.1, .int .i64 x.2.1], .int .i64 x.2.2]
def cellX (W : Nat) (vv : Nat → Int) (k : Nat) : CellX := (((k % W : Nat) : Int), ((k / W : Nat) : Int), vv k)
theorem place_mod {W H j m : Nat} (hj : j < H) (hm : m < W) : (j * W + m) % W = m ∧ (j * W + m) / W = j ∧ j * W + m < W * H := by
  have h := place_lt (W := W) (H := H) (n := 1) (X := m) (Y := j) (by omega) hj
  refine ⟨?_, ?_, h⟩
  · rw [Nat.mul_comm, Nat.mul_add_mod, Nat.mod_eq_of_lt hm]
  · rw [Nat.mul_comm, Nat.mul_add_div (by omega), Nat.div_eq_of_lt hm, Nat.add_zero]

set_option maxRecDepth 100000 in
set_option maxHeartbeats 4000000 in
theorem all1_in (n : Nat) (_ : 1 ≤ n) (l b g r c W H base : Nat) (vv : Nat → Int) (I : Nat → World → Prop) (R Jx : World → Prop)
    (hI : ∀ k V, I k V → V.cell? ⟨b, 0, none⟩ = some (.pointer (some ⟨g, 0, none⟩)) ∧ ∃ ls, GridAt V base 87 3 g r c W H (intsV ls) ∧ ∀ hk : k < ls.length, ls[k] = vv k)
    (hY : ∀ k x V, k < W * H → I k V → R V → x = cellX W vv k → YieldAt Fence.wide (n - 1) Try.prog l (cellEnc x) V fun e V' => (e = .returned (.bool true) ∧ I (k + 1) V' ∧ R V') ∨ (e = .returned (.bool false) ∧ Jx V'))
    (V : World) (h0 : I 0 V) (hR : R V) :
    CallsIn Fence.wide n Try.prog 48 #[.func (.yield l) #[] #[], .pointer (some ⟨b, 0, none⟩)] V fun e V' => (∃ v, e = .returned v) ∧ ((I (W * H) V' ∧ R V') ∨ Jx V') := by
  refine callsIn_of_wp Try.func48 rfl trivial ?_ rfl
  simp only [Try.ntmps48, List.size_toArray, List.length_cons, List.length_nil, Nat.reduceAdd, Nat.reduceSub, Array.replicate_succ, Array.replicate_zero, List.push_toArray, List.append_toArray, List.nil_append, List.cons_append]
  obtain ⟨kb, _, hg, _⟩ := hI 0 V h0
  have hW2 := hg.w2; have hH2 := hg.h2; have hW1 := hg.w1
  gi_wp2_with (refine ⟨trivial, ?_⟩; gi_at_call 44; refine (callsIn_wide.2 (h_any hg)).mono ?_; rintro e V0 ⟨rfl, rfl⟩)
  clear kb hg
  gi_loopw [7] (fun i wr => ∃ j : Nat, j ≤ H ∧ i = .int .i64 (j : Int) ∧ I (j * W) wr ∧ R wr) (fun i _ => H - (intOf i).toNat)
  case atStart => exact ⟨0, Nat.zero_le _, rfl, by rw [Nat.zero_mul]; exact h0, hR⟩
  case round =>
    obtain ⟨j, hj, rfl, hIj, hRj⟩ := hrel
    by_cases hlt : j < H
    · obtain ⟨kb, _, hgj, _⟩ := hI _ wr hIj
      have k0 := hgj.c0
      have HIJ := Lib.hid hIj; have HRJ := Lib.hid hRj
      clear hgj hIj hRj
      gi_wp2_with fail
      obtain ⟨wo, hwo⟩ : ∃ wo : World, wo = wr := ⟨_, rfl⟩
      subst hwo
      clear kb k0
      gi_loopw [14] (fun i wr => ∃ m : Nat, m ≤ W ∧ i = .int .i64 (m : Int) ∧ I (j * W + m) wr ∧ R wr) (fun i _ => W - (intOf i).toNat)
      case atStart => exact ⟨0, Nat.zero_le _, rfl, by rw [Nat.add_zero]; exact HIJ.out, HRJ.out⟩
      case round =>
        obtain ⟨m, hm, rfl, hIm, hRm⟩ := hrel
        by_cases hlm : m < W
        · obtain ⟨kb, ls, hgm, hv⟩ := hI _ wr hIm
          obtain ⟨p1, p2, p3⟩ := place_mod hlt hlm
          have hlen := hgm.len
          rw [intsV_length] at hlen
          have hKl : j * W + m < ls.length := by rw [hlen]; exact p3
          have hc := hgm.at_ (k := j * W + m) (by rw [intsV_length]; exact hKl)
          rw [intsV_get, hv hKl] at hc
          have HRUN := Lib.hid (run_any hgm m j 1 (Nat.le_refl _) (by omega) hlt)
          obtain ⟨fn, tmps, assign, body, hy, hRd⟩ := hY _ _ wr p3 hIm hRm rfl
          unfold cellX at hy
          rw [p1, p2] at hy
          dsimp only [cellEnc] at hy
          have HYD := Lib.hid (yield_one hRd)
          have hcap : j * W + m < c := Nat.lt_of_lt_of_le p3 hgm.form.1
          clear hIm hRm hgm hv hlen hKl p1 p2 p3 hRd
          generalize vv (j * W + m) = v at hc hy
          obtain ⟨K, hK⟩ : ∃ K, j * W + m = K := ⟨_, rfl⟩
          rw [hK] at hc HRUN hcap
          have HK := Lib.hid hK
          clear hK
          gi_wp2_with (refine ⟨trivial, ?_⟩; gi_at_call 42; refine (callsIn_wide.2 HRUN.out).mono ?_; rintro e w2 ⟨rfl, rfl⟩)
          refine RoundIn.mono HYD.out ?_
          rintro e w4 ⟨bb, rfl, hb1, hb2⟩
          have HB1 := Lib.hid hb1; have HB2 := Lib.hid hb2
          clear hb1 hb2
          cases bb with
          | true =>
            gi_wp2
            go_roundw
            case rel => exact ⟨m + 1, by omega, by go_num, (HB1.out (by trivial)).1, (HB1.out (by trivial)).2⟩
            case measure => simp [intOf]; omega
          | false =>
            gi_wp2
            refine bodyPost_ret (results_none rfl _ _ _) rfl ?_
            exact ⟨⟨_, rfl⟩, .inr (HB2.out (by trivial))⟩
        · obtain rfl : m = W := by omega
          have HIm := Lib.hid hIm; have HRm := Lib.hid hRm
          clear hIm hRm
          gi_wp2
          go_roundw
          case rel => exact ⟨j + 1, by omega, by go_num, by rw [Nat.add_mul, Nat.one_mul]; exact HIm.out, HRm.out⟩
          case measure => simp [intOf]; omega
    · obtain rfl : j = H := by omega
      gi_wp2
      go_end0
      exact ⟨⟨_, rfl⟩, .inl ⟨by rw [Nat.mul_comm]; exact hIj, hRj⟩⟩
end Go.Proofs.Ytfjnlbjlapbilaa
