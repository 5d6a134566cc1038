/- Joined texts (a claim has at most 60 files): Qgc Ye. -/
import Derived.Test.YtfbokhdimffabaaGreatDoorQgb
import Derived.Test.YtfbokhdimffabaaGreatDoorSu
import Derived.Shelf.Abstract
import Derived.Shelf.RegionOpen
import Derived.OwnWalkIn
import Derived.TacticsInMore
import Derived.LoopNIn
import Derived.LoopIn
/- Of: a grid of colours as an image; the iterator over such a grid's cells, walked. -/
namespace Go.Proofs.YtfbokhdimffabaaGreatDoor
open Go.ChangeShapes Go.WideShapes Go.ChangeAt Go.RowKit Go.Shelf
attribute [local go_sem] Oper.semAt_some

set_option maxRecDepth 100000 in
set_option maxHeartbeats 1000000 in
theorem runC_go (w : World) (g r c X Y W n m N F G : Nat) (k0 : w.cell? ⟨g, 0, none⟩ = some (.int .i64 (W : Int))) (k2 : w.cell? ⟨g, 2, none⟩ = some (.slice (some ⟨r, 0, none⟩) N c))
    (r1 : wrap64 ((Y : Int) * (W : Int)) = (m : Int)) (r2 : wrap64 ((m : Int) + (X : Int)) = (F : Int)) (r3 : wrap64 ((F : Int) + (n : Int)) = (G : Int)) (h1 : F < G) (h2 : G ≤ N) (h3 : N ≤ c) (_ : c ≤ maxLen) :
    Calls Tryz.prog 81 #[.pointer (some ⟨g, 0, none⟩), .int .i64 (X : Int), .int .i64 (Y : Int), .int .i64 (n : Int)] w fun e w' => e = .returned (.slice (some ⟨r, F * 4, none⟩) (G - F) (c - F)) ∧ w' = w := by
  go_enter Tryz.func81, Tryz.ntmps81
  go_wp2_with fail
  go_ret
  exact ⟨rfl, rfl⟩
theorem run_arith {W H X Y n : Nat} (hx : X + n ≤ W) (hy : Y < H) (hf : W * H ≤ 65536) : wrap64 ((Y : Int) * (W : Int)) = ((Y * W : Nat) : Int) ∧ wrap64 (((Y * W : Nat) : Int) + (X : Int)) = ((Y * W + X : Nat) : Int) ∧ wrap64 (((Y * W + X : Nat) : Int) + (n : Int)) = ((Y * W + X + n : Nat) : Int) := by
  have hp := place_lt hx hy
  rw [← Int.natCast_mul, ← Int.natCast_add, ← Int.natCast_add]
  have b : Y * W + X + n ≤ 65536 := Nat.le_trans hp hf
  clear hp hf hx hy
  generalize Y * W = m at *
  refine ⟨IntWalk.wrap64_in _ ?_, IntWalk.wrap64_in _ ?_, IntWalk.wrap64_in _ ?_⟩ <;> omega
theorem runC_any {w : World} {base g r c W H : Nat} {l : List Col} (h : CG w base g r c W H l) (X Y n : Nat) (hn : 1 ≤ n) (hx : X + n ≤ W) (hy : Y < H) :
    Calls Tryz.prog 81 #[.pointer (some ⟨g, 0, none⟩), .int .i64 (X : Int), .int .i64 (Y : Int), .int .i64 (n : Int)] w fun e w' => e = .returned (.slice (some ⟨r, (Y * W + X) * 4, none⟩) n (c - (Y * W + X))) ∧ w' = w := by
  obtain ⟨f1, f2, _, _⟩ := h.form
  obtain ⟨r1, r2, r3⟩ := run_arith hx hy h.few
  have hq := runC_go w g r c X Y W n (Y * W) (W * H) (Y * W + X) (Y * W + X + n) h.c0 h.c2 r1 r2 r3 (Nat.lt_add_of_pos_right hn) (place_lt hx hy) f1 f2
  rw [Nat.add_sub_cancel_left] at hq
  exact hq
/-- What the iterator gives: a place and its colour. -/
abbrev CellC := (Int × Int) × Col
def cellEncC (x : CellC) : Array Value := #[.agg #[.int .i64 x.1.1, .int .i64 x.1.2], .agg #[.int .u16 x.2.r, .int .u16 x.2.g, .int .u16 x.2.b, .int .u16 x.2.a]]
def cellC (W : Nat) (L : List Col) (k : Nat) : CellC := ((((k % W : Nat) : Int), ((k / W : Nat) : Int)), L.getD k col0)
theorem place_mod {W H j m : Nat} (hj : j < H) (hm : m < W) : (j * W + m) % W = m ∧ (j * W + m) / W = j ∧ j * W + m < W * H := by
  have h := place_lt (W := W) (H := H) (n := 1) (X := m) (Y := j) (by omega) hj
  refine ⟨?_, ?_, h⟩
  · rw [Nat.mul_comm, Nat.mul_add_mod, Nat.mod_eq_of_lt hm]
  · rw [Nat.mul_comm, Nat.mul_add_div (by omega), Nat.div_eq_of_lt hm, Nat.add_zero]
end Go.Proofs.YtfbokhdimffabaaGreatDoor

/- Rows of a grid of colours: the iterator, each row a copy of its own. -/
set_option linter.unusedVariables false
set_option linter.unusedSimpArgs false
namespace Go.Proofs.YtfbokhdimffabaaGreatDoor
open Go.ChangeShapes Go.WideShapes Go.ChangeAt Go.RowKit Go.Shelf
attribute [local go_sem] Oper.semAt_some

theorem of_drew {B : Nat} {w w' : World} (h : Below B w.drew w') : Below B w w' := ⟨h.os, h.tape, h.output, h.size, h.block⟩
theorem rowsC_any (w : World) (A : Option Addr) : Calls Tryz.prog 56 #[.pointer A] w fun e w' => e = .returned (.func (.func 79) #[] #[.pointer (some ⟨w.heap.size, 0, none⟩)]) ∧ w' = w.alloc (.cells #[.pointer A] 71) := by
  go_enter Tryz.func56, Tryz.ntmps56
  go_wp2_with fail
  go_ret
  exact ⟨rfl, rfl⟩
/-- What a row that is given is: its number, its block, its room. -/
abbrev RowC := Int × Nat × Nat
def rowEncC (W : Nat) (x : RowC) : Array Value := #[.int .i64 x.1, .slice (some ⟨x.2.1, 0, none⟩) W x.2.2]
def rowL (W : Nat) (ls : List Col) (k : Nat) : List Col := (ls.drop (k * W)).take W
theorem rowL_length {W H k : Nat} {ls : List Col} (hl : ls.length = W * H) (hk : k < H) : (rowL W ls k).length = W := by
  have := Nat.mul_le_mul_right W (show k + 1 ≤ H by omega)
  rw [Nat.succ_mul, Nat.mul_comm H W] at this
  rw [rowL, List.length_take, List.length_drop, hl]
  omega
def RowEnC (B0 W : Nat) (ls : List Col) (k : Nat) (x : RowC) (V : World) : Prop :=
  x.1 = (k : Int) ∧ V.ownsRow B0 70 4 (.slice (some ⟨x.2.1, 0, none⟩) W x.2.2) W (colsV (rowL W ls k))
theorem CG.part {w : World} {base g r c W H : Nat} {L : List Col} (h : CG w base g r c W H L) {k : Nat} (hk : k < H) : Cs w w.heap.size (some ⟨r, (k * W) * 4, none⟩) (rowL W L k) := by
  intro _
  refine ⟨r, (k * W) * 4, rfl, h.form.2.2.2, fun j hj => ?_⟩
  have hlen := rowL_length h.len hk
  rw [hlen] at hj
  have hm := Nat.mul_le_mul_right W (show k + 1 ≤ H by omega)
  rw [Nat.succ_mul, Nat.mul_comm H W] at hm
  have hlt : k * W + j < L.length := by rw [h.len]; omega
  have hx := h.at_ hlt
  rw [Nat.add_mul] at hx
  have e : (rowL W L k)[j]'(by rw [hlen]; exact hj) = L[k * W + j] := by
    unfold rowL
    rw [List.getElem_take, List.getElem_drop]
  rw [e]
  exact hx
set_option maxRecDepth 100000 in
set_option maxHeartbeats 4000000 in
theorem rows1C_in (n : Nat) (_ : 1 ≤ n) (l b g r c W H base B0 : Nat) (ls : List Col) (I : Nat → World → Prop) (R Jx : World → Prop)
    (hI : ∀ k V, I k V → V.cell? ⟨b, 0, none⟩ = some (.pointer (some ⟨g, 0, none⟩)) ∧ CG V base g r c W H ls ∧ B0 ≤ V.heap.size)
    (hIb : ∀ k A B, I k A → Below A.heap.size A B → I k B) (hRb : ∀ A B, R A → Below A.heap.size A B → R B)
    (hY : ∀ k x V, k < H → I k V → R V → RowEnC B0 W ls k x V → YieldAt Fence.wide (n - 1) Tryz.prog l (rowEncC W x) V fun e V' => (e = .returned (.bool true) ∧ I (k + 1) V' ∧ R V') ∨ (e = .returned (.bool false) ∧ Jx V'))
    (V : World) (h0 : I 0 V) (hR : R V) :
    CallsIn Fence.wide n Tryz.prog 79 #[.func (.yield l) #[] #[], .pointer (some ⟨b, 0, none⟩)] V fun e V' => (∃ v, e = .returned v) ∧ ((I H V' ∧ R V') ∨ Jx V') := by
  refine callsIn_of_wp Tryz.func79 rfl trivial ?_ rfl
  simp only [Tryz.ntmps79, List.size_toArray, List.length_cons, List.length_nil, Nat.reduceAdd, Nat.reduceSub, Array.replicate_succ, Array.replicate_zero, List.push_toArray, List.append_toArray, List.nil_append, List.cons_append]
  have hmix : Tryz.prog.follows .mixedOrders = true := by kernel_rfl
  obtain ⟨kb, hg, _⟩ := hI 0 V h0
  gi_wp2_with (refine ⟨trivial, ?_⟩; gi_at_call 80; refine (callsIn_wide.2 (hC_any hg)).mono ?_; rintro e V0 ⟨rfl, rfl⟩)
  clear kb hg
  gi_loopw [6] (fun i wr => ∃ k : Nat, k ≤ H ∧ i = .int .i64 (k : Int) ∧ I k wr ∧ R wr) (fun i _ => H - (intOf i).toNat)
  case atStart => exact ⟨0, Nat.zero_le _, rfl, h0, hR⟩
  case round =>
    obtain ⟨k, hk, rfl, hIk, hRk⟩ := hrel
    by_cases hlt : k < H
    · obtain ⟨kb, hgk, hB0⟩ := hI k wr hIk
      have k0 := hgk.c0
      have hw1 := hgk.w1
      have hw2 := hgk.w2
      have hh2 := hgk.h2
      have hgd : CG wr.drew base g r c W H ls := hgk.upd ((Upd.refl No wr).drew) id id
      have HRUN := Lib.hid (runC_any hgd 0 k W hgk.w1 (by omega) hlt)
      rw [Nat.add_zero] at HRUN
      have HP : Hid (Cs wr.drew wr.drew.heap.size (some ⟨r, (k * W) * 4, none⟩) (rowL W ls k)) := Lib.hid (hgd.part hlt)
      have HL : Hid ((rowL W ls k).length = W) := Lib.hid (rowL_length hgk.len hlt)
      have HI := Lib.hid hIk; have HR := Lib.hid hRk
      clear hIk hRk hgk hgd
      generalize hF : k * W = F0 at *
      clear hF
      gi_wp2_with fail
      gi_region_with_o (first
        | (refine ⟨trivial, ?_⟩; gi_at_call 81; refine (callsIn_wide.2 HRUN.out).mono ?_; rintro e w2 ⟨rfl, rfl⟩)
        | (refine ⟨trivial, ?_⟩; gi_at_call 78; refine (callsIn_wide.2 (cloneC_any r (F0 * 4) W (c - F0) _ HL.out _ _ HP.out (Nat.le_refl _) (by omega) (by omega))).mono ?_; rintro e w3 ⟨r3, c3, rfl, o3, hb3⟩
           obtain ⟨fn, tmps, assign, body, hy, hRd⟩ := hY k ((k : Int), r3, c3) w3 hlt (hIb k _ _ HI.out (of_drew hb3)) (hRb _ _ HR.out (of_drew hb3)) ⟨rfl, own_low o3 (by simpa using hB0)⟩
           dsimp only [rowEncC] at hy
           have HYD := Lib.hid (yield_one hRd)
           clear hRd o3 hb3)
        | (with_reducible refine RoundIn.mono HYD.out ?_; rintro e w4 ⟨bb, rfl, hb1, hb2⟩; have HB1 := Lib.hid hb1; have HB2 := Lib.hid hb2; clear hb1 hb2))
      all_goals
        cases bb with
        | true =>
          gi_wp2
          go_roundw
          case rel => exact ⟨k + 1, by omega, by go_num, (HB1.out (by trivial)).1, (HB1.out (by trivial)).2⟩
          case measure => simp [intOf]; omega
        | false =>
          gi_wp2
          refine bodyPost_ret (results_none rfl _ _ _) rfl ?_
          exact ⟨⟨_, rfl⟩, .inr (HB2.out (by trivial))⟩
    · obtain rfl : k = H := by omega
      gi_wp2
      go_end0
      exact ⟨⟨_, rfl⟩, .inl ⟨hIk, hRk⟩⟩
end Go.Proofs.YtfbokhdimffabaaGreatDoor
