/- Rows: the iterator over a grid's rows, each a copy of its own. -/
import Derived.Test.YtfjnlbjlapbilaaGs
import Derived.Test.YtfjnlbjlapbilaaSr
import Derived.Shelf.Abstract
import Derived.Shelf.RegionOpen
import Derived.OwnWalkIn
import Derived.TacticsInMore
import Derived.LoopNIn
import Derived.LoopIn
namespace Go.Proofs.Ytfjnlbjlapbilaa
open Go.ChangeShapes Go.WideShapes Go.ChangeAt Go.RowKit Go.Shelf
attribute [local go_sem] Oper.semAt_some

theorem yield_one {F : Fence} {m : Nat} {P : Program} {l : Nat} {fn : FuncId} {tmps : Array Value} {assign body : Code} {W : World} {T J : World → Prop}
    (h : RoundIn F m P l fn tmps assign body W fun e W' => (e = .returned (.bool true) ∧ T W') ∨ (e = .returned (.bool false) ∧ J W')) :
    RoundIn F m P l fn tmps assign body W fun e W' => ∃ b : Bool, e = .returned (.bool b) ∧ (b = true → T W') ∧ (b = false → J W') :=
  h.mono fun e W' hh => by
    rcases hh with ⟨rfl, h1⟩ | ⟨rfl, h1⟩
    · exact ⟨true, rfl, fun _ => h1, fun k => (by cases k)⟩
    · exact ⟨false, rfl, fun k => (by cases k), fun _ => h1⟩

theorem rows_any (w : World) (A : Option Addr) : Calls Try.prog 21 #[.pointer A] w fun e w' => e = .returned (.func (.func 46) #[] #[.pointer (some ⟨w.heap.size, 0, none⟩)]) ∧ w' = w.alloc (.cells #[.pointer A] 26) := by
  go_enter Try.func21, Try.ntmps21
  go_wp2_with fail
  go_ret
  exact ⟨rfl, rfl⟩

/-- What a row that is given is: its number, its block, its room. -/
abbrev RowX := Int × Nat × Nat
def rowEnc (W : Nat) (x : RowX) : Array Value := #[.int .i64 x.1, .slice (some ⟨x.2.1, 0, none⟩) W x.2.2]
def RowEn (B0 W : Nat) (ls : List Int) (k : Nat) (x : RowX) (V : World) : Prop :=
  x.1 = (k : Int) ∧ V.ownsRow B0 3 1 (.slice (some ⟨x.2.1, 0, none⟩) W x.2.2) W (intsV ((ls.drop (k * W)).take W))
theorem own_low {w : World} {base b : Nat} {e : TypeId} {s n : Nat} {v : Value} {xs : List Value} (h : w.ownsRow base e s v n xs) (hb : b ≤ base) : w.ownsRow b e s v n xs := by
  obtain ⟨q1, q2⟩ := h
  refine ⟨q1, ?_⟩
  rcases q2 with q | ⟨g', cap, cur, q1, q2, q3⟩
  · exact .inl q
  · exact .inr ⟨g', cap, cur, q1, by omega, q3⟩

set_option maxRecDepth 100000 in
set_option maxHeartbeats 4000000 in
theorem rows1_in (n : Nat) (_ : 1 ≤ n) (l b g r c W H base B0 : Nat) (ls : List Int) (I : Nat → World → Prop) (R Jx : World → Prop)
    (hI : ∀ k V, I k V → V.cell? ⟨b, 0, none⟩ = some (.pointer (some ⟨g, 0, none⟩)) ∧ GridAt V base 87 3 g r c W H (intsV ls) ∧ B0 ≤ V.heap.size)
    (hIb : ∀ k A B, I k A → Below A.heap.size A B → I k B) (hRb : ∀ A B, R A → Below A.heap.size A B → R B)
    (hY : ∀ k x V, k < H → I k V → R V → RowEn B0 W ls k x V → YieldAt Fence.wide (n - 1) Try.prog l (rowEnc W x) V fun e V' => (e = .returned (.bool true) ∧ I (k + 1) V' ∧ R V') ∨ (e = .returned (.bool false) ∧ Jx V'))
    (V : World) (h0 : I 0 V) (hR : R V) :
    CallsIn Fence.wide n Try.prog 46 #[.func (.yield l) #[] #[], .pointer (some ⟨b, 0, none⟩)] V fun e V' => (∃ v, e = .returned v) ∧ ((I H V' ∧ R V') ∨ Jx V') := by
  refine callsIn_of_wp Try.func46 rfl trivial ?_ rfl
  simp only [Try.ntmps46, List.size_toArray, List.length_cons, List.length_nil, Nat.reduceAdd, Nat.reduceSub, Array.replicate_succ, Array.replicate_zero, List.push_toArray, List.append_toArray, List.nil_append, List.cons_append]
  have hmix : Try.prog.follows .mixedOrders = true := by kernel_rfl
  obtain ⟨kb, hg, _⟩ := hI 0 V h0
  gi_wp2_with (refine ⟨trivial, ?_⟩; gi_at_call 44; refine (callsIn_wide.2 (h_any hg)).mono ?_; rintro e V0 ⟨rfl, rfl⟩)
  clear kb hg
  gi_loopw [6] (fun i wr => ∃ k : Nat, k ≤ H ∧ i = .int .i64 (k : Int) ∧ I k wr ∧ R wr) (fun i _ => H - (intOf i).toNat)
  case atStart => exact ⟨0, Nat.zero_le _, rfl, h0, hR⟩
  case round =>
    obtain ⟨k, hk, rfl, hIk, hRk⟩ := hrel
    by_cases hlt : k < H
    · obtain ⟨kb, hgk, hB0⟩ := hI k wr hIk
      have k0 := hgk.c0
      have hw1 := hgk.w1
      have hw2 := hgk.w2
      have hh2 := hgk.h2
      have HRUN := Lib.hid (run_at hgk.drew 0 k W k rfl hgk.w1 (by omega) hlt)
      have hpl := place_lt (W := W) (n := W) (X := 0) (by omega) hlt
      rw [Nat.add_zero] at HRUN hpl
      have hlen := hgk.len
      rw [intsV_length] at hlen
      have HP := Lib.hid (hgk.drew.part (F := k * W) (P := W) (by rw [intsV_length, hlen]; exact hpl))
      have HL : Hid ((((intsV ls).drop (k * W)).take W).length = W) := Lib.hid (by rw [List.length_take, List.length_drop, intsV_length, hlen]; omega)
      have HE : Hid (((intsV ls).drop (k * W)).take W = intsV ((ls.drop (k * W)).take W)) := Lib.hid (intsV_part _ _ _)
      have HI := Lib.hid hIk; have HR := Lib.hid hRk
      clear hIk hRk hgk hlen hpl
      generalize hF : k * W = F0 at *
      have HF := Lib.hid hF; clear hF
      gi_wp2_with fail
      gi_region_with_o (first
        | (refine ⟨trivial, ?_⟩; gi_at_call 42; refine (callsIn_wide.2 HRUN.out).mono ?_; rintro e w2 ⟨rfl, rfl⟩)
        | (refine ⟨trivial, ?_⟩; gi_at_call 47; refine (callsIn_wide.2 (cloneint_n ⟨r, F0, none⟩ (c - F0) W _ HL.out (by rw [HE.out]; exact intsV_one _) _ _ (by exact HP.out) (Nat.le_refl _) (by omega) (by omega))).mono ?_; rintro e w3 ⟨r3, c3, rfl, o3, hb3⟩
           obtain ⟨fn, tmps, assign, body, hy, hRd⟩ := hY k ((k : Int), r3, c3) w3 hlt (hIb k _ _ HI.out (of_drew hb3)) (hRb _ _ HR.out (of_drew hb3)) ⟨rfl, own_low (by rw [HF.out, ← HE.out]; exact o3) (by simpa using hB0)⟩
           dsimp only [rowEnc] at hy
           have HYD := Lib.hid (yield_one hRd)
           clear hRd o3 hb3)
        | (with_reducible refine RoundIn.mono HYD.out ?_; rintro e w4 ⟨bb, rfl, hb1, hb2⟩; have HB1 := Lib.hid hb1; have HB2 := Lib.hid hb2; clear hb1 hb2))
      all_goals
        cases bb with
        | true =>
          gi_wp2
          go_roundw
          case rel => exact ⟨k + 1, by omega, by go_num, (HB1.out (by trivial)).1, (HB1.out (by trivial)).2⟩
          case measure => simp [intOf]; omega
        | false =>
          gi_wp2
          refine bodyPost_ret (results_none rfl _ _ _) rfl ?_
          exact ⟨⟨_, rfl⟩, .inr (HB2.out (by trivial))⟩
    · obtain rfl : k = H := by omega
      gi_wp2
      go_end0
      exact ⟨⟨_, rfl⟩, .inl ⟨hIk, hRk⟩⟩
end Go.Proofs.Ytfjnlbjlapbilaa
