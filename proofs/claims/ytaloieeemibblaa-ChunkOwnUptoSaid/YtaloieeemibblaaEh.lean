/- The program's Unfilter, whatever it is asked. -/
import Derived.Test.YtaloieeemibblaaEg
set_option linter.unusedVariables false
set_option linter.unusedSimpArgs false
namespace Go.Proofs.Ytaloieeemibblaa
open Go.ChangeShapes Go.WideShapes Go.ChangeAt Go.RowKit

/-- What Unfilter says: bytes, or an error's number. -/
def ufM (width bpp : Int) (lb : List UInt8) : Except Nat (List UInt8) :=
  if mayC width bpp = false then .error 190
  else if lb.length % (width.toNat + 1) ≠ 0 then .error 9
  else if ∃ k, k < lb.length / (width.toNat + 1) ∧ 4 < byteAt (pcU width.toNat lb k) 0 then .error 9
  else .ok (outU width.toNat bpp.toNat lb (lb.length / (width.toNat + 1)))
/-- Bytes of the call's own, or an error's number. -/
def OutB (w : World) (R : Except Nat (List UInt8)) (e : Ending) (w' : World) : Prop := Below w.heap.size w w' ∧ match R with
  | .error k => e = .returned (.tuple #[.slice none 0 0, .int .i64 (k : Nat)])
  | .ok l => ∃ A' c', e = .returned (.tuple #[.slice A' l.length c', .int .i64 0]) ∧ w'.ownsRow w.heap.size 5 1 (.slice A' l.length c') l.length (bytesV l)
theorem mayC_ok {width bpp : Int} (h : mayC width bpp = true) : ∃ W b : Nat, width = (W : Int) ∧ bpp = (b : Int) ∧ 1 ≤ W ∧ W ≤ 1048576 ∧ 1 ≤ b ∧ b ≤ 8 := by
  have := mayC_yes h
  exact ⟨width.toNat, bpp.toNat, by omega, by omega, by omega, by omega, by omega, by omega⟩
set_option maxRecDepth 100000 in
set_option maxHeartbeats 2000000 in
theorem unf_no (width bpp : Int) (A : Option Addr) (m c : Nat) (w : World) (h : mayC width bpp = false) :
    Calls Try.prog 21 #[.slice A m c, .int .i64 width, .int .i64 bpp] w fun e w' => e = .returned (.tuple #[.slice none 0 0, .int .i64 190]) ∧ Below w.heap.size w w' := by
  obtain ⟨bel, hsz, k0, k1, k2⟩ := boxes3 w #[.int .i64 bpp] #[.slice none 0 0] #[.int .i64 0] 3 22 25
  go_enter Try.func21, Try.ntmps21
  go_upto_region 1 with (fail)
  generalize ((w.alloc (.cells #[.int .i64 bpp] 3)).alloc (.cells #[.slice none 0 0] 22)).alloc (.cells #[.int .i64 0] 25) = w1 at *
  have c0 : w1.cell? ⟨w.heap.size, 0, none⟩ = some (.int .i64 bpp) := k0.cell 0
  have c1 : w1.cell? ⟨w.heap.size + 1, 0, none⟩ = some (.slice none 0 0) := k1.cell 0
  have c2 : w1.cell? ⟨w.heap.size + 1 + 1, 0, none⟩ = some (.int .i64 0) := k2.cell 0
  have f1 := k1.frozen 0
  have f2 := k2.frozen 0
  have HMB := Lib.hid (mayBe_any width bpp w1)
  rw [h] at HMB
  have u1 := (Upd.refl (· = w.heap.size + 1) w1).setCell (p := ⟨w.heap.size + 1, 0, none⟩) (fun _ => rfl) (.slice none 0 0)
  have u2 := (Upd.refl (· = w.heap.size + 1 + 1) (w1.setCell ⟨w.heap.size + 1, 0, none⟩ (.slice none 0 0))).setCell (p := ⟨w.heap.size + 1 + 1, 0, none⟩) (fun _ => rfl) (.int .i64 190)
  have e1 : Blk (w1.setCell ⟨w.heap.size + 1, 0, none⟩ (.slice none 0 0)) (w.heap.size + 1) 22 #[.slice none 0 0] := by simpa using k1.set_ 0 (.slice none 0 0)
  have e2 : Blk (w1.setCell ⟨w.heap.size + 1, 0, none⟩ (.slice none 0 0)) (w.heap.size + 1 + 1) 25 #[.int .i64 0] := k2.upd u1 (by omega)
  have hb2 := u1.below bel.size (fun j hj e => by omega)
  have hb3 := u2.below (Nat.le_trans bel.size hb2.size) (fun j hj e => by omega)
  have x1 := (e1.upd u2 (by omega)).cell 0
  have x2 : _ := (show Blk ((w1.setCell ⟨w.heap.size + 1, 0, none⟩ (.slice none 0 0)).setCell ⟨w.heap.size + 1 + 1, 0, none⟩ (.int .i64 190)) (w.heap.size + 1 + 1) 25 #[.int .i64 190] by simpa using e2.set_ 0 (.int .i64 190)).cell 0
  have HX := Lib.hid (And.intro x1 (And.intro x2 ((bel.trans hb2).trans hb3)))
  clear u1 u2 e1 e2 hb2 hb3 x1 x2 bel k0 k1 k2
  go_wp2_with fail
  refine HMB.out.mono ?_
  rintro e w2 ⟨rfl, rfl⟩
  have k8 : ¬ w.heap.size + 1 + 1 = w.heap.size + 1 := by omega
  go_wp2_with fail
  obtain ⟨x1, x2, x3⟩ := HX.out
  exact bodyPost_ret (v := .tuple #[.slice none 0 0, .int .i64 190]) (by simp [results, Try.results21, go_sem, x1, x2]) rfl ⟨rfl, x3⟩
set_option maxRecDepth 100000 in
set_option maxHeartbeats 2000000 in
theorem unf_rem (W bpp : Nat) (A : Option Addr) (m c : Nat) (w : World) (h : mayC (W : Int) (bpp : Int) = true) (hm : m ≤ 140737488355328) (hW : W ≤ 1048576) (hr : m % (W + 1) ≠ 0) :
    Calls Try.prog 21 #[.slice A m c, .int .i64 (W : Nat), .int .i64 (bpp : Nat)] w fun e w' => e = .returned (.tuple #[.slice none 0 0, .int .i64 9]) ∧ Below w.heap.size w w' := by
  obtain ⟨bel, hsz, k0, k1, k2⟩ := boxes3 w #[.int .i64 (bpp : Nat)] #[.slice none 0 0] #[.int .i64 0] 3 22 25
  go_enter Try.func21, Try.ntmps21
  go_upto_region 1 with (fail)
  generalize ((w.alloc (.cells #[.int .i64 (bpp : Nat)] 3)).alloc (.cells #[.slice none 0 0] 22)).alloc (.cells #[.int .i64 0] 25) = w1 at *
  have c0 : w1.cell? ⟨w.heap.size, 0, none⟩ = some (.int .i64 (bpp : Nat)) := k0.cell 0
  have c1 : w1.cell? ⟨w.heap.size + 1, 0, none⟩ = some (.slice none 0 0) := k1.cell 0
  have c2 : w1.cell? ⟨w.heap.size + 1 + 1, 0, none⟩ = some (.int .i64 0) := k2.cell 0
  have f1 := k1.frozen 0
  have f2 := k2.frozen 0
  have HMB := Lib.hid (mayBe_any (W : Int) (bpp : Int) w1)
  rw [h] at HMB
  have u1 := (Upd.refl (· = w.heap.size + 1) w1).setCell (p := ⟨w.heap.size + 1, 0, none⟩) (fun _ => rfl) (.slice none 0 0)
  have u2 := (Upd.refl (· = w.heap.size + 1 + 1) (w1.setCell ⟨w.heap.size + 1, 0, none⟩ (.slice none 0 0))).setCell (p := ⟨w.heap.size + 1 + 1, 0, none⟩) (fun _ => rfl) (.int .i64 9)
  have e1 : Blk (w1.setCell ⟨w.heap.size + 1, 0, none⟩ (.slice none 0 0)) (w.heap.size + 1) 22 #[.slice none 0 0] := by simpa using k1.set_ 0 (.slice none 0 0)
  have e2 : Blk (w1.setCell ⟨w.heap.size + 1, 0, none⟩ (.slice none 0 0)) (w.heap.size + 1 + 1) 25 #[.int .i64 0] := k2.upd u1 (by omega)
  have hb2 := u1.below bel.size (fun j hj e => by omega)
  have hb3 := u2.below (Nat.le_trans bel.size hb2.size) (fun j hj e => by omega)
  have x1 := (e1.upd u2 (by omega)).cell 0
  have x2 : _ := (show Blk ((w1.setCell ⟨w.heap.size + 1, 0, none⟩ (.slice none 0 0)).setCell ⟨w.heap.size + 1 + 1, 0, none⟩ (.int .i64 9)) (w.heap.size + 1 + 1) 25 #[.int .i64 9] by simpa using e2.set_ 0 (.int .i64 9)).cell 0
  have HX := Lib.hid (And.intro x1 (And.intro x2 ((bel.trans hb2).trans hb3)))
  have hrem : ¬ ((m : Int) % (1 + (W : Int))) = 0 := by
    intro e
    apply hr
    rw [Int.add_comm] at e
    have : ((m % (W + 1) : Nat) : Int) = 0 := by push_cast; exact e
    omega
  clear u1 u2 e1 e2 hb2 hb3 x1 x2 bel k0 k1 k2 hr h
  go_wp2_with fail
  refine HMB.out.mono ?_
  rintro e w2 ⟨rfl, rfl⟩
  have k8 : ¬ w.heap.size + 1 + 1 = w.heap.size + 1 := by omega
  go_wp2_with fail
  obtain ⟨x1, x2, x3⟩ := HX.out
  exact bodyPost_ret (v := .tuple #[.slice none 0 0, .int .i64 9]) (by simp [results, Try.results21, go_sem, x1, x2]) rfl ⟨rfl, x3⟩
theorem unf_any (width bpp : Int) (A : Option Addr) (m c : Nat) (lb : List UInt8) (hm : lb.length = m) (hmc : m ≤ c) (hcb : c ≤ maxLen) (hmb : m ≤ 140737488355328) (B : Nat) (w : World) (hbs : Bs w B A lb) (hB : B ≤ w.heap.size) :
    Calls Try.prog 21 #[.slice A m c, .int .i64 width, .int .i64 bpp] w (OutB w (ufM width bpp lb)) := by
  by_cases h1 : mayC width bpp = true
  · obtain ⟨W, b, rfl, rfl, w1, w2, b1, b2⟩ := mayC_ok h1
    by_cases h2 : m % (W + 1) = 0
    · have hN : (W + 1) * (m / (W + 1)) = m := by have := Nat.div_add_mod m (W + 1); omega
      have hA : ∃ ad, 0 < m / (W + 1) → A = some ad := by
        by_cases h0 : 0 < m
        · obtain ⟨ad, h, _⟩ := hbs (by omega)
          exact ⟨ad, fun _ => h⟩
        · have : m = 0 := by omega
          subst this
          exact ⟨⟨0, 0, none⟩, fun h => by simp at h⟩
      obtain ⟨ad, hA⟩ := hA
      refine (unf_rows W b (m / (W + 1)) m c A ad hA lb w1 w2 b1 b2 hm hN hmc hcb hmb B w hbs hB).mono ?_
      intro e w' he
      unfold ufM OutB
      rw [if_neg (by rw [h1]; simp), if_neg (by rw [hm]; simpa using h2), hm]
      simp only [Int.toNat_natCast]
      rcases he with ⟨hb, ⟨rfl, hx⟩ | ⟨A', c', rfl, ho, hx⟩⟩
      · rw [if_pos hx]
        exact ⟨hb, rfl⟩
      · rw [if_neg (fun ⟨k, hk, h4⟩ => by have := hx k hk; omega)]
        refine ⟨hb, A', c', ?_⟩
        rw [outU_length]
        exact ⟨rfl, ho⟩
    · refine (unf_rem W b A m c w h1 hmb w2 h2).mono ?_
      rintro e w' ⟨rfl, hb⟩
      unfold ufM OutB
      rw [if_neg (by rw [h1]; simp), if_pos (by rw [hm]; simpa using h2)]
      exact ⟨hb, rfl⟩
  · have h1' : mayC width bpp = false := by simpa using h1
    refine (unf_no width bpp A m c w h1').mono ?_
    rintro e w' ⟨rfl, hb⟩
    unfold ufM OutB
    rw [if_pos h1']
    exact ⟨hb, rfl⟩
end Go.Proofs.Ytaloieeemibblaa
