/- What the program's Filter refuses; Filter whole. -/
import Derived.Test.YtaloieeemibblaaEl
set_option linter.unusedVariables false
set_option linter.unusedSimpArgs false
namespace Go.Proofs.Ytaloieeemibblaa
open Go.ChangeShapes Go.WideShapes Go.ChangeAt Go.RowKit

/-- Filtered rows, or an error's number. -/
def filtM (width bpp kind : Int) (lb : List UInt8) : Except Nat (List UInt8) :=
  if mayC width bpp = false ∨ kind < 0 ∨ 4 < kind ∨ lb.length % width.toNat ≠ 0 then .error 190 else .ok (outF kind.toNat width.toNat bpp.toNat lb (lb.length / width.toNat))
set_option maxRecDepth 100000 in
set_option maxHeartbeats 2000000 in
theorem filt_no (width bpp kind : Int) (A : Option Addr) (m c : Nat) (w : World) (hm : m ≤ 140737488355328) (h : mayC width bpp = false ∨ kind < 0 ∨ 4 < kind ∨ m % width.toNat ≠ 0) :
    Calls Try.prog 19 #[.slice A m c, .int .i64 width, .int .i64 bpp, .int .i64 kind] w fun e w' => e = .returned (.tuple #[.slice none 0 0, .int .i64 190]) ∧ Below w.heap.size w w' := by
  obtain ⟨bel, hsz, k0, k1⟩ := boxes2 w #[.int .i64 bpp] #[.int .i64 kind] 3 3
  go_enter Try.func19, Try.ntmps19
  go_upto_region 1 with (fail)
  generalize (w.alloc (.cells #[.int .i64 bpp] 3)).alloc (.cells #[.int .i64 kind] 3) = w1 at *
  have c0 : w1.cell? ⟨w.heap.size, 0, none⟩ = some (.int .i64 bpp) := k0.cell 0
  have c1 : w1.cell? ⟨w.heap.size + 1, 0, none⟩ = some (.int .i64 kind) := k1.cell 0
  have HMB := Lib.hid (mayBe_any width bpp w1)
  have HB := Lib.hid bel
  clear k0 k1 bel hsz
  cases hmay : mayC width bpp with
  | false =>
    rw [hmay] at HMB
    clear h hmay
    go_wp2_with fail
    refine HMB.out.mono ?_
    rintro e w2 ⟨rfl, rfl⟩
    go_wp2_with fail
    go_ret2
    exact ⟨rfl, HB.out⟩
  | true =>
    rw [hmay] at h HMB
    obtain ⟨W, b, rfl, rfl, W1, W2, b1, b2⟩ := mayC_ok hmay
    clear hmay
    by_cases hk0 : kind < 0
    · clear h
      go_wp2_with fail
      refine HMB.out.mono ?_
      rintro e w2 ⟨rfl, rfl⟩
      go_wp2_with fail
      go_ret2
      exact ⟨rfl, HB.out⟩
    · by_cases hk4 : 4 < kind
      · clear h
        go_wp2_with fail
        refine HMB.out.mono ?_
        rintro e w2 ⟨rfl, rfl⟩
        go_wp2_with fail
        go_ret2
        exact ⟨rfl, HB.out⟩
      · have hr : m % W ≠ 0 := by
          rcases h with h | h | h | h
          · cases h
          · exact absurd h hk0
          · exact absurd h hk4
          · simpa using h
        have hrem : ¬ ((m : Int) % (W : Int)) = 0 := by
          intro e
          apply hr
          have : ((m % W : Nat) : Int) = 0 := by push_cast; exact e
          omega
        have hW0 : ¬ (W : Int) = 0 := by omega
        have hremb : ((m : Int) % (W : Int) != 0) = true := by simpa using hrem
        clear h hr hrem
        go_wp2_with fail
        refine HMB.out.mono ?_
        rintro e w2 ⟨rfl, rfl⟩
        go_wp2_with fail
        go_ret2
        exact ⟨rfl, HB.out⟩
theorem filt_any (width bpp kind : Int) (A : Option Addr) (m c : Nat) (lb : List UInt8) (hm : lb.length = m) (hmc : m ≤ c) (hcb : c ≤ maxLen) (hmb : m ≤ 70368744177664) (B : Nat) (w : World) (hbs : Bs w B A lb) (hB : B ≤ w.heap.size) :
    Calls Try.prog 19 #[.slice A m c, .int .i64 width, .int .i64 bpp, .int .i64 kind] w (OutB w (filtM width bpp kind lb)) := by
  by_cases h : mayC width bpp = false ∨ kind < 0 ∨ 4 < kind ∨ m % width.toNat ≠ 0
  · refine (filt_no width bpp kind A m c w (by omega) h).mono ?_
    rintro e w' ⟨rfl, hb⟩
    unfold filtM OutB
    rw [if_pos (by rw [hm]; exact h)]
    exact ⟨hb, rfl⟩
  · have hmay : mayC width bpp = true := by
      cases hc : mayC width bpp with
      | true => rfl
      | false => exact absurd (.inl hc) h
    obtain ⟨W, b, rfl, rfl, W1, W2, b1, b2⟩ := mayC_ok hmay
    have hk0 : 0 ≤ kind := by rcases Int.lt_or_le kind 0 with hk | hk; exact absurd (.inr (.inl hk)) h; exact hk
    have hk4 : kind ≤ 4 := by rcases Int.lt_or_le 4 kind with hk | hk; exact absurd (.inr (.inr (.inl hk))) h; exact hk
    obtain ⟨K, rfl⟩ : ∃ K : Nat, kind = K := ⟨kind.toNat, by omega⟩
    have hr : m % W = 0 := Classical.byContradiction fun hn => h (.inr (.inr (.inr (by simpa using hn))))
    have hN : W * (m / W) = m := by have := Nat.div_add_mod m W; omega
    have hA : ∃ ad, 0 < m / W → A = some ad := by
      by_cases h0 : 0 < m
      · obtain ⟨ad, h, _⟩ := hbs (by omega)
        exact ⟨ad, fun _ => h⟩
      · have : m = 0 := by omega
        subst this
        exact ⟨⟨0, 0, none⟩, fun h => by simp at h⟩
    obtain ⟨ad, hA⟩ := hA
    have hNm : m / W ≤ m := Nat.div_le_self _ _
    have hob : (W + 1) * (m / W) ≤ 140737488355328 := by rw [Nat.add_mul, Nat.one_mul, hN]; omega
    refine (filt_rows W b K (m / W) m c A ad hA lb W1 W2 b1 b2 (by omega) hm hN hmc hcb (by omega) hob B w hbs hB).mono ?_
    rintro e w' ⟨hb, A', c', rfl, ho⟩
    unfold filtM OutB
    rw [if_neg (by rw [hm]; exact h)]
    refine ⟨hb, A', c', ?_⟩
    simp only [Int.toNat_natCast]
    rw [outF_length, hm]
    exact ⟨rfl, ho⟩
end Go.Proofs.Ytaloieeemibblaa
