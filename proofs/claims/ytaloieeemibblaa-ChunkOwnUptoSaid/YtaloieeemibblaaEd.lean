/- slices.Chunk over bytes; slices.Clone, bytes.Clone. -/
import Derived.Test.YtaloieeemibblaaEc
import Derived.Test.YtaloieeemibblaaHp
import Derived.Test.YtaloieeemibblaaOp
set_option linter.unusedVariables false
set_option linter.unusedSimpArgs false
namespace Go.Proofs.Ytaloieeemibblaa
open Go.ChangeShapes Go.WideShapes Go.ChangeAt Go.RowKit Go.Shelf
attribute [local go_sem] Oper.semAt_some

/-- What a piece is. -/
def pieceC (ad : Addr) (q k : Nat) : Array Value := #[.slice (some (ad.add (q * k))) q q]
theorem piece_le {q N m k : Nat} (hk : k < N) (hm : q * N = m) : q * k + q ≤ m := by
  have := Nat.mul_le_mul_left q (show k + 1 ≤ N by omega)
  rw [Nat.mul_succ] at this
  omega
theorem chunk8_any (w : World) (A : Option Addr) (m c q : Nat) (hq : 1 ≤ q) : Calls Try.prog 39 #[.slice A m c, .int .i64 (q : Nat)] w fun e w' => e = .returned (.func (.func 55) #[] #[.pointer (some ⟨w.heap.size, 0, none⟩), .pointer (some ⟨w.heap.size + 1, 0, none⟩)]) ∧ w' = (w.alloc (.cells #[.slice A m c] 22)).alloc (.cells #[.int .i64 (q : Nat)] 3) := by
  have i1 : ¬ ((q : Int) < 1) := by omega
  go_enter Try.func39, Try.ntmps39
  go_wp2_with fail
  go_ret
  exact ⟨rfl, rfl⟩
set_option maxRecDepth 100000 in
set_option maxHeartbeats 4000000 in
theorem chunk8_in (n : Nat) (_ : 1 ≤ n) (l b q N m c : Nat) (A : Option Addr) (ad : Addr) (hA : 0 < N → A = some ad) (hq : 1 ≤ q) (hm : q * N = m) (hmc : m ≤ c) (hmb : m ≤ 140737488355328) (I : Nat → World → Prop) (R Jx : World → Prop)
    (hI : ∀ k V, I k V → V.cell? ⟨b, 0, none⟩ = some (.slice A m c) ∧ V.cell? ⟨b + 1, 0, none⟩ = some (.int .i64 (q : Nat)))
    (hID : ∀ k V, I k V → I k V.drew) (hRD : ∀ V, R V → R V.drew)
    (hY : ∀ k V, k < N → I k V → R V → YieldAt Fence.wide (n - 1) Try.prog l (pieceC ad q k) V fun e V' => (e = .returned (.bool true) ∧ I (k + 1) V' ∧ R V') ∨ (e = .returned (.bool false) ∧ Jx V'))
    (V : World) (h0 : I 0 V) (hR : R V) :
    CallsIn Fence.wide n Try.prog 55 #[.func (.yield l) #[] #[], .pointer (some ⟨b, 0, none⟩), .pointer (some ⟨b + 1, 0, none⟩)] V fun e V' => (∃ v, e = .returned v) ∧ ((I N V' ∧ R V') ∨ Jx V') := by
  refine callsIn_of_wp Try.func55 rfl trivial ?_ rfl
  simp only [Try.ntmps55, List.size_toArray, List.length_cons, List.length_nil, Nat.reduceAdd, Nat.reduceSub, Array.replicate_succ, Array.replicate_zero, List.push_toArray, List.append_toArray, List.nil_append, List.cons_append]
  have hmix : Try.prog.follows .mixedOrders = true := by kernel_rfl
  gi_wp2_with fail
  gi_loopw [4] (fun i wr => ∃ k : Nat, k ≤ N ∧ i = .int .i64 ((q * k : Nat) : Int) ∧ I k wr ∧ R wr) (fun i _ => m - (intOf i).toNat)
  case atStart => exact ⟨0, Nat.zero_le _, by simp, h0, hR⟩
  case round =>
    obtain ⟨k, hk, rfl, hIk, hRk⟩ := hrel
    obtain ⟨kb, kc⟩ := hI k wr hIk
    by_cases hlt : k < N
    · obtain rfl := hA (by omega)
      have kb' : wr.drew.cell? ⟨b, 0, none⟩ = some (.slice (some ad) m c) := kb
      have kc' : wr.drew.cell? ⟨b + 1, 0, none⟩ = some (.int .i64 (q : Nat)) := kc
      obtain ⟨fn, tmps, assign, body, hy, hRd⟩ := hY k wr.drew hlt (hID _ _ hIk) (hRD _ hRk)
      dsimp only [pieceC] at hy
      have HYD := Lib.hid (yield_one hRd)
      have hFe := piece_le hlt hm
      have HAD : Hid (q * (k + 1) = q * k + q) := Lib.hid (Nat.mul_succ q k)
      clear hRd hIk hRk
      generalize q * k = F at *
      have i1 : (F : Int) < (m : Int) := by omega
      have i2 : (F : Int) ≤ (c : Int) := by omega
      have i3 : ((F : Int) + (q : Int)) ≤ (c : Int) := by omega
      have hmn : min (q : Int) (((m - F : Nat) : Nat) : Int) = (q : Int) := by omega
      have i4 : ¬ c = F := by omega
      have HI4 := Lib.hid (fun k V h => (hI k V h).2)
      have HM := Lib.hid hm
      clear hI hY hID hRD hm hA
      gi_wp2_with fail
      gi_region_with_o (fail)
      all_goals
        gi_wp2_with fail
        with_reducible refine RoundIn.mono HYD.out ?_
        rintro e w4 ⟨bb, rfl, hb1, hb2⟩
        have HB1 := Lib.hid hb1; have HB2 := Lib.hid hb2
        have HK := Lib.hid hlt
        clear hb1 hb2 kb kc kb' kc' hy HYD hmn hlt
        have kc4 : bb = true → w4.cell? ⟨b + 1, 0, none⟩ = some (.int .i64 (q : Nat)) := fun h => (HI4.out _ _ (HB1.out h).1)
        cases bb with
        | true =>
          have kc5 := kc4 rfl
          clear kc4
          gi_wp2
          go_roundw
          case rel => exact ⟨k + 1, HK.out, by rw [HAD.out]; go_num, (HB1.out (by trivial)).1, (HB1.out (by trivial)).2⟩
          case measure => simp [intOf]; omega
        | false =>
          gi_wp2
          refine bodyPost_ret (results_none rfl _ _ _) rfl ?_
          exact ⟨⟨_, rfl⟩, .inr (HB2.out (by trivial))⟩
    · have : k = N := by omega
      subst this
      have HM := Lib.hid hm
      rw [hm]
      clear hm
      gi_wp2_with fail
      go_end0
      exact ⟨⟨_, rfl⟩, .inl ⟨hIk, hRk⟩⟩
end Go.Proofs.Ytaloieeemibblaa
