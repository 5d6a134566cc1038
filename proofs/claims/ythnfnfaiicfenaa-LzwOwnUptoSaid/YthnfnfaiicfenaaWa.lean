/- The library's Chunk: the iterator over pieces of 128; saves. -/
import Derived.Test.YthnfnfaiicfenaaWm
import Derived.Test.YthnfnfaiicfenaaSr
import Derived.Test.YthnfnfaiicfenaaTr
import Derived.Shelf.Abstract
import Derived.Shelf.RegionOpen
import Derived.OwnWalkIn
import Derived.TacticsInMore
import Derived.LoopNIn
import Derived.LoopIn
namespace Go.Proofs.Ythnfnfaiicfenaa
open Go.ChangeShapes Go.WideShapes Go.ChangeAt Go.RowKit Go.Shelf
attribute [local go_sem] Oper.semAt_some

theorem yield_one {F : Fence} {m : Nat} {P : Program} {l : Nat} {fn : FuncId} {tmps : Array Value} {assign body : Code} {W : World} {T J : World → Prop}
    (h : RoundIn F m P l fn tmps assign body W fun e W' => (e = .returned (.bool true) ∧ T W') ∨ (e = .returned (.bool false) ∧ J W')) :
    RoundIn F m P l fn tmps assign body W fun e W' => ∃ b : Bool, e = .returned (.bool b) ∧ (b = true → T W') ∧ (b = false → J W') :=
  h.mono fun e W' hh => by
    rcases hh with ⟨rfl, h1⟩ | ⟨rfl, h1⟩
    · exact ⟨true, rfl, fun _ => h1, fun k => (by cases k)⟩
    · exact ⟨false, rfl, fun k => (by cases k), fun _ => h1⟩
theorem upd_putObj {S : Nat → Prop} (W : World) (l : Nat) (o' : Obj) (hS : S l) : Upd S W (W.putObj l o') := (Upd.of_grown (grownBy_putObj' W l o')).mono (fun k _ e => by injection e with e; subst e; exact hS)

set_option maxRecDepth 100000 in
theorem saves_any (r : Nat) (behind : Bool) (w : World) : Calls Try.prog 34 #[.int .i64 (r : Int), .bool behind] w fun e w' => e = .returned (.bool (savesB r behind)) ∧ w' = w := by
  unfold savesB
  by_cases h : 2 < r
  · have d1 : decide ((2 : Int) < (r : Int)) = true := decide_eq_true (by omega)
    have d2 : decide (2 < r) = true := decide_eq_true h
    rw [d2]
    go_enter Try.func34, Try.ntmps34
    go_wp2_with fail
    go_ret
    exact ⟨by simp, rfl⟩
  · have d1 : decide ((2 : Int) < (r : Int)) = false := decide_eq_false (by omega)
    have d2 : decide (2 < r) = false := decide_eq_false h
    rw [d2]
    by_cases h2 : r = 2
    · subst h2
      cases behind
      all_goals
        go_enter Try.func34, Try.ntmps34
        go_wp2_with fail
        go_ret
        exact ⟨by simp, rfl⟩
    · have d3 : ((r : Int) == 2) = false := beq_eq_false_iff_ne.2 (by omega)
      have d4 : decide (r = 2) = false := decide_eq_false h2
      rw [d4]
      go_enter Try.func34, Try.ntmps34
      go_wp2_with fail
      go_ret
      exact ⟨by simp, rfl⟩

set_option maxRecDepth 100000 in
theorem chunk_any (w : World) (A : Option Addr) (m c : Nat) : Calls Try.prog 56 #[.slice A m c, .int .i64 128] w fun e w' => e = .returned (.func (.func 68) #[] #[.pointer (some ⟨w.heap.size, 0, none⟩), .pointer (some ⟨w.heap.size + 1, 0, none⟩)]) ∧ w' = (w.alloc (.cells #[.slice A m c] 22)).alloc (.cells #[.int .i64 128] 3) := by
  go_enter Try.func56, Try.ntmps56
  go_wp2_with fail
  go_ret
  exact ⟨rfl, rfl⟩

/-- What a piece is. -/
def pieceEnc (A : Option Addr) (m k : Nat) : Array Value := #[.slice (A.map (·.add (128 * k))) (min 128 (m - 128 * k)) (min 128 (m - 128 * k))]
set_option maxRecDepth 100000 in
set_option maxHeartbeats 4000000 in
theorem chunk1_in (n : Nat) (_ : 1 ≤ n) (l b m c : Nat) (A : Option Addr) (hA : 0 < m → ∃ ad, A = some ad) (hmc : m ≤ c) (hm : m ≤ 8000000) (I : Nat → World → Prop) (R Jx : World → Prop)
    (hI : ∀ k V, I k V → V.cell? ⟨b, 0, none⟩ = some (.slice A m c) ∧ V.cell? ⟨b + 1, 0, none⟩ = some (.int .i64 128))
    (hID : ∀ k V, I k V → I k V.drew) (hRD : ∀ V, R V → R V.drew)
    (hY : ∀ k V, k < (m + 127) / 128 → I k V → R V → YieldAt Fence.wide (n - 1) Try.prog l (pieceEnc A m k) V fun e V' => (e = .returned (.bool true) ∧ I (k + 1) V' ∧ R V') ∨ (e = .returned (.bool false) ∧ Jx V'))
    (V : World) (h0 : I 0 V) (hR : R V) :
    CallsIn Fence.wide n Try.prog 68 #[.func (.yield l) #[] #[], .pointer (some ⟨b, 0, none⟩), .pointer (some ⟨b + 1, 0, none⟩)] V fun e V' => (∃ v, e = .returned v) ∧ ((I ((m + 127) / 128) V' ∧ R V') ∨ Jx V') := by
  refine callsIn_of_wp Try.func68 rfl trivial ?_ rfl
  simp only [Try.ntmps68, List.size_toArray, List.length_cons, List.length_nil, Nat.reduceAdd, Nat.reduceSub, Array.replicate_succ, Array.replicate_zero, List.push_toArray, List.append_toArray, List.nil_append, List.cons_append]
  have hmix : Try.prog.follows .mixedOrders = true := by kernel_rfl
  gi_wp2_with fail
  gi_loopw [4] (fun i wr => ∃ k : Nat, k ≤ (m + 127) / 128 ∧ i = .int .i64 ((128 * k : Nat) : Int) ∧ I k wr ∧ R wr) (fun i _ => (m + 127) / 128 - (intOf i).toNat / 128)
  case atStart => exact ⟨0, Nat.zero_le _, rfl, h0, hR⟩
  case round =>
    obtain ⟨k, hk, rfl, hIk, hRk⟩ := hrel
    obtain ⟨kb, kc⟩ := hI k wr hIk
    by_cases hlt : 128 * k < m
    · obtain ⟨ad, rfl⟩ := hA (by omega)
      have hkk : k < (m + 127) / 128 := by omega
      have kb' : wr.drew.cell? ⟨b, 0, none⟩ = some (.slice (some ad) m c) := kb
      have kc' : wr.drew.cell? ⟨b + 1, 0, none⟩ = some (.int .i64 128) := kc
      obtain ⟨fn, tmps, assign, body, hy, hRd⟩ := hY k wr.drew hkk (hID _ _ hIk) (hRD _ hRk)
      dsimp only [pieceEnc, Option.map_some] at hy
      have HYD := Lib.hid (yield_one hRd)
      clear hRd hIk hRk
      obtain ⟨F, hF⟩ : ∃ F, 128 * k = F := ⟨_, rfl⟩
      rw [hF] at hy ⊢
      obtain ⟨E, hE⟩ : ∃ E, min 128 (m - F) = E := ⟨_, rfl⟩
      rw [hF] at hlt
      rw [hE] at hy
      have i0 : F < m := hlt
      have i1 : (F : Int) < (m : Int) := by omega
      have i2 : (F : Int) ≤ (c : Int) := by omega
      have i3 : ((F : Int) + (E : Int)) ≤ (c : Int) := by omega
      have hmn : min (128 : Int) (((m - F : Nat) : Nat) : Int) = (E : Int) := by omega
      have i4 : ¬ c = F := by omega
      have HI4 := Lib.hid (fun k V h => (hI k V h).2)
      clear hA hI hY hID hRD
      gi_wp2_with fail
      gi_region_with_o (fail)
      all_goals
        gi_wp2_with fail
        with_reducible refine RoundIn.mono HYD.out ?_
        rintro e w4 ⟨bb, rfl, hb1, hb2⟩
        have HB1 := Lib.hid hb1; have HB2 := Lib.hid hb2
        have HF := Lib.hid hF
        have HK := Lib.hid hkk
        clear hb1 hb2 kb kc kb' kc' hy HYD hE hF hmn hkk
        have kc4 : bb = true → w4.cell? ⟨b + 1, 0, none⟩ = some (.int .i64 128) := fun h => (HI4.out _ _ (HB1.out h).1)
        cases bb with
        | true =>
          have kc5 := kc4 rfl
          have hadd : 128 * (k + 1) = F + 128 := by have := HF.out; omega
          have HAD := Lib.hid hadd
          have i7 : F ≤ 8000000 := by omega
          clear hadd kc4
          gi_wp2
          go_roundw
          case rel => exact ⟨k + 1, HK.out, by rw [HAD.out]; go_num, (HB1.out (by trivial)).1, (HB1.out (by trivial)).2⟩
          case measure => have := HF.out; have := HK.out; simp [intOf]; omega
        | false =>
          gi_wp2
          refine bodyPost_ret (results_none rfl _ _ _) rfl ?_
          exact ⟨⟨_, rfl⟩, .inr (HB2.out (by trivial))⟩
    · have : k = (m + 127) / 128 := by omega
      subst this
      gi_wp2_with fail
      go_end0
      exact ⟨⟨_, rfl⟩, .inl ⟨hIk, hRk⟩⟩
end Go.Proofs.Ythnfnfaiicfenaa
