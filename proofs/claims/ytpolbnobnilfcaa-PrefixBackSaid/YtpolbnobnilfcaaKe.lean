/- Contract of the library's Backward over the rows of coins. -/
import Derived.Test.YtpolbnobnilfcaaKd
import Derived.Test.YtpolbnobnilfcaaSq
import Derived.Shelf.Abstract
import Derived.OwnWalkIn
import Derived.TacticsInMore
import Derived.LoopNIn
import Derived.LoopIn
namespace Go.Proofs.Ytpolbnobnilfcaa
open Go.ChangeShapes Go.WideShapes Go.ChangeAt Go.RowKit Go.Shelf
attribute [local go_sem] Oper.semAt_some

theorem upd_putObj {S : Nat → Prop} (W : World) (l : Nat) (o' : Obj) (hS : S l) : Upd S W (W.putObj l o') := (Upd.of_grown (grownBy_putObj' W l o')).mono (fun k _ e => by injection e with e; subst e; exact hS)

set_option maxRecDepth 100000 in
set_option maxHeartbeats 2000000 in
theorem backward_seq (F : Fence) (n : Nat) (hf : F.fn 58) (hro : F.round = none) (hn : 1 ≤ n) (l Bs G N c : Nat) (rv : Nat → Value) (hN : N ≤ 1048576) (S : Nat → Prop) (hSB : ¬ S Bs) (hSG : ¬ S G) (J : Nat → World → Prop)
    (hY : ∀ k W1, k < N → J k W1 → YieldAt F (n - 1) Try.prog l #[.int .i64 ((N : Int) - 1 - (k : Int)), rv (N - 1 - k)] W1 fun e W' => e = .returned (.bool true) ∧ J (k + 1) W' ∧ Upd S W1 W')
    (W : World) (hB : W.cell? ⟨Bs, 0, none⟩ = some (.slice (some ⟨G, 0, none⟩) N c)) (hc : ∀ j, j < N → W.cell? ⟨G, j, none⟩ = some (rv j)) (hBl : Bs < W.heap.size) (hGl : G < W.heap.size) (h0 : J 0 W) :
    CallsIn F n Try.prog 58 #[.func (.yield l) #[] #[], .pointer (some ⟨Bs, 0, none⟩)] W fun e W' => (∃ v, e = .returned v) ∧ J N W' := by
  refine callsIn_of_wp Try.func58 rfl hf ?_ hro
  simp only [Try.ntmps58, List.size_toArray, List.length_cons, List.length_nil, Nat.reduceAdd, Nat.reduceSub, Array.replicate_succ, Array.replicate_zero, List.push_toArray, List.append_toArray, List.nil_append, List.cons_append]
  gi_wp2
  gi_loopw [3] (fun i wr => ∃ k : Nat, k ≤ N ∧ i = .int .i64 ((N : Int) - 1 - (k : Int)) ∧ J k wr ∧ Upd S W wr) (fun i _ => (intOf i + 1).toNat)
  case atStart => exact ⟨0, Nat.zero_le _, by simp, h0, Upd.refl _ _⟩
  case round =>
    obtain ⟨k, hk, rfl, hJs, hU⟩ := hrel
    by_cases hlt : k < N
    · have hB' := (World.cell?_of_block (a := ⟨Bs, 0, none⟩) (hU.block Bs hBl hSB)).trans hB
      have hc' := (World.cell?_of_block (a := ⟨G, N - 1 - k, none⟩) (hU.block G hGl hSG)).trans (hc (N - 1 - k) (by omega))
      obtain ⟨fn, tmps, assign, body, hy, hR⟩ := hY k wr hlt hJs
      have e1 : ((N : Int) - 1 - (k : Int)).toNat = N - 1 - k := by omega
      have i1 : (0 : Int) ≤ (N : Int) - 1 - (k : Int) := by omega
      have i2 : (N : Int) - 1 - (k : Int) < N := by omega
      have d1 : decide ((0 : Int) ≤ (N : Int) - 1 - (k : Int)) = true := decide_eq_true i1
      gi_wp2
      refine hR.mono ?_
      rintro e W3 ⟨rfl, hJ3, hk3⟩
      gi_wp2
      go_roundw
      case rel => exact ⟨k + 1, by omega, by congr 1; omega, hJ3, hU.trans hk3⟩
      case measure => simp [intOf]; omega
    · obtain rfl : k = N := by omega
      have d1 : decide ((0 : Int) ≤ (k : Int) - 1 - (k : Int)) = false := decide_eq_false (by omega)
      gi_wp2
      go_end0
      exact ⟨⟨_, rfl⟩, hJs⟩

theorem backward_in (F : Fence) (n : Nat) (hf : F.fn 53) (hro : F.round = none) (v : Value) (w : World) (a : Option Addr) (k c : Nat) (hv : v = .slice a k c) :
    CallsIn F n Try.prog 53 #[v] w fun e w' => e = .returned (.func (.func 58) #[] #[.pointer (some ⟨w.heap.size, 0, none⟩)]) ∧ w' = w.alloc (.cells #[v] 87) := by
  subst hv
  refine callsIn_of_wp Try.func53 rfl hf ?_ hro
  simp only [Try.ntmps53, List.size_toArray, List.length_cons, List.length_nil, Nat.reduceAdd, Nat.reduceSub, Array.replicate_succ, Array.replicate_zero, List.push_toArray, List.append_toArray, List.nil_append, List.cons_append]
  gi_wp2
  go_ret
  exact ⟨rfl, rfl⟩
end Go.Proofs.Ytpolbnobnilfcaa
