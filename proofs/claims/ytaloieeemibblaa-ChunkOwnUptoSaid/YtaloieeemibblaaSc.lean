/- Contracts of the program's sums: one step, the table of half bytes, CRC-32. -/
import Derived.Test.YtaloieeemibblaaL
import Derived.Test.YtaloieeemibblaaSm
import Derived.Test.YtaloieeemibblaaRows
import Derived.WalkKit
import Derived.ProofKit
import Derived.OpenShut
import Derived.ChangeOld
import Derived.Below
import Derived.Lib.Hide
import Derived.Outline
import Derived.BigQuiet
import Derived.Deep.QuietTactic
import Derived.Laws.Rows
import Derived.Laws.CopyOwn
namespace Go.Proofs.Ytaloieeemibblaa
open Go.ChangeShapes Go.WideShapes Go.ChangeAt Go.RowKit

theorem ret_u32 {a b : Int} (h : a = b) : Ending.returned (.int .u32 a) = .returned (.int .u32 b) := by rw [h]
theorem ret_bool {a b : Bool} (h : a = b) : Ending.returned (.bool a) = .returned (.bool b) := by rw [h]

set_option maxHeartbeats 400000 in
theorem crcStep_any (c : Nat) (w : World) (hc : c < 4294967296) :
    Calls Try.prog 67 #[.int .u32 (c : Int)] w fun e w' => e = .returned (.int .u32 ((step1 c : Nat) : Int)) ∧ w = w' := by
  by_cases h : c % 2 = 1
  · have HX := Lib.hid (xor_u32 (c / 2) poly (by omega) (by unfold poly; omega))
    have HS := Lib.hid (step1_odd h)
    have d1 : ((c : Int) % 2 == 1) = true := by simp; omega
    go_enter Try.func67, Try.ntmps67
    go_wp2_with fail
    go_ret
    exact ⟨ret_u32 (HX.out.trans (by rw [HS.out])), rfl⟩
  · have HS := Lib.hid (step1_even h)
    have d1 : ((c : Int) % 2 == 1) = false := by simp; omega
    go_enter Try.func67, Try.ntmps67
    go_wp2_with fail
    go_ret
    exact ⟨ret_u32 (by rw [HS.out]; rfl), rfl⟩
/-- The table behind its first k numbers. -/
def tabL (k : Nat) : List Value := (List.range 16).map fun j => if j < k then .int .u32 ((stepN 4 j : Nat) : Int) else .int .u32 0
theorem tabL_length (k : Nat) : (tabL k).length = 16 := by simp [tabL]
theorem tabL_get (k j : Nat) (hj : j < 16) : (tabL k)[j]? = some (if j < k then .int .u32 ((stepN 4 j : Nat) : Int) else .int .u32 0) := by simp [tabL, hj]
theorem tabL_set (k : Nat) (hk : k < 16) : (tabL k).toArray.setIfInBounds k (.int .u32 ((stepN 4 k : Nat) : Int)) = (tabL (k + 1)).toArray := by
  apply Array.ext'
  simp only [Array.toList_setIfInBounds]
  apply List.ext_getElem?
  intro j
  rw [List.getElem?_set]
  by_cases hj : j < 16
  · rw [tabL_get _ _ hj, tabL_get _ _ hj, tabL_length]
    by_cases e : k = j
    · subst e; simp [hk]
    · rw [if_neg e]
      by_cases h1 : j < k
      · rw [if_pos h1, if_pos (by omega)]
      · rw [if_neg h1, if_neg (by omega)]
  · have h1 : (tabL k)[j]? = none := List.getElem?_eq_none (by rw [tabL_length]; omega)
    have h2 : (tabL (k + 1))[j]? = none := List.getElem?_eq_none (by rw [tabL_length]; omega)
    rw [h1, h2, if_neg (by omega)]
theorem tabL_one (k : Nat) : (tabL k).toArray.all (·.oneCell') = true := by
  rw [Array.all_eq_true_iff_forall_mem]
  intro v hv
  simp only [tabL, List.mem_toArray, List.mem_map] at hv
  obtain ⟨j, _, rfl⟩ := hv
  split <;> rfl
theorem tab_info : (Try.prog.info? 92).map (·.size) = some 16 := by kernel_rfl
theorem blk_second (w : World) (o : Obj) (t : TypeId) (cs : Array Value) : Blk ((w.alloc o).alloc (.cells cs t)) (w.heap.size + 1) t cs := by
  have h := Blk.new (w.alloc o) t cs
  have e : (w.alloc o).heap.size = w.heap.size + 1 := by simp
  rwa [e] at h
def TabAt (w : World) (B : Nat) (k : Nat) (wr : World) : Prop :=
  Blk wr B 92 (tabL 0).toArray ∧ Blk wr (B + 1) 92 (tabL k).toArray ∧ Below B w wr

set_option maxHeartbeats 1000000 in
set_option maxRecDepth 100000 in
theorem crcTable_any (w : World) :
    Calls Try.prog 65 #[] w fun e w' => e = .returned (.agg (tabL 16).toArray) ∧ Below w.heap.size w w' := by
  go_enter Try.func65, Try.ntmps65
  go_wp2_with fail
  go_loopw [4] (fun i wr => ∃ k : Nat, k ≤ 16 ∧ i = .int .u32 k ∧ TabAt w w.heap.size k wr) (fun i _ => 16 - (intOf i).toNat)
  case atStart => exact ⟨0, by omega, rfl, (Blk.new w _ _).alloc _, blk_second w _ _ _, ((Below.refl _ _).alloc (Nat.le_refl _) _).alloc (by simp) _⟩
  case round =>
    obtain ⟨k, hk, rfl, hB0, hB1, hbw⟩ := hrel
    have HB0 := Lib.hid hB0; clear hB0
    have HB1 := Lib.hid hB1; clear hB1
    have HBW := Lib.hid hbw; clear hbw
    by_cases hlt : k < 16
    · have hc1 : wr.cell? ⟨w.heap.size + 1, k, none⟩ = some (.int .u32 0) := by rw [HB1.out.cell k]; simpa using tabL_get k k hlt
      have hf1 : wr.frozen? ⟨w.heap.size + 1, k, none⟩ = false := HB1.out.frozen k
      have hs1 : w.heap.size + 1 < wr.heap.size := HB1.out.lt
      have d0 : decide ((k : Int) < 16) = true := by simp; omega
      go_wp2_with fail
      go_loop [3, 8] (fun c i => ∃ m : Nat, m ≤ 4 ∧ i = .int .i64 m ∧ c = .int .u32 ((stepN m k : Nat) : Int)) (fun _ i => 4 - (intOf i).toNat)
      case atStart => exact ⟨0, by omega, rfl, rfl⟩
      case round =>
        obtain ⟨m, hm, rfl, rfl⟩ := hrel
        have hs := stepN_lt (c := k) (by omega) m
        by_cases hmt : m < 4
        · go_wp2_with ((with_reducible refine (crcStep_any _ _ hs).mono ?_); rintro e w' ⟨rfl, rfl⟩)
          go_round
          case rel => exact ⟨m + 1, by omega, by go_num, rfl⟩
          case measure => simp [intOf]; omega
        · obtain rfl : m = 4 := by omega
          go_wp2_with fail
          go_roundw
          case rel =>
            refine ⟨k + 1, by omega, by go_num, ?_, ?_, ?_⟩
            · exact HB0.out.upd (S := fun i => w.heap.size + 1 ≤ i) (Upd.setCell (Upd.refl (fun i => w.heap.size + 1 ≤ i) wr) (p := ⟨w.heap.size + 1, k, none⟩) (fun _ => Nat.le_refl _) _) (by omega)
            · have := HB1.out.set_ k (.int .u32 ((stepN 4 k : Nat) : Int))
              rw [tabL_set k hlt] at this
              exact this
            · exact HBW.out.setCell (by simp) _
          case measure => simp [intOf]; omega
    · obtain rfl : k = 16 := by omega
      have hsz : (Try.prog.info? 92).map (·.size) = some (tabL 16).toArray.size := tab_info
      go_wp2_with (first | (refine wpList_load_row rfl 92 (.tmp 1) rfl (w.heap.size + 1) rfl 92 (tabL 16).toArray (0, 0) _ HB1.out Try.underlying92 rfl hsz ?_) | (refine wpList_store_row rfl 92 (.tmp 0) (.tmp 17) rfl w.heap.size (tabL 16).toArray rfl rfl 92 (tabL 0).toArray HB0.out hsz rfl (tabL_one 16) ?_))
      exact bodyPost_ret (v := .agg (tabL 16).toArray) (results_cell_row rfl _ _ w.heap.size 92 (tabL 16).toArray (0, 0) _ rfl (setRow_heap wr w.heap.size _ _ _ _ HB0.out) Try.underlying92 rfl hsz) rfl ⟨rfl, below_setRow HBW.out (Nat.le_refl _) _⟩
end Go.Proofs.Ytaloieeemibblaa
