/- The document's AlignW. -/
import Derived.Test.YtlkmhmiaekmkdaaWq
namespace Go.Proofs.Ytlkmhmiaekmkdaa
open Go.ChangeShapes Go.WideShapes Go.ChangeAt Go.RowKit

theorem rep_next (bs : List Bool) (k : Nat) : bs ++ List.replicate (k + 1) false = (bs ++ List.replicate k false) ++ [false] := by
  rw [List.replicate_succ', List.append_assoc]
set_option maxHeartbeats 4000000 in
set_option maxRecDepth 100000 in
theorem refAlignW_any (w : World) (base : Nat) (A : Option Addr) (c : Nat) (l : List UInt8) (high : Bool) (bs : List Bool) (h : WVal w base A c l high bs) (hB : base ≤ w.heap.size) (hsz : bs.length ≤ 1125899906841000) :
    Calls Try.prog 25 #[.agg #[.bool high, .slice A l.length c, .int .i64 (bs.length : Int)]] w (PutV w base A high (bs ++ List.replicate ((8 - bs.length % 8) % 8) false)) := by
  have H0 := Lib.hid (RefAt.first h); clear h
  go_enter Try.func25, Try.ntmps25
  go_wp2_with fail
  generalize (w.alloc (.cells #[.bool high, .slice A l.length c, .int .i64 (bs.length : Int)] 50)).alloc (.cells #[.bool false, .slice none 0 0, .int .i64 0] 50) = W0 at *
  generalize hm : (8 - bs.length % 8) % 8 = m at *
  go_loopg [] m (fun gk wr => ∃ k : Nat, k ≤ m ∧ gk = m - k ∧ RefAt w base w.heap.size (w.heap.size + 1) A high (bs ++ List.replicate k false) wr)
  case atStart => exact ⟨0, by omega, rfl, by simpa using H0.out⟩
  case round =>
    obtain ⟨k, hk, rfl, A1, c1, l1, hB2, hT2, hV, hU, hO⟩ := hrel
    have hbl : (bs ++ List.replicate k false).length = bs.length + k := by simp
    have d0 : wr.cell? ⟨w.heap.size, 0, none⟩ = some (.bool high) := by rw [hB2.cell]; rfl
    have d3 : wr.cell? ⟨w.heap.size, 1, none⟩ = some (.slice A1 l1.length c1) := by rw [hB2.cell]; rfl
    have d4 : wr.cell? ⟨w.heap.size, 2, none⟩ = some (.int .i64 ((bs.length + k : Nat) : Int)) := by rw [hB2.cell, ← hbl]; rfl
    have HB2 := Lib.hid hB2; clear hB2
    have HT2 := Lib.hid hT2; clear hT2
    have HV := Lib.hid hV; clear hV
    have HU := Lib.hid hU; clear hU
    have hB3 : base ≤ wr.heap.size := Nat.le_trans hB HU.out.size
    by_cases hlt : k < m
    · have HN := Lib.hid (rep_next bs k)
      have hmod : ((bs.length : Int) + k) % 8 ≠ 0 := by omega
      have hdec : ((((bs.length : Int) + k) % 8) != 0) = true := by simp; omega
      go_wp2_with fail
      rw [show ((bs.length : Int) + k) = ((bs ++ List.replicate k false).length : Int) from by simp]
      refine (put1_any wr base A1 c1 l1 high (bs ++ List.replicate k false) false HV.out hB3 (by omega)).mono ?_
      rintro e w' ⟨A2, c2, l2, rfl, hV2, hU2, hO2⟩
      obtain ⟨hB9, hR9⟩ := RefAt.step HB2.out HT2.out HV.out HU.out hO (Nat.le_refl _) (by omega) hV2 hU2 hO2
      have e0 : w'.cell? ⟨w.heap.size, 0, none⟩ = some (.bool high) := by rw [hB9.cell]; rfl
      have e1 : w'.cell? ⟨w.heap.size, 1, none⟩ = some (.slice A1 l1.length c1) := by rw [hB9.cell]; rfl
      have e2 : w'.cell? ⟨w.heap.size, 2, none⟩ = some (.int .i64 ((bs ++ List.replicate k false).length : Int)) := by rw [hB9.cell]; rfl
      have f0 := hB9.frozen 0
      have f1 := hB9.frozen 1
      have f2 := hB9.frozen 2
      have HR9 := Lib.hid hR9
      clear hR9 hB9 hV2 hU2 hO2
      go_wp2_with fail
      go_roundg (m - (k + 1))
      case measure => omega
      case rel =>
        refine ⟨k + 1, by omega, rfl, ?_⟩
        have h2 := HR9.out
        rw [HN.out]
        simpa using h2
    · have hkm : k = m := by omega
      subst hkm
      have hdec : ((((bs.length : Int) + k) % 8) != 0) = false := by simp; omega
      have t0 : wr.cell? ⟨w.heap.size + 1, 0, none⟩ = some (.bool false) := by rw [HT2.out.cell]; rfl
      have t1 : wr.cell? ⟨w.heap.size + 1, 1, none⟩ = some (.slice none 0 0) := by rw [HT2.out.cell]; rfl
      have t2 : wr.cell? ⟨w.heap.size + 1, 2, none⟩ = some (.int .i64 0) := by rw [HT2.out.cell]; rfl
      have tf0 := HT2.out.frozen 0
      have tf1 := HT2.out.frozen 1
      have tf2 := HT2.out.frozen 2
      have HL := Lib.hid (last HT2.out HV.out HU.out hO (Nat.le_succ _) ((bs.length : Int) + k))
      go_wp2_with fail
      obtain ⟨m0, m1, m2, hV9, hU9, hO9⟩ := HL.out
      generalize (((wr.setCell ⟨w.heap.size + 1, 0, none⟩ (.bool high)).setCell ⟨w.heap.size + 1, 1, none⟩ (.slice A1 l1.length c1)).setCell ⟨w.heap.size + 1, 2, none⟩ (.int .i64 ((bs.length : Int) + k))) = W9 at *
      refine bodyPost_ret (v := .agg #[.bool high, .slice A1 l1.length c1, .int .i64 ((bs.length : Int) + k)]) (by simp [results, Try.results25, go_sem, m0, m1, m2]) rfl ?_
      exact ⟨A1, c1, l1, by rw [hbl]; simp, hV9, hU9, hO9⟩
end Go.Proofs.Ytlkmhmiaekmkdaa
