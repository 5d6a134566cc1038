/- Contract of the document's Codes. -/
import Derived.Test.YtpolbnobnilfcaaRr
import Derived.WalkKit
import Derived.Handy
import Derived.Laws.OwnMore
namespace Go.Proofs.Ytpolbnobnilfcaa
open Go.ChangeShapes Go.WideShapes Go.ChangeAt Go.RowKit

def u32V (l : List Nat) : List Value := l.map fun n : Nat => .int .u32 (n : Int)
theorem u32V_length (l : List Nat) : (u32V l).length = l.length := by simp [u32V]
theorem u32V_set (l : List Nat) (k n : Nat) : (u32V l).set k (.int .u32 (n : Int)) = u32V (l.set k n) := by simp [u32V, List.map_set]
theorem u32V_one (l : List Nat) : ∀ u ∈ u32V l, u.oneCell' = true := by
  intro u hu
  obtain ⟨b, _, rfl⟩ := List.mem_map.mp hu
  rfl
theorem info_u32 : (Try.prog.info? 35).map (fun i => (i.zero, i.size, i.bytes)) = some (some (.int .u32 0), 1, 4) := by kernel_rfl
def codesErr (l : List Int) : Int := if roomErr l = 0 then (if roomOf l < 0 then 30 else 0) else roomErr l
def codesAns (l : List Int) : List Nat := if codesErr l = 0 then codesL l else []
def CodesRes (w : World) (l : List Int) (e : Ending) (w' : World) : Prop :=
  ∃ A' n c', e = .returned (.tuple #[.slice A' n c', .int .i64 (codesErr l)]) ∧ w'.ownsRow w.heap.size 35 1 (.slice A' n c') n (u32V (codesAns l)) ∧ Below w.heap.size w w'
theorem CodesRes.err {w : World} {l : List Int} {x : Int} (h : codesErr l = x) (hx : x ≠ 0) : CodesRes w l (.returned (.tuple #[.slice none 0 0, .int .i64 x])) w := by
  refine ⟨none, 0, 0, by rw [h], ?_, Below.refl _ _⟩
  unfold codesAns
  rw [h, if_neg hx]
  exact World.ownsRow_nil w w.heap.size 35 1
theorem make_u32 (n : Nat) : (madeCells (Value.int .u32 0).cells (n * 1)).toList = u32V (List.replicate n 0) := by
  rw [show (Value.int .u32 0).cells = #[.int .u32 0] from rfl, Nat.mul_one, toList_madeCells_one]
  simp [u32V]
def CodesAt (w : World) (l : List Int) (n i : Nat) (wr : World) : Prop :=
  wr.ownsRow w.heap.size 35 1 (.slice (some ⟨w.heap.size, 0, none⟩) l.length l.length) l.length (u32V (partCodes l n i)) ∧ Below w.heap.size w wr

set_option maxHeartbeats 1000000 in
set_option maxRecDepth 100000 in
theorem refCodes_any (A : Option Addr) (c : Nat) (l : List Int) (w : World) (hbs : Is w w.heap.size A l) (hl : l.length ≤ 35184372088832) :
    Calls Try.prog 15 #[.slice A l.length c] w (CodesRes w l) := by
  obtain ⟨i0, hi, hz0, hz1, hz2⟩ := info_parts info_u32
  have hm : l.length ≤ maxLen := by unfold maxLen; omega
  by_cases hre : roomErr l = 0
  · by_cases hro : roomOf l < 0
    · have HE : Hid (codesErr l = 30) := Lib.hid (by unfold codesErr; rw [if_pos hre, if_pos hro])
      have HR : Hid (roomAns l = roomOf l) := Lib.hid (by unfold roomAns; rw [if_pos hre])
      have HRE := Lib.hid hre; clear hre
      have d1 : decide (roomOf l < 0) = true := by simp; omega
      go_enter Try.func15, Try.ntmps15
      go_wp2_with fail
      refine (refRoom_any A c l _ w hbs hm).mono ?_
      rw [HR.out, HRE.out]
      rintro e w1 ⟨rfl, rfl⟩
      have HX := Lib.hid (CodesRes.err (w := w) HE.out (by decide))
      go_wp2_with fail
      go_ret2
      exact HX.out
    · have hg : l.any badLen = false := by
        rcases hb : l.any badLen with _ | _
        · rfl
        · exfalso
          unfold roomErr at hre
          rw [hb] at hre
          split at hre <;> simp at hre
      have h4 : l.length ≤ 4096 := by
        rcases Nat.lt_or_ge 4096 l.length with h | h
        · rw [roomErr_long l h] at hre; simp at hre
        · exact h
      have HE : Hid (codesErr l = 0) := Lib.hid (by unfold codesErr; rw [if_pos hre, if_neg hro])
      have HR : Hid (roomAns l = roomOf l) := Lib.hid (by unfold roomAns; rw [if_pos hre])
      have HRE := Lib.hid hre; clear hre
      have HG := Lib.hid hg; clear hg
      have d1 : decide (roomOf l < 0) = false := by simp; omega
      have hro0 : 0 ≤ roomOf l := by omega
      have hbd := endN_bd l hro0
      go_enter Try.func15, Try.ntmps15
      go_wp2_with fail
      refine (refRoom_any A c l _ w hbs hm).mono ?_
      rw [HR.out, HRE.out]
      rintro e w1 ⟨rfl, rfl⟩
      have HBD := Lib.hid hbd; clear hbd
      go_wp2_with (at_make; refine wpList_make_full _ rfl (.tmp 21) (.tmp 21) 30 rfl w.heap.size 35 i0 (.int .u32 0) 1 Try.underlying30 hi hz0 hz1 .i64 .i64 l.length l.length l.length rfl rfl rfl rfl (by rw [hz2]; omega) hm (Nat.le_refl _) ?_; intro w1 hown1 hg1; rw [make_u32] at hown1; have hb1 := (Below.refl w.heap.size w).grown hg1 (Nat.le_refl _) (by simp))
      have HO1 := Lib.hid hown1; clear hown1 hg1
      have HB1 := Lib.hid hb1; clear hb1
      go_loopw [7, 8] (fun x n wr => ∃ m : Nat, m ≤ 16 ∧ n = .int .i64 ((m + 1 : Nat) : Int) ∧ x = .int .u32 ((endN l m : Nat) : Int) ∧ CodesAt w l (m + 1) 0 wr) (fun _ n _ => 17 - (intOf n).toNat)
      case atStart => exact ⟨0, by omega, rfl, rfl, by rw [partCodes_start]; exact HO1.out, HB1.out⟩
      case round =>
        obtain ⟨m, hm16, rfl, rfl, hO, hB⟩ := hrel
        have HO := Lib.hid hO; clear hO
        have HB := Lib.hid hB; clear hB
        have b1 : endN l m ≤ 65536 := HBD.out m (by omega)
        have e1 : (((m + 1 : Nat) : Int)) = (m : Int) + 1 := by omega
        rw [e1]
        by_cases hmt : m < 16
        · have d2 : decide ((m : Int) + 1 ≤ 16) = true := by simp; omega
          have HBN : Hid (2 * endN l m + cntN l (m + 1) ≤ 65536) := Lib.hid (HBD.out (m + 1) (by omega))
          clear e1
          go_wp2_with fail
          obtain ⟨wo, hwo⟩ : ∃ wo : World, wo = wr := ⟨_, rfl⟩
          subst hwo
          go_loopw [7, 9] (fun x i wr => ∃ k : Nat, k ≤ l.length ∧ i = .int .i64 k ∧ x = .int .u32 ((2 * endN l m + rank l (m + 1) k : Nat) : Int) ∧ CodesAt w l (m + 1) k wr) (fun _ i _ => l.length - (intOf i).toNat)
          case atStart => exact ⟨0, by omega, rfl, by rw [rank_zero]; simp, HO.out, HB.out⟩
          case round =>
            obtain ⟨k, hk, rfl, rfl, hO2, hB2⟩ := hrel
            have HO2 := Lib.hid hO2; clear hO2
            have HB2 := Lib.hid hB2; clear hB2
            have hrk := rank_le l (m + 1) k
            by_cases hlt : k < l.length
            · obtain ⟨ad, rfl, _, hcb⟩ := Is.at_ (Vs.below hbs HB2.out) hlt
              have HRS := Lib.hid (rank_succ l (m + 1) k hlt)
              have HSK := Lib.hid (partCodes_skip l (m + 1) k hlt)
              have HST := Lib.hid (partCodes_set l m k hlt)
              have hlo : wr.frozen? ⟨w.heap.size, k, none⟩ = false := HO2.out.frozenAt k
              obtain ⟨v0, hce⟩ : ∃ v0, wr.cell? ⟨w.heap.size, k, none⟩ = some v0 := by
                have h1 := HO2.out.cellAt k (by omega)
                rw [List.getElem?_eq_getElem (by rw [u32V_length, partCodes_length]; exact hlt)] at h1
                exact ⟨_, h1⟩
              have hyv : 2 * endN l m + rank l (m + 1) k ≤ 65536 := by have := HBN.out; omega
              generalize l[k] = x at *
              generalize hy : 2 * endN l m + rank l (m + 1) k = y at *
              have HY := Lib.hid hy; clear hy
              by_cases hx : x = ((m + 1 : Nat) : Int)
              · have d3 : (x == (m : Int) + 1) = true := by rw [beq_iff_eq]; omega
                have HX := Lib.hid hx; clear hx
                go_wp2_with fail
                go_roundw
                case rel =>
                  refine ⟨k + 1, by omega, by go_num, ?_, ?_, HB2.out.setCell (by simp) _⟩
                  · rw [HRS.out, if_pos HX.out, ← Nat.add_assoc, HY.out]; go_num
                  · rw [← HST.out HX.out, ← u32V_set]
                    exact (HO2.out.stored k _).1
                case measure => simp [intOf]; omega
              · have d3 : (x == (m : Int) + 1) = false := by rw [beq_eq_false_iff_ne]; omega
                have HX := Lib.hid hx; clear hx
                go_wp2_with fail
                go_roundw
                case rel => exact ⟨k + 1, by omega, by go_num, by rw [HRS.out, if_neg HX.out, Nat.add_zero, HY.out], by rw [HSK.out HX.out]; exact HO2.out, HB2.out⟩
                case measure => simp [intOf]; omega
            · have hkn : k = l.length := by omega
              subst hkn
              have HEN : Hid (2 * endN l m + rank l (m + 1) l.length = endN l (m + 1)) := Lib.hid (by rw [rank_all]; rfl)
              go_wp2_with fail
              go_roundw
              case rel => exact ⟨m + 1, by omega, by go_num, by rw [HEN.out], by rw [← partCodes_end]; exact HO2.out, HB2.out⟩
              case measure => simp [intOf]; omega
        · obtain rfl : m = 16 := by omega
          have HFIN : Hid (CodesRes w l (.returned (.tuple #[.slice (some ⟨w.heap.size, 0, none⟩) l.length l.length, .int .i64 0])) wr) := Lib.hid (by
            refine ⟨_, _, _, by rw [HE.out], ?_, HB.out⟩
            unfold codesAns
            rw [HE.out, if_pos rfl, ← partCodes_all l HG.out]
            exact HO.out)
          go_wp2_with fail
          go_ret2
          exact HFIN.out
  · have HE : Hid (codesErr l = roomErr l) := Lib.hid (by unfold codesErr; rw [if_neg hre])
    have d1 : (roomErr l != 0) = true := by simpa using hre
    have HX := Lib.hid (CodesRes.err (w := w) HE.out hre)
    have HRM := Lib.hid (refRoom_any A c l _ w hbs hm)
    generalize roomErr l = x at *
    go_enter Try.func15, Try.ntmps15
    go_wp2_with fail
    refine HRM.out.mono ?_
    rintro e w1 ⟨rfl, rfl⟩
    go_wp2_with fail
    go_ret2
    exact HX.out
end Go.Proofs.Ytpolbnobnilfcaa
