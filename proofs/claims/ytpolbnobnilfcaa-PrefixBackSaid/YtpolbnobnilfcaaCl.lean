/- The walk of layer 3's first statement, over whatever contracts the program's Room and Codes and the trial are shown to keep. -/
import Derived.Test.YtpolbnobnilfcaaOi
import Derived.Test.YtpolbnobnilfcaaRc
namespace Go.Proofs.Ytpolbnobnilfcaa
open Go.ChangeShapes Go.WideShapes Go.ChangeAt Go.RowKit

/-- What is asked of the program's Room: the document's answer. -/
def RoomKeeps : Prop := ∀ (A : Option Addr) (c n : Nat) (l : List Int) (B : Nat) (w : World), l.length = n → Is w B A l → n ≤ 17592186044416 → B ≤ w.heap.size →
  Calls Try.prog 11 #[.slice A n c] w fun e w' => e = .returned (.tuple #[.int .i64 (roomAns l), .int .i64 (roomErr l)]) ∧ Below w.heap.size w w'
/-- What is asked of the program's Codes: the document's answer, in new memory. -/
def CodesKeeps : Prop := ∀ (A : Option Addr) (c n : Nat) (l : List Int) (w : World), l.length = n → Is w w.heap.size A l → n ≤ 17592186044416 → Calls Try.prog 14 #[.slice A n c] w (CodesRes w l)
/-- What is asked of the trial that each statement begins with. -/
def WakesKeeps : Prop := ∀ w : World, Calls Try.prog 10 #[] w fun e w' => e = .returned (.bool true) ∧ Below w.heap.size w w'
theorem u32V_get (l : List Nat) (k : Nat) (h : k < l.length) : (u32V l)[k]? = some (.int .u32 ((l[k] : Nat) : Int)) := by simp [u32V, h]
theorem u32_at {w : World} {B : Nat} {A : Option Addr} {l : List Nat} (h : Vs w B A (u32V l)) (k : Nat) (hk : k < l.length) : ∃ ad, A = some ad ∧ w.cell? (ad.add k) = some (.int .u32 ((l[k] : Nat) : Int)) := by
  obtain ⟨ad, e, _, hc⟩ := Vs.at_ (k := k) h (by rw [u32V_length]; exact hk)
  refine ⟨ad, e, ?_⟩
  rw [hc]
  have := u32V_get l k hk
  rw [List.getElem?_eq_getElem (by rw [u32V_length]; exact hk)] at this
  exact this

set_option maxHeartbeats 2000000 in
set_option maxRecDepth 100000 in
theorem prefixCodes_walk (hwk : WakesKeeps) (hro : RoomKeeps) (hco : CodesKeeps) (A : Option Addr) (c : Nat) (l : List Int) (w : World) (hbs : Is w w.heap.size A l) (hl : l.length ≤ 17592186043904) :
    Calls Try.prog 3 #[.slice A l.length c] w fun e w' => e = .returned (.bool true) ∧ Below w.heap.size w w' := by
  have HWK := Lib.hid hwk; clear hwk
  have HRO := Lib.hid hro; clear hro
  have HCO := Lib.hid hco; clear hco
  have hm : l.length ≤ maxLen := by unfold maxLen; omega
  go_enter Try.func3, Try.ntmps3
  go_wp2_with fail
  refine (HWK.out w).mono ?_
  rintro e w1 ⟨rfl, hb1⟩
  go_wp2_with fail
  refine (ownI_n A c l.length l rfl _ w1 (Vs.below hbs hb1) hb1.size (by omega)).mono ?_
  rintro e w2 ⟨A2, c2, rfl, o2, hb2⟩
  have k2 := hb1.trans (hb2.mono hb1.size)
  go_wp2_with fail
  refine (HRO.out A2 c2 l.length l _ w2 rfl (Vs.of_own o2) (by omega) (Nat.le_refl _)).mono ?_
  rintro e w3 ⟨rfl, hb3⟩
  have k3 := k2.trans (hb3.mono k2.size)
  go_wp2_with fail
  refine (refRoom_any A c l w.heap.size w3 (Vs.below hbs k3) hm).mono ?_
  rintro e w4 ⟨rfl, hw4⟩
  obtain rfl := hw4
  go_wp2_with fail
  refine (ownI_n A c l.length l rfl _ w3 (Vs.below hbs k3) k3.size (by omega)).mono ?_
  rintro e w5 ⟨A5, c5, rfl, o5, hb5⟩
  have k5 := k3.trans (hb5.mono k3.size)
  go_wp2_with fail
  refine (HCO.out A5 c5 l.length l w5 rfl (Vs.of_own o5) (by omega)).mono ?_
  rintro e w6 ⟨A6, n6, c6, rfl, o6, hb6⟩
  have k6 := k5.trans (hb6.mono k5.size)
  go_wp2_with fail
  refine (refCodes_any A c l w6 (Vs.more (Vs.below hbs k6) k6.size) (by omega)).mono ?_
  rintro e w7 ⟨A7, n7, c7, rfl, o7, hb7⟩
  have k7 := k6.trans (hb7.mono k6.size)
  have hn6 := own_len o6
  have hn7 := own_len o7
  rw [u32V_length] at hn6 hn7
  subst hn6
  subst hn7
  have v6 : Vs w7 w6.heap.size A6 (u32V (codesAns l)) := Vs.below (Vs.of_own o6) hb7
  have v7 : Vs w7 w7.heap.size A7 (u32V (codesAns l)) := Vs.of_own o7
  have K7 := Lib.hid k7
  clear hb1 hb2 hb3 hb5 hb6 hb7 k2 k3 k5 k6 k7 o2 o5 o6 o7
  have hlc : (codesAns l).length ≤ 17592186043904 := by
    unfold codesAns
    split
    · rw [codesL_length]; omega
    · simp
  generalize codesAns l = C at *
  go_wp2_with fail
  go_loopw [58] (fun i wr => ∃ k : Nat, k ≤ C.length ∧ i = .int .i64 k ∧ ∃ n, wr = w7.drewN n) (fun i _ => C.length - (intOf i).toNat)
  case atStart => exact ⟨0, by omega, rfl, 0, rfl⟩
  case round =>
    obtain ⟨k, hk, rfl, n, rfl⟩ := hrel
    by_cases hlt : k < C.length
    · obtain ⟨ad1, rfl, hc1⟩ := u32_at v6 k hlt
      obtain ⟨ad2, rfl, hc2⟩ := u32_at v7 k hlt
      generalize C[k] = x at *
      have d1 : ((x : Int) != (x : Int)) = false := by simp
      go_wp2_with fail
      go_quiet (fail)
      go_wp2_with fail
      go_roundw
      case rel => exact ⟨k + 1, by omega, by go_num, n + nq, rfl⟩
      case measure => simp [intOf]; omega
    · go_wp2_with fail
      go_ret
      exact ⟨rfl, below_drewN K7.out n⟩
end Go.Proofs.Ytpolbnobnilfcaa
