/- Contracts: the library's rotation of a row, and its sort by insertion. -/
import Derived.Test.YtpolbnobnilfcaaStb
namespace Go.Proofs.Ytpolbnobnilfcaa
open Go.ChangeShapes Go.WideShapes Go.ChangeAt Go.RowKit

set_option maxHeartbeats 1000000 in
set_option maxRecDepth 100000 in
theorem rotate_any (w : World) (base g N c : Nat) (l : List Int) (a m b : Nat) (x y z : Int) (f : Value) (hx : x = a) (hy : y = m) (hz : z = b) (h : Row w base g N c l) (ham : a < m) (hmb : m < b) (hbN : b ≤ N) (hN : N ≤ 1048576) :
    Calls Try.prog 61 #[.slice (some ⟨g, 0, none⟩) N c, .int .i64 x, .int .i64 y, .int .i64 z, f] w fun e w' => e = .returned (.tuple #[]) ∧ ∃ l', Row w' base g N c l' ∧ OnG g w w' ∧ Re l l' a b ∧ ∀ p, itm l' p = rotv l a m b p := by
  subst hx hy hz
  go_enter Try.func61, Try.ntmps61
  go_wp2_with fail
  go_loopw [10, 11] (fun i j wr => ∃ s t : Nat, 0 < s ∧ 0 < t ∧ s ≤ m - a ∧ t ≤ b - m ∧ i = .int .i64 (s : Int) ∧ j = .int .i64 (t : Int) ∧ ∃ l', Row wr base g N c l' ∧ OnG g w wr ∧ l'.Perm l ∧ Hid (∀ p, rotv l' (m - s) m (m + t) p = rotv l a m b p)) (fun i j _ => (intOf i).toNat + (intOf j).toNat)
  case atStart =>
    refine ⟨m - a, b - m, by omega, by omega, Nat.le_refl _, Nat.le_refl _, ?_, ?_, l, h, OnG.refl _ _, List.Perm.refl _, Lib.hid ?_⟩
    · congr 1; omega
    · congr 1; omega
    · rw [show m - (m - a) = a from by omega, show m + (b - m) = b from by omega]
      exact fun _ => rfl
  case round =>
    obtain ⟨s, t, hs, ht, hsm, htb, rfl, rfl, l', hR, hU, hP, hV⟩ := hrel
    by_cases he : s = t
    · subst he
      go_wp2_with fail
      refine (swapRange_n _ base g N c l' (m - s) m s _ _ _ _ (by omega) (by omega) (by omega) hR (by omega) (by omega) hN).mono ?_
      rintro e w1 ⟨rfl, l1, hR1, hU1, hP1, hV1⟩
      have hfin : ∀ p, itm l1 p = rotv l a m b p := fun p => (rot_last (by omega) hV1 p).trans (hV.out p)
      have HF := Lib.hid hfin; clear hfin hV1
      go_wp2_with fail
      go_end0
      exact ⟨rfl, l1, hR1, hU.trans hU1, re_rot (hP1.trans hP) HF.out (by omega) (by omega), HF.out⟩
    · by_cases hst : t < s
      · have d1 : decide ((t : Int) < s) = true := by simp; omega
        go_wp2_with fail
        refine (swapRange_n _ base g N c l' (m - s) m t _ _ _ _ (by omega) (by omega) (by omega) hR (by omega) (by omega) hN).mono ?_
        rintro e w1 ⟨rfl, l1, hR1, hU1, hP1, hV1⟩
        have HF := Lib.hid (fun p => (rot_more (by omega) hst hV1 p).trans (hV.out p)); clear hV1
        go_wp2_with fail
        go_roundw
        case rel => exact ⟨s - t, t, by omega, ht, by omega, htb, by congr 1; omega, rfl, l1, hR1, hU.trans hU1, hP1.trans hP, HF⟩
        case measure => simp [intOf]; omega
      · have d1 : decide ((t : Int) < s) = false := by simp; omega
        go_wp2_with fail
        refine (swapRange_n _ base g N c l' (m - s) (m + t - s) s _ _ _ _ (by omega) (by omega) (by omega) hR (by omega) (by omega) hN).mono ?_
        rintro e w1 ⟨rfl, l1, hR1, hU1, hP1, hV1⟩
        have HF := Lib.hid (fun p => (rot_less (by omega) (by omega) hV1 p).trans (hV.out p)); clear hV1
        go_wp2_with fail
        go_roundw
        case rel => exact ⟨s, t - s, hs, by omega, hsm, by omega, rfl, by congr 1; omega, l1, hR1, hU.trans hU1, hP1.trans hP, HF⟩
        case measure => simp [intOf]; omega

theorem stIns_step' {key : Int → Int} {l : List Int} {a j i : Nat} (h : StIns key l a j i) (ha : a < j) (hi : j ≤ i) (hl : i < l.length) (hlt : key (itm l j) < key (itm l (j - 1))) : StIns key (swp l j (j - 1)) a (j - 1) i := by
  obtain ⟨t, rfl⟩ : ∃ t, j = t + 1 := ⟨j - 1, by omega⟩
  rw [Nat.add_sub_cancel] at hlt ⊢
  exact stIns_step h (by omega) hi hl hlt
/-- Every number of the row is a symbol. -/
def Syms (l : List Int) (n : Nat) : Prop := ∀ x ∈ l, 0 ≤ x ∧ x < (n : Int)
theorem Syms.at_ {l : List Int} {n : Nat} (h : Syms l n) (k : Nat) (hk : k < l.length) : 0 ≤ itm l k ∧ itm l k < (n : Int) := by
  rw [itm_get l k hk]
  exact h _ (List.getElem_mem hk)
theorem Syms.perm {l l' : List Int} {n : Nat} (h : Syms l n) (hp : l'.Perm l) : Syms l' n := fun x hx => h x (hp.subset hx)
def cmpF (Bc : Nat) : Value := .func (.func 51) #[] #[.pointer (some ⟨Bc, 0, none⟩)]

set_option maxHeartbeats 2000000 in
set_option maxRecDepth 100000 in
theorem insertion_any (w : World) (base g N c Bc : Nat) (A : Option Addr) (n cc : Nat) (cs l : List Int) (a b : Nat) (x y : Int) (hx : x = a) (hy : y = b) (h : Row w base g N c l) (hC : Ctx w g Bc A n cc cs) (hS : Syms l n) (hab : a ≤ b) (hbN : b ≤ N) (hN : N ≤ 1048576) :
    Calls Try.prog 59 #[.slice (some ⟨g, 0, none⟩) N c, .int .i64 x, .int .i64 y, cmpF Bc] w fun e w' => e = .returned (.tuple #[]) ∧ ∃ l', Row w' base g N c l' ∧ OnG g w w' ∧ Re l l' a b ∧ Srt (cnt cs) l' a b := by
  subst hx hy
  unfold cmpF
  go_enter Try.func59, Try.ntmps59
  go_wp2_with fail
  go_loopw [8] (fun i wr => ∃ s : Nat, a + 1 ≤ s ∧ (s ≤ b ∨ s = a + 1) ∧ i = .int .i64 (s : Int) ∧ ∃ l', Row wr base g N c l' ∧ OnG g w wr ∧ Hid (Re l l' a b) ∧ Hid (Srt (cnt cs) l' a s)) (fun i _ => b - (intOf i).toNat)
  case atStart => exact ⟨a + 1, by omega, .inr rfl, by go_num, l, h, OnG.refl _ _, Lib.hid (Re.refl _ _ _), Lib.hid (Srt.none (by omega))⟩
  case round =>
    obtain ⟨s, hs, hsb, rfl, l', hR, hU, hRe, hSr⟩ := hrel
    by_cases hlt : s < b
    · clear hsb
      go_wp2_with fail
      obtain ⟨wo, hwo⟩ : ∃ wo : World, wo = wr := ⟨_, rfl⟩
      subst hwo
      go_loopw [9] (fun j wr => ∃ t : Nat, a ≤ t ∧ t ≤ s ∧ j = .int .i64 (t : Int) ∧ ∃ l', Row wr base g N c l' ∧ OnG g w wr ∧ Hid (Re l l' a b) ∧ Hid (StIns (cnt cs) l' a t s)) (fun j _ => (intOf j).toNat)
      case atStart => exact ⟨s, by omega, Nat.le_refl _, rfl, l', hR, hU, hRe, Lib.hid (stIns_start hSr.out)⟩
      case round =>
        clear hR hU hRe hSr l'
        obtain ⟨t, hat, hts, rfl, l', hR, hU, hRe, hI⟩ := hrel
        by_cases hta : a < t
        · have d1 : decide ((a : Int) < t) = true := by simp; omega
          have hca := hR.cell (k := t) (by omega)
          have hcb := hR.cell (k := t - 1) (by omega)
          have hfa := hR.free t
          have hfb := hR.free (t - 1)
          have HL := Lib.hid hR.len
          have HR := Lib.hid hR; clear hR
          have HC := Lib.hid (hC.on hU)
          have HX := Lib.hid ((hS.perm hRe.out.perm).at_ t (by have := HL.out; omega))
          have HY := Lib.hid ((hS.perm hRe.out.perm).at_ (t - 1) (by have := HL.out; omega))
          have eb : IntKind.i64.wrap ((t : Int) - 1) = (t : Int) - 1 := IntWalk.i64_in _ (by omega)
          have nb : ((t : Int) - 1).toNat = t - 1 := by omega
          have i1 : (0 : Int) ≤ (t : Int) - 1 := by omega
          have i2 : (t : Int) - 1 < N := by omega
          have i4 : (t : Int) < N := by omega
          by_cases hk : cnt cs (itm l' t) < cnt cs (itm l' (t - 1))
          · have HK := Lib.hid hk
            have d2 : decide (cmpI (cnt cs (itm l' t)) (cnt cs (itm l' (t - 1))) < 0) = true := by rw [cmpI_lt hk]; rfl
            clear hk
            go_wp2_with fail
            go_quiet ((go_at_call 51; exact Calls.quiet_of (cmp_any _ g Bc A n cc cs (HC.out.drewN _) _ _ HX.out HY.out)))
            go_wp2_with fail
            go_region
            all_goals
              go_wp2_with fail
              go_roundw
              case rel => exact ⟨t - 1, by omega, by omega, by congr 1; omega, swp l' t (t - 1), HR.out.swap _ _, ((hU.drewN _).set_ _ _).set_ _ _, Lib.hid (hRe.out.trans (re_swp l' t (t - 1) a b (by omega) (by omega) (by have := HL.out; omega))), Lib.hid (stIns_step' hI.out hta hts (by have := HL.out; omega) HK.out)⟩
              case measure => simp [intOf]; omega
          · have HK := Lib.hid hk
            have d2 : decide (cmpI (cnt cs (itm l' t)) (cnt cs (itm l' (t - 1))) < 0) = false := by have := cmpI_ge hk; simp; omega
            clear hk
            go_wp2_with fail
            go_quiet ((go_at_call 51; exact Calls.quiet_of (cmp_any _ g Bc A n cc cs (HC.out.drewN _) _ _ HX.out HY.out)))
            go_wp2_with fail
            go_roundw
            case rel => exact ⟨s + 1, by omega, .inl (by omega), by go_num, l', HR.out, hU.drewN _, hRe, Lib.hid (stIns_stop hI.out (.inr (by have := HK.out; omega)))⟩
            case measure => simp [intOf]; omega
        · obtain rfl : t = a := by omega
          have d1 : decide ((t : Int) < t) = false := by simp
          go_wp2_with fail
          go_quiet (fail)
          go_wp2_with fail
          go_roundw
          case rel => exact ⟨s + 1, by omega, .inl (by omega), by go_num, l', hR, hU.drewN _, hRe, Lib.hid (stIns_stop hI.out (.inl rfl))⟩
          case measure => simp [intOf]; omega
    · go_wp2_with fail
      go_end0
      exact ⟨rfl, l', hR, hU, hRe.out, hSr.out.sub (Nat.le_refl _) (by omega)⟩
end Go.Proofs.Ytpolbnobnilfcaa
