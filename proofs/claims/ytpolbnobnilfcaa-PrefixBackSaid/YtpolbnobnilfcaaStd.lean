/- Contracts: the library's merge in place where one of the two pieces is one number. -/
import Derived.Test.YtpolbnobnilfcaaStc
namespace Go.Proofs.Ytpolbnobnilfcaa
open Go.ChangeShapes Go.WideShapes Go.ChangeAt Go.RowKit

/-- What a merge in place answers. -/
def MrgRes (w : World) (base g N c : Nat) (cs l : List Int) (a b : Nat) (e : Ending) (w' : World) : Prop :=
  e = .returned (.tuple #[]) ∧ ∃ l', Row w' base g N c l' ∧ OnG g w w' ∧ Mrg (cnt cs) a b l l'
theorem half (s r : Nat) (h : s < r) : ∃ m : Nat, ((s : Int) + r) / 2 = m ∧ s ≤ m ∧ m < r := ⟨(s + r) / 2, by omega, by omega, by omega⟩
/-- Numbers that are all on one side of x, ahead of a place that is on that side, too. -/
theorem below_to {key : Int → Int} {l : List Int} {m b s r h : Nat} {x : Int} (hs : Srt key l m b) (h1 : ∀ p, m ≤ p → p < s → key (itm l p) < x) (hr : h < r) (hrb : r ≤ b) (hk : key (itm l h) < x) : ∀ p, m ≤ p → p < h + 1 → key (itm l p) < x := fun p a1 a2 => by
  by_cases c : p < s
  · exact h1 p a1 c
  · have := hs p h (by omega) (by omega) (by omega)
    omega
theorem below_to' {key : Int → Int} {l : List Int} {m b s r h : Nat} {x : Int} (hs : Srt key l m b) (h1 : ∀ p, m ≤ p → p < s → key (itm l p) ≤ x) (hr : h < r) (hrb : r ≤ b) (hk : key (itm l h) ≤ x) : ∀ p, m ≤ p → p < h + 1 → key (itm l p) ≤ x := fun p a1 a2 => by
  by_cases c : p < s
  · exact h1 p a1 c
  · have := hs p h (by omega) (by omega) (by omega)
    omega
theorem above_from {key : Int → Int} {l : List Int} {m b s r h : Nat} {x : Int} (hs : Srt key l m b) (h1 : ∀ p, r ≤ p → p < b → x ≤ key (itm l p)) (hms : m ≤ s) (hsh : s ≤ h) (hk : x ≤ key (itm l h)) : ∀ p, h ≤ p → p < b → x ≤ key (itm l p) := fun p a1 a2 => by
  by_cases c : r ≤ p
  · exact h1 p c a2
  · have := hs h p (by omega) (by omega) (by omega)
    omega
theorem above_from' {key : Int → Int} {l : List Int} {m b s r h : Nat} {x : Int} (hs : Srt key l m b) (h1 : ∀ p, r ≤ p → p < b → x < key (itm l p)) (hms : m ≤ s) (hsh : s ≤ h) (hk : x < key (itm l h)) : ∀ p, h ≤ p → p < b → x < key (itm l p) := fun p a1 a2 => by
  by_cases c : r ≤ p
  · exact h1 p c a2
  · have := hs h p (by omega) (by omega) (by omega)
    omega

set_option maxHeartbeats 2000000 in
set_option maxRecDepth 100000 in
theorem symOne_any (w : World) (base g N c Bc : Nat) (A : Option Addr) (n cc : Nat) (cs l : List Int) (a m b : Nat) (x y z : Int) (hx : x = a) (hy : y = m) (hz : z = b) (h : Row w base g N c l) (hC : Ctx w g Bc A n cc cs) (hS : Syms l n)
    (ham : m = a + 1) (hmb : m < b) (hbN : b ≤ N) (hN : N ≤ 1048576) (hs : Srt (cnt cs) l m b) :
    Calls Try.prog 60 #[.slice (some ⟨g, 0, none⟩) N c, .int .i64 x, .int .i64 y, .int .i64 z, cmpF Bc] w (MrgRes w base g N c cs l a b) := by
  subst hx hy hz
  have hm1 : a + 1 ≤ m := by omega
  have hm2 : m ≤ a + 1 := by omega
  have HM := Lib.hid ham; clear ham
  have HS := Lib.hid hs; clear hs
  unfold cmpF
  have HL := Lib.hid h.len
  have HX := Lib.hid (hS.at_ a (by have := HL.out; omega))
  have d1 : ((m : Int) - a == 1) = true := by rw [beq_iff_eq]; omega
  have i0 : (a : Int) < N := by omega
  go_enter Try.func60, Try.ntmps60
  go_wp2_with fail
  go_loopw [10, 11] (fun i j wr => ∃ s r : Nat, m ≤ s ∧ s ≤ r ∧ r ≤ b ∧ i = .int .i64 (s : Int) ∧ j = .int .i64 (r : Int) ∧ Row wr base g N c l ∧ OnG g w wr ∧ Hid (∀ p, m ≤ p → p < s → cnt cs (itm l p) < cnt cs (itm l a)) ∧ Hid (∀ p, r ≤ p → p < b → cnt cs (itm l a) ≤ cnt cs (itm l p))) (fun i j _ => (intOf j).toNat - (intOf i).toNat)
  case atStart => exact ⟨m, b, Nat.le_refl _, by omega, Nat.le_refl _, rfl, rfl, h, OnG.refl _ _, Lib.hid (fun p _ _ => by omega), Lib.hid (fun p _ _ => by omega)⟩
  case round =>
    obtain ⟨s, r, has, hsr, hrb, rfl, rfl, hR, hU, H1, H2⟩ := hrel
    by_cases hlt : s < r
    · obtain ⟨t, eh, hst, htr⟩ := half s r hlt
      have hca := hR.cell (k := a) (by omega)
      have hcb := hR.cell (k := t) (by omega)
      have HR := Lib.hid hR; clear hR
      have HC := Lib.hid (hC.on hU)
      have HY := Lib.hid (hS.at_ t (by have := HL.out; omega))
      have i4 : (t : Int) < N := by omega
      by_cases hk : cnt cs (itm l t) < cnt cs (itm l a)
      · have HK := Lib.hid hk
        have d2 : decide (cmpI (cnt cs (itm l t)) (cnt cs (itm l a)) < 0) = true := by rw [cmpI_lt hk]; rfl
        clear hk
        go_wp2_with fail
        go_quiet ((go_at_call 51; exact Calls.quiet_of (cmp_any _ g Bc A n cc cs (HC.out.drewN _) _ _ HY.out HX.out)))
        go_wp2_with fail
        go_roundw
        case rel => exact ⟨t + 1, r, by omega, by omega, hrb, by go_num, rfl, HR.out, hU.drewN _, Lib.hid (below_to HS.out H1.out htr hrb HK.out), H2⟩
        case measure => simp [intOf]; omega
      · have HK := Lib.hid hk
        have d2 : decide (cmpI (cnt cs (itm l t)) (cnt cs (itm l a)) < 0) = false := by have := cmpI_ge hk; simp; omega
        clear hk
        go_wp2_with fail
        go_quiet ((go_at_call 51; exact Calls.quiet_of (cmp_any _ g Bc A n cc cs (HC.out.drewN _) _ _ HY.out HX.out)))
        go_wp2_with fail
        go_roundw
        case rel => exact ⟨s, t, has, hst, by omega, rfl, rfl, HR.out, hU.drewN _, H1, Lib.hid (above_from HS.out H2.out has hst (by have := HK.out; omega))⟩
        case measure => simp [intOf]; omega
    · obtain rfl : s = r := by omega
      go_wp2_with fail
      obtain ⟨wo, hwo⟩ : ∃ wo : World, wo = wr := ⟨_, rfl⟩
      subst hwo
      have e1 : IntKind.i64.wrap ((s : Int) - 1) = (s : Int) - 1 := IntWalk.i64_in _ (by omega)
      go_loopw [13] (fun i wr => ∃ k : Nat, a ≤ k ∧ k < s ∧ i = .int .i64 (k : Int) ∧ ∃ l', Row wr base g N c l' ∧ OnG g w wr ∧ Hid (Re l l' a b) ∧ Hid (Up1 l l' a k)) (fun i _ => s - (intOf i).toNat)
      case atStart => exact ⟨a, Nat.le_refl _, by omega, rfl, l, hR, hU, Lib.hid (Re.refl _ _ _), Lib.hid (up1_start l a)⟩
      case round =>
        clear hR hU
        obtain ⟨k, hak, hks, rfl, l', hR, hU, hRe, hUp⟩ := hrel
        by_cases hlt2 : k + 1 < s
        · have d2 : decide ((k : Int) < (s : Int) - 1) = true := by simp; omega
          have hca := hR.cell (k := k) (by omega)
          have hcb := hR.cell (k := k + 1) (by omega)
          have hfa := hR.free k
          have hfb := hR.free (k + 1)
          have HL2 := Lib.hid hR.len
          have HR := Lib.hid hR; clear hR
          have eb : IntKind.i64.wrap ((k : Int) + 1) = (k : Int) + 1 := IntWalk.i64_in _ (by omega)
          have nb : ((k : Int) + 1).toNat = k + 1 := by omega
          have i1 : (0 : Int) ≤ (k : Int) + 1 := by omega
          have i2 : (k : Int) + 1 < N := by omega
          have i4 : (k : Int) < N := by omega
          go_wp2_with fail
          go_region
          all_goals
            go_wp2_with fail
            go_roundw
            case rel => exact ⟨k + 1, by omega, hlt2, by go_num, swp l' k (k + 1), HR.out.swap _ _, ((hU.set_ _ _).set_ _ _).drew, Lib.hid (hRe.out.trans (re_swp l' k (k + 1) a b (by omega) (by omega) (by have := HL2.out; omega))), Lib.hid (up1_step hUp.out (by have := HL2.out; omega) hak)⟩
            case measure => simp [intOf]; omega
        · have HSK : Hid (s = k + 1) := Lib.hid (by omega)
          have d2 : decide ((k : Int) < (s : Int) - 1) = false := by simp; omega
          go_wp2_with fail
          go_end0
          have hm := HM.out
          have hsk := HSK.out
          subst hsk
          exact ⟨rfl, l', hR, hU, mrg_up hUp.out hRe.out (HS.out.sub (by omega) (Nat.le_refl _)) hak (by omega) (fun p h1 h2 => H1.out p (by omega) (by omega)) H2.out⟩

set_option maxHeartbeats 2000000 in
set_option maxRecDepth 100000 in
theorem symLast_any (w : World) (base g N c Bc : Nat) (A : Option Addr) (n cc : Nat) (cs l : List Int) (a m b : Nat) (x y z : Int) (hx : x = a) (hy : y = m) (hz : z = b) (h : Row w base g N c l) (hC : Ctx w g Bc A n cc cs) (hS : Syms l n)
    (ham : a < m) (hne : m ≠ a + 1) (hmb : b = m + 1) (hbN : b ≤ N) (hN : N ≤ 1048576) (hs : Srt (cnt cs) l a m) :
    Calls Try.prog 60 #[.slice (some ⟨g, 0, none⟩) N c, .int .i64 x, .int .i64 y, .int .i64 z, cmpF Bc] w (MrgRes w base g N c cs l a b) := by
  subst hx hy hz
  have hb1 : m + 1 ≤ b := by omega
  have hb2 : b ≤ m + 1 := by omega
  have HB := Lib.hid hmb; clear hmb
  have HS := Lib.hid hs; clear hs
  unfold cmpF
  have HL := Lib.hid h.len
  have HX := Lib.hid (hS.at_ m (by have := HL.out; omega))
  have d0 : ((m : Int) - a == 1) = false := by rw [beq_eq_false_iff_ne]; omega
  have d1 : ((b : Int) - m == 1) = true := by rw [beq_iff_eq]; omega
  have i0 : (m : Int) < N := by omega
  go_enter Try.func60, Try.ntmps60
  go_wp2_with fail
  go_loopw [14, 15] (fun i j wr => ∃ s r : Nat, a ≤ s ∧ s ≤ r ∧ r ≤ m ∧ i = .int .i64 (s : Int) ∧ j = .int .i64 (r : Int) ∧ Row wr base g N c l ∧ OnG g w wr ∧ Hid (∀ p, a ≤ p → p < s → cnt cs (itm l p) ≤ cnt cs (itm l m)) ∧ Hid (∀ p, r ≤ p → p < m → cnt cs (itm l m) < cnt cs (itm l p))) (fun i j _ => (intOf j).toNat - (intOf i).toNat)
  case atStart => exact ⟨a, m, Nat.le_refl _, by omega, Nat.le_refl _, rfl, rfl, h, OnG.refl _ _, Lib.hid (fun p _ _ => by omega), Lib.hid (fun p _ _ => by omega)⟩
  case round =>
    obtain ⟨s, r, has, hsr, hrb, rfl, rfl, hR, hU, H1, H2⟩ := hrel
    by_cases hlt : s < r
    · obtain ⟨t, eh, hst, htr⟩ := half s r hlt
      have hca := hR.cell (k := m) (by omega)
      have hcb := hR.cell (k := t) (by omega)
      have HR := Lib.hid hR; clear hR
      have HC := Lib.hid (hC.on hU)
      have HY := Lib.hid (hS.at_ t (by have := HL.out; omega))
      have i4 : (t : Int) < N := by omega
      by_cases hk : cnt cs (itm l m) < cnt cs (itm l t)
      · have HK := Lib.hid hk
        have d2 : decide (cmpI (cnt cs (itm l m)) (cnt cs (itm l t)) < 0) = true := by rw [cmpI_lt hk]; rfl
        clear hk
        go_wp2_with fail
        go_quiet ((go_at_call 51; exact Calls.quiet_of (cmp_any _ g Bc A n cc cs (HC.out.drewN _) _ _ HX.out HY.out)))
        go_wp2_with fail
        go_roundw
        case rel => exact ⟨s, t, has, hst, by omega, rfl, rfl, HR.out, hU.drewN _, H1, Lib.hid (above_from' HS.out H2.out has hst HK.out)⟩
        case measure => simp [intOf]; omega
      · have HK := Lib.hid hk
        have d2 : decide (cmpI (cnt cs (itm l m)) (cnt cs (itm l t)) < 0) = false := by have := cmpI_ge hk; simp; omega
        clear hk
        go_wp2_with fail
        go_quiet ((go_at_call 51; exact Calls.quiet_of (cmp_any _ g Bc A n cc cs (HC.out.drewN _) _ _ HX.out HY.out)))
        go_wp2_with fail
        go_roundw
        case rel => exact ⟨t + 1, r, by omega, by omega, hrb, by go_num, rfl, HR.out, hU.drewN _, Lib.hid (below_to' HS.out H1.out htr hrb (by have := HK.out; omega)), H2⟩
        case measure => simp [intOf]; omega
    · obtain rfl : s = r := by omega
      go_wp2_with fail
      obtain ⟨wo, hwo⟩ : ∃ wo : World, wo = wr := ⟨_, rfl⟩
      subst hwo
      go_loopw [17] (fun i wr => ∃ k : Nat, s ≤ k ∧ k ≤ m ∧ i = .int .i64 (k : Int) ∧ ∃ l', Row wr base g N c l' ∧ OnG g w wr ∧ Hid (Re l l' a b) ∧ Hid (Dn1 l l' k m)) (fun i _ => (intOf i).toNat)
      case atStart => exact ⟨m, by omega, Nat.le_refl _, rfl, l, hR, hU, Lib.hid (Re.refl _ _ _), Lib.hid (dn1_start l m)⟩
      case round =>
        clear hR hU
        obtain ⟨k, hak, hks, rfl, l', hR, hU, hRe, hUp⟩ := hrel
        by_cases hlt2 : s < k
        · obtain ⟨q, rfl⟩ : ∃ q, k = q + 1 := ⟨k - 1, by omega⟩
          have d2 : decide ((s : Int) < ((q + 1 : Nat) : Int)) = true := by simp; omega
          have hca := hR.cell (k := q + 1) (by omega)
          have hcb := hR.cell (k := q) (by omega)
          have hfa := hR.free (q + 1)
          have hfb := hR.free q
          have HL2 := Lib.hid hR.len
          have HR := Lib.hid hR; clear hR
          have eb : IntKind.i64.wrap (((q + 1 : Nat) : Int) - 1) = (q : Int) := by rw [show ((q + 1 : Nat) : Int) - 1 = q from by omega]; exact IntWalk.i64_in _ (by omega)
          have eb2 : ((q + 1 : Nat) : Int) - 1 = (q : Int) := by omega
          have nb : (((q + 1 : Nat) : Int)).toNat = q + 1 := by omega
          have i1 : (0 : Int) ≤ ((q + 1 : Nat) : Int) := by omega
          have i2 : ((q + 1 : Nat) : Int) < N := by omega
          have i4 : (q : Int) < N := by omega
          go_wp2_with fail
          go_region
          all_goals
            go_wp2_with fail
            go_roundw
            case rel => exact ⟨q, by omega, by omega, by go_num, swp l' (q + 1) q, HR.out.swap _ _, ((hU.set_ _ _).set_ _ _).drew, Lib.hid (hRe.out.trans (re_swp l' (q + 1) q a b (by omega) (by omega) (by have := HL2.out; omega))), Lib.hid (dn1_step hUp.out hks (by have := HL2.out; omega))⟩
            case measure => simp [intOf]
        · obtain rfl : k = s := by omega
          go_wp2_with fail
          go_end0
          have hb := HB.out
          subst hb
          exact ⟨rfl, l', hR, hU, mrg_dn hUp.out hRe.out HS.out has hrb H1.out H2.out⟩
end Go.Proofs.Ytpolbnobnilfcaa
