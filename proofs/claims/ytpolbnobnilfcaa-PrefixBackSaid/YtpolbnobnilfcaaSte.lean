/- Contract: the library's merge in place. -/
import Derived.Test.YtpolbnobnilfcaaStd
import Derived.Deep.DeepCutAuto
namespace Go.Proofs.Ytpolbnobnilfcaa
open Go.ChangeShapes Go.WideShapes Go.ChangeAt Go.RowKit

def SymOk (d : Nat) : Prop := ∀ (w : World) (base g N c Bc : Nat) (A : Option Addr) (n cc : Nat) (cs l : List Int) (a m b : Nat) (x y z : Int), x = a → y = m → z = b → Row w base g N c l → Ctx w g Bc A n cc cs → Syms l n →
  a < m → m < b → b ≤ N → N ≤ 1048576 → b - a ≤ d → Srt (cnt cs) l a m → Srt (cnt cs) l m b →
  Calls Try.prog 60 #[.slice (some ⟨g, 0, none⟩) N c, .int .i64 x, .int .i64 y, .int .i64 z, cmpF Bc] w (MrgRes w base g N c cs l a b)
/-- Where the search for the cut begins and ends. -/
def Span (a m b mid lo hi : Nat) : Prop := a ≤ lo ∧ lo ≤ hi ∧ hi ≤ m ∧ hi ≤ mid ∧ mid + m ≤ b + lo ∧ (lo = a ∨ mid + m = b + lo) ∧ (hi = m ∨ hi = mid)
theorem mrg_stay {key : Int → Int} {l : List Int} {a b : Nat} (h : Srt key l a b) : Mrg key a b l l := ⟨Re.refl _ _ _, h⟩

set_option maxHeartbeats 4000000 in
set_option maxRecDepth 100000 in
theorem symMain (d : Nat) (ih : SymOk d) (w : World) (base g N c Bc : Nat) (A : Option Addr) (n cc : Nat) (cs l : List Int) (a m b : Nat) (x y z : Int) (hx : x = a) (hy : y = m) (hz : z = b) (h : Row w base g N c l) (hC : Ctx w g Bc A n cc cs) (hS : Syms l n)
    (ham : a < m) (hmb : m < b) (hne : m ≠ a + 1) (hne2 : b ≠ m + 1) (hbN : b ≤ N) (hN : N ≤ 1048576) (hd : b - a ≤ d + 1) (h1 : Srt (cnt cs) l a m) (h2 : Srt (cnt cs) l m b) :
    Calls Try.prog 60 #[.slice (some ⟨g, 0, none⟩) N c, .int .i64 x, .int .i64 y, .int .i64 z, cmpF Bc] w (MrgRes w base g N c cs l a b) := by
  subst hx hy hz
  have HS1 := Lib.hid h1; clear h1
  have HS2 := Lib.hid h2; clear h2
  have HIH := Lib.hid ih; clear ih
  unfold cmpF
  have HL := Lib.hid h.len
  have HLN : l.length = N := HL.out
  clear HLN
  obtain ⟨mid, emid, hmid1, hmid2⟩ : ∃ mid : Nat, ((a : Int) + b) / 2 = mid ∧ 2 * mid ≤ a + b ∧ a + b ≤ 2 * mid + 1 := ⟨(a + b) / 2, by omega, by omega, by omega⟩
  have d0 : ((m : Int) - a == 1) = false := by rw [beq_eq_false_iff_ne]; omega
  have d1 : ((b : Int) - m == 1) = false := by rw [beq_eq_false_iff_ne]; omega
  go_enter Try.func60, Try.ntmps60
  go_upto_if 140 with fail
  go_cut [20, 21] (fun s20 s21 wx => ∃ lo hi : Nat, s20 = .int .i64 (lo : Int) ∧ s21 = .int .i64 (hi : Int) ∧ Span a m b mid lo hi ∧ w = wx)
  case first => as_aux_lemma =>
    by_cases hmm : mid < m
    · have d2 : decide ((mid : Int) < m) = true := by simp; omega
      go_wp2_with fail
      go_meet
      exact ⟨mid + m - b, mid, by congr 1; omega, rfl, ⟨by omega, by omega, by omega, by omega, by omega, .inr (by omega), .inr rfl⟩, rfl⟩
    · have d2 : decide ((mid : Int) < m) = false := by simp; omega
      go_wp2_with fail
      go_meet
      exact ⟨a, m, rfl, rfl, ⟨by omega, by omega, by omega, by omega, by omega, .inl rfl, .inl rfl⟩, rfl⟩
  case rest => as_aux_lemma =>
    obtain ⟨lo, hi, rfl, rfl, hsp, rfl⟩ := hcut
    obtain ⟨q1, q2, q3, q4, q5, q6, q7⟩ := hsp
    have Q6 := Lib.hid q6; clear q6
    have Q7 := Lib.hid q7; clear q7
    go_wp2_with fail
    go_loopw [20, 21] (fun i j wr => ∃ s r : Nat, lo ≤ s ∧ s ≤ r ∧ r ≤ hi ∧ i = .int .i64 (s : Int) ∧ j = .int .i64 (r : Int) ∧ Row wr base g N c l ∧ OnG g w wr ∧ Hid (Cut (cnt cs) l (mid + m) lo hi s r)) (fun i j _ => (intOf j).toNat - (intOf i).toNat)
    case atStart => exact ⟨lo, hi, Nat.le_refl _, q2, Nat.le_refl _, rfl, rfl, h, OnG.refl _ _, Lib.hid ⟨fun p _ _ => by omega, fun p _ _ => by omega⟩⟩
    case round =>
      obtain ⟨s, r, hls, hsr, hrh, rfl, rfl, hR, hU, H1⟩ := hrel
      by_cases hlt : s < r
      · obtain ⟨t, eh, hst, htr⟩ := half s r hlt
        have hca := hR.cell (k := mid + m - 1 - t) (by omega)
        have hcb := hR.cell (k := t) (by omega)
        have HR := Lib.hid hR; clear hR
        have HC := Lib.hid (hC.on hU)
        have HX := Lib.hid (hS.at_ (mid + m - 1 - t) (by have := HL.out; omega))
        have HY := Lib.hid (hS.at_ t (by have := HL.out; omega))
        have i4 : (t : Int) < N := by omega
        have eb : IntKind.i64.wrap ((mid : Int) + m - 1 - t) = (mid : Int) + m - 1 - t := IntWalk.i64_in _ (by omega)
        have nb : ((mid : Int) + m - 1 - t).toNat = mid + m - 1 - t := by omega
        have i1 : (0 : Int) ≤ (mid : Int) + m - 1 - t := by omega
        have i2 : (mid : Int) + m - 1 - t < N := by omega
        by_cases hk : cnt cs (itm l (mid + m - 1 - t)) < cnt cs (itm l t)
        · have HK := Lib.hid hk
          have d2 : decide (cmpI (cnt cs (itm l (mid + m - 1 - t))) (cnt cs (itm l t)) < 0) = true := by rw [cmpI_lt hk]; rfl
          clear hk
          go_wp2_with fail
          go_quiet ((go_at_call 51; exact Calls.quiet_of (cmp_any _ g Bc A n cc cs (HC.out.drewN _) _ _ HX.out HY.out)))
          go_wp2_with fail
          go_roundw
          case rel => exact ⟨s, t, hls, hst, by omega, rfl, rfl, HR.out, hU.drewN _, Lib.hid (cut_dn H1.out HS1.out HS2.out q1 q3 q5 (by omega) htr hrh (by omega) HK.out)⟩
          case measure => simp [intOf]; omega
        · have HK := Lib.hid hk
          have d2 : decide (cmpI (cnt cs (itm l (mid + m - 1 - t))) (cnt cs (itm l t)) < 0) = false := by have := cmpI_ge hk; simp; omega
          clear hk
          go_wp2_with fail
          go_quiet ((go_at_call 51; exact Calls.quiet_of (cmp_any _ g Bc A n cc cs (HC.out.drewN _) _ _ HX.out HY.out)))
          go_wp2_with fail
          go_roundw
          case rel => exact ⟨t + 1, r, by omega, by omega, hrh, by go_num, rfl, HR.out, hU.drewN _, Lib.hid (cut_up H1.out HS1.out HS2.out q1 q3 q5 (by omega) htr hrh (by have := HK.out; omega))⟩
          case measure => simp [intOf]; omega
      · obtain rfl : s = r := by omega
        obtain ⟨e, ee, he1, he2⟩ : ∃ e : Nat, (mid : Int) + m - s = e ∧ mid + m = e + s ∧ e ≤ b := ⟨mid + m - s, by omega, by omega, by omega⟩
        obtain ⟨B, HB⟩ : ∃ B : Bool, Hid (B = true ↔ (s < m ∧ m < e)) := ⟨decide (s < m ∧ m < e), Lib.hid (by simp)⟩
        go_upto_region 39 with (fail)
        go_cut [185] (fun s185 wx => s185 = .bool B ∧ wr = wx)
        case first => as_aux_lemma =>
          by_cases c1 : s < m
          · by_cases c2 : m < e
            · obtain rfl : B = true := HB.out.mpr ⟨c1, c2⟩
              have d3 : decide ((s : Int) < m) = true := by simp; omega
              have d4 : decide ((m : Int) < e) = true := by simp; omega
              go_wp2_with fail
              go_meet
              exact ⟨rfl, rfl⟩
            · obtain rfl : B = false := by
                cases B
                · rfl
                · have := HB.out.mp rfl; omega
              have d3 : decide ((s : Int) < m) = true := by simp; omega
              have d4 : decide ((m : Int) < e) = false := by simp; omega
              go_wp2_with fail
              go_meet
              exact ⟨rfl, rfl⟩
          · obtain rfl : B = false := by
              cases B
              · rfl
              · have := HB.out.mp rfl; omega
            have d3 : decide ((s : Int) < m) = false := by simp; omega
            go_wp2_with fail
            go_meet
            exact ⟨rfl, rfl⟩
        case rest => as_aux_lemma =>
          obtain ⟨rfl, rfl⟩ := hcut
          have HCT := H1
          clear H1
          go_upto_if 185 with fail
          go_cut [] (fun wx => ∃ l1, Row wx base g N c l1 ∧ OnG g w wx ∧ Hid (Re l l1 a b) ∧ Hid (∀ p, itm l1 p = rotv l s m e p))
          case first => as_aux_lemma =>
            cases B
            · have HF : Hid (∀ p, itm l p = rotv l s m e p) := Lib.hid (fun p => rot_none l s m e p (by
                by_cases c1 : s < m
                · by_cases c2 : m < e
                  · have := HB.out.mpr ⟨c1, c2⟩; cases this
                  · exact .inr (by omega)
                · exact .inl (by omega)) (by omega) (by omega))
              go_wp2_with fail
              go_meet
              exact ⟨l, hR, hU, Lib.hid (Re.refl _ _ _), HF⟩
            · have c12 := HB.out.mp rfl
              obtain ⟨c1, c2⟩ := c12
              go_wp2_with fail
              refine (rotate_any _ base g N c l s m e _ _ _ _ rfl rfl rfl hR c1 c2 (by omega) hN).mono ?_
              rintro e1 w1 ⟨rfl, l1, hR1, hU1, hRe1, hV1⟩
              have HF := Lib.hid hV1; clear hV1
              go_wp2_with fail
              go_meet
              exact ⟨l1, hR1, hU.trans hU1, Lib.hid (hRe1.wide (by omega) (by omega)), HF⟩
          case rest => as_aux_lemma =>
            clear hR hU
            obtain ⟨l1, hR1, hU1, HRe1, HV1⟩ := hcut
            have hem : mid + m - s = e := by omega
            have HP : Hid (Srt (cnt cs) l1 a s ∧ Srt (cnt cs) l1 s mid ∧ Srt (cnt cs) l1 mid e ∧ Srt (cnt cs) l1 e b ∧ ∀ i j, a ≤ i → i < mid → mid ≤ j → j < b → cnt cs (itm l1 i) ≤ cnt cs (itm l1 j)) := Lib.hid (by
              have := cut_rot HCT.out HS1.out HS2.out q1 hls hrh q3 q5 q4 Q6.out Q7.out (by rw [hem]; exact HV1.out)
              rw [hem] at this
              exact this)
            clear hem HB B
            obtain ⟨B, HB⟩ : ∃ B : Bool, Hid (B = true ↔ (a < s ∧ s < mid)) := ⟨decide (a < s ∧ s < mid), Lib.hid (by simp)⟩
            go_upto_region 41 with (fail)
            go_cut [199] (fun s199 wx => s199 = .bool B ∧ wc = wx)
            case first => as_aux_lemma =>
              by_cases c1 : a < s
              · by_cases c2 : s < mid
                · obtain rfl : B = true := HB.out.mpr ⟨c1, c2⟩
                  have d3 : decide ((a : Int) < s) = true := by simp; omega
                  have d4 : decide ((s : Int) < mid) = true := by simp; omega
                  go_wp2_with fail
                  go_meet
                  exact ⟨rfl, rfl⟩
                · obtain rfl : B = false := by
                    cases B
                    · rfl
                    · have := HB.out.mp rfl; omega
                  have d3 : decide ((a : Int) < s) = true := by simp; omega
                  have d4 : decide ((s : Int) < mid) = false := by simp; omega
                  go_wp2_with fail
                  go_meet
                  exact ⟨rfl, rfl⟩
              · obtain rfl : B = false := by
                  cases B
                  · rfl
                  · have := HB.out.mp rfl; omega
                have d3 : decide ((a : Int) < s) = false := by simp; omega
                go_wp2_with fail
                go_meet
                exact ⟨rfl, rfl⟩
            case rest => as_aux_lemma =>
              obtain ⟨rfl, rfl⟩ := hcut
              go_upto_if 199 with fail
              go_cut [] (fun wx => ∃ l2, Row wx base g N c l2 ∧ OnG g w wx ∧ Hid (Mrg (cnt cs) a mid l1 l2))
              case first => as_aux_lemma =>
                cases B
                · have HF : Hid (Mrg (cnt cs) a mid l1 l1) := Lib.hid (by
                    refine mrg_stay ?_
                    by_cases c1 : a < s
                    · by_cases c2 : s < mid
                      · have := HB.out.mpr ⟨c1, c2⟩; cases this
                      · exact HP.out.1.sub (Nat.le_refl _) (by omega)
                    · exact HP.out.2.1.sub (by omega) (Nat.le_refl _))
                  go_wp2_with fail
                  go_meet
                  exact ⟨l1, hR1, hU1, HF⟩
                · have c12 := HB.out.mp rfl
                  obtain ⟨c1, c2⟩ := c12
                  go_wp2_with fail
                  refine (HIH.out _ base g N c Bc A n cc cs l1 a s mid _ _ _ rfl rfl rfl hR1 (hC.on hU1) (hS.perm HRe1.out.perm) c1 c2 (by omega) hN (by omega) HP.out.1 HP.out.2.1).mono ?_
                  rintro e1 w1 ⟨rfl, l2, hR2, hU2, hM2⟩
                  have HF := Lib.hid hM2; clear hM2
                  go_wp2_with fail
                  go_meet
                  exact ⟨l2, hR2, hU1.trans hU2, HF⟩
              case rest => as_aux_lemma =>
                clear hR1 hU1 HB B
                obtain ⟨l2, hR2, hU2, HM2⟩ := hcut
                have HK3 : Hid (Srt (cnt cs) l2 mid e) := Lib.hid (HP.out.2.2.1.keep fun i hi _ => HM2.out.1.out i (.inr hi))
                have HK4 : Hid (Srt (cnt cs) l2 e b) := Lib.hid (HP.out.2.2.2.1.keep fun i hi _ => HM2.out.1.out i (.inr (by omega)))
                by_cases c1 : mid < e
                · by_cases c2 : e < b
                  · have d3 : decide ((mid : Int) < e) = true := by simp; omega
                    have d4 : decide ((e : Int) < b) = true := by simp; omega
                    go_wp2_with fail
                    refine (HIH.out _ base g N c Bc A n cc cs l2 mid e b _ _ _ rfl rfl rfl hR2 (hC.on hU2) ((hS.perm HRe1.out.perm).perm HM2.out.1.perm) c1 c2 (by omega) hN (by omega) HK3.out HK4.out).mono ?_
                    rintro e1 w1 ⟨rfl, l3, hR3, hU3, hM3⟩
                    have HF := Lib.hid hM3; clear hM3
                    go_wp2_with fail
                    go_end0
                    exact ⟨rfl, l3, hR3, hU2.trans hU3, mrg_both (by omega) (by omega) HRe1.out HP.out.2.2.2.2 HM2.out HF.out⟩
                  · have d3 : decide ((mid : Int) < e) = true := by simp; omega
                    have d4 : decide ((e : Int) < b) = false := by simp; omega
                    go_wp2_with fail
                    go_end0
                    exact ⟨rfl, l2, hR2, hU2, mrg_both (by omega) (by omega) HRe1.out HP.out.2.2.2.2 HM2.out (mrg_stay (HK3.out.sub (Nat.le_refl _) (by omega)))⟩
                · have d3 : decide ((mid : Int) < e) = false := by simp; omega
                  go_wp2_with fail
                  go_end0
                  exact ⟨rfl, l2, hR2, hU2, mrg_both (by omega) (by omega) HRe1.out HP.out.2.2.2.2 HM2.out (mrg_stay (HK4.out.sub (by omega) (Nat.le_refl _)))⟩

theorem symMerge_any : ∀ d, SymOk d
  | 0 => fun w base g N c Bc A n cc cs l a m b x y z hx hy hz h hC hS ham hmb hbN hN hd h1 h2 => by omega
  | d + 1 => fun w base g N c Bc A n cc cs l a m b x y z hx hy hz h hC hS ham hmb hbN hN hd h1 h2 => by
    by_cases c1 : m = a + 1
    · exact symOne_any w base g N c Bc A n cc cs l a m b x y z hx hy hz h hC hS c1 hmb hbN hN h2
    · by_cases c2 : b = m + 1
      · exact symLast_any w base g N c Bc A n cc cs l a m b x y z hx hy hz h hC hS ham c1 c2 hbN hN h1
      · exact symMain d (symMerge_any d) w base g N c Bc A n cc cs l a m b x y z hx hy hz h hC hS ham hmb c1 c2 hbN hN hd h1 h2
end Go.Proofs.Ytpolbnobnilfcaa
