/- Contract: the library's stable sort. -/
import Derived.Test.YtpolbnobnilfcaaSte
namespace Go.Proofs.Ytpolbnobnilfcaa
open Go.ChangeShapes Go.WideShapes Go.ChangeAt Go.RowKit

theorem insertion_none (v f : Value) (w : World) : Calls Try.prog 59 #[v, .int .i64 0, .int .i64 0, f] w fun e w' => e = .returned (.tuple #[]) ∧ w = w' := by
  go_enter Try.func59, Try.ntmps59
  go_wp2_with fail
  go_loopw [8] (fun i wr => i = .int .i64 1 ∧ w = wr) (fun _ _ => 0)
  case atStart => exact ⟨rfl, rfl⟩
  case round =>
    obtain ⟨rfl, rfl⟩ := hrel
    go_wp2_with fail
    go_end0
    exact ⟨rfl, rfl⟩
theorem stable_none (v f : Value) (w : World) : Calls Try.prog 56 #[v, .int .i64 0, f] w fun e w' => e = .returned (.tuple #[]) ∧ w = w' := by
  go_enter Try.func56, Try.ntmps56
  go_wp2_with fail
  go_loopw [7, 8] (fun a b wr => a = .int .i64 0 ∧ b = .int .i64 20 ∧ w = wr) (fun _ _ _ => 0)
  case atStart => exact ⟨rfl, rfl, rfl⟩
  case round =>
    obtain ⟨rfl, rfl, rfl⟩ := hrel
    go_wp2_with fail
    refine (insertion_none _ _ _).mono ?_
    rintro e w1 ⟨rfl, rfl⟩
    go_wp2_with fail
    go_loopw [6] (fun a wr => a = .int .i64 20 ∧ w = wr) (fun _ _ => 0)
    case atStart => exact ⟨rfl, rfl⟩
    case round =>
      obtain ⟨rfl, rfl⟩ := hrel
      go_wp2_with fail
      go_end0
      exact ⟨rfl, rfl⟩
theorem sortStable_none (f : Value) (w : World) : Calls Try.prog 50 #[.slice none 0 0, f] w fun e w' => e = .returned (.tuple #[]) ∧ w = w' := by
  go_enter Try.func50, Try.ntmps50
  go_wp2_with fail
  refine (stable_none _ _ _).mono ?_
  rintro e w1 ⟨rfl, rfl⟩
  go_wp2_with fail
  go_end0
  exact ⟨rfl, rfl⟩

set_option maxHeartbeats 4000000 in
set_option maxRecDepth 100000 in
theorem stable_any (w : World) (base g N c Bc : Nat) (A : Option Addr) (n cc : Nat) (cs l : List Int) (h : Row w base g N c l) (hC : Ctx w g Bc A n cc cs) (hS : Syms l n) (hN : N ≤ 1048576) :
    Calls Try.prog 56 #[.slice (some ⟨g, 0, none⟩) N c, .int .i64 (N : Int), cmpF Bc] w (MrgRes w base g N c cs l 0 N) := by
  go_enter Try.func56, Try.ntmps56
  go_wp2_with fail
  go_loopw [7, 8] (fun a b wr => ∃ s : Nat, s ≤ N ∧ a = .int .i64 (s : Int) ∧ b = .int .i64 ((s : Int) + 20) ∧ ∃ l', Row wr base g N c l' ∧ OnG g w wr ∧ Hid (Re l l' 0 N) ∧ Hid (Heads (cnt cs) l' 20 s)) (fun _ b _ => N + 20 - (intOf b).toNat)
  case atStart => exact ⟨0, by omega, rfl, rfl, l, h, OnG.refl _ _, Lib.hid (Re.refl _ _ _), Lib.hid .zero⟩
  case round =>
    obtain ⟨s, hsN, rfl, rfl, l1, hR, hU, hRe, hH⟩ := hrel
    by_cases hlt : s + 20 ≤ N
    · have d1 : decide ((s : Int) + 20 ≤ N) = true := by simp; omega
      go_wp2_with fail
      refine (insertion_any _ base g N c Bc A n cc cs l1 s (s + 20) _ _ rfl (by omega) hR (hC.on hU) (hS.perm hRe.out.perm) (by omega) hlt hN).mono ?_
      rintro e w1 ⟨rfl, l2, hR2, hU2, hRe2, hS2⟩
      have HH := Lib.hid (Heads.add s (hH.out.keep fun i hi => hRe2.out i (.inl hi)) hS2)
      have HR2 := Lib.hid (hRe.out.trans (hRe2.wide (by omega) hlt))
      clear hRe2 hS2
      go_wp2_with fail
      go_roundw
      case rel => exact ⟨s + 20, hlt, by go_num, by go_num, l2, hR2, hU.trans hU2, HR2, HH⟩
      case measure => simp [intOf]; omega
    · have d1 : decide ((s : Int) + 20 ≤ N) = false := by simp; omega
      go_wp2_with fail
      refine (insertion_any _ base g N c Bc A n cc cs l1 s N _ _ rfl rfl hR (hC.on hU) (hS.perm hRe.out.perm) hsN (Nat.le_refl _) hN).mono ?_
      rintro e w1 ⟨rfl, l2, hR2, hU2, hRe2, hS2⟩
      have HH : Hid (Runs (cnt cs) l2 20 N 0) := Lib.hid (Heads.runs (hH.out.keep fun i hi => hRe2.out i (.inl hi)) hsN (.last s (by omega) hS2))
      have HR2 := Lib.hid (hRe.out.trans (hRe2.wide (by omega) (Nat.le_refl _)))
      have hU2 := hU.trans hU2
      clear hRe2 hS2 hR hU hRe hH
      go_wp2_with fail
      obtain ⟨wo, hwo⟩ : ∃ wo : World, wo = w1 := ⟨_, rfl⟩
      subst hwo
      go_loopw [6] (fun a wr => ∃ bs : Nat, 0 < bs ∧ bs ≤ 2097172 ∧ a = .int .i64 (bs : Int) ∧ ∃ l', Row wr base g N c l' ∧ OnG g w wr ∧ Hid (Re l l' 0 N) ∧ Hid (Runs (cnt cs) l' bs N 0)) (fun a _ => N - (intOf a).toNat)
      case atStart => exact ⟨20, by omega, by omega, rfl, l2, hR2, hU2, HR2, HH⟩
      case round =>
        clear hR2 hU2 HR2 HH
        obtain ⟨bs, hb0, hbm, rfl, l3, hR3, hU3, hRe3, hRu3⟩ := hrel
        by_cases hbn : bs < N
        · have e1 : IntKind.i64.wrap (2 * (bs : Int)) = 2 * (bs : Int) := IntWalk.i64_in _ (by omega)
          go_wp2_with fail
          obtain ⟨wp, hwp⟩ : ∃ wp : World, wp = wr := ⟨_, rfl⟩
          subst hwp
          go_loopw [7, 8] (fun a b wr => ∃ t : Nat, t ≤ N ∧ a = .int .i64 (t : Int) ∧ b = .int .i64 ((t : Int) + 2 * (bs : Int)) ∧ ∃ l', Row wr base g N c l' ∧ OnG g w wr ∧ Hid (Re l l' 0 N) ∧ Hid (Heads (cnt cs) l' (2 * bs) t) ∧ Hid (Runs (cnt cs) l' bs N t)) (fun a _ _ => N - (intOf a).toNat)
          case atStart => exact ⟨0, by omega, rfl, by congr 1; omega, l3, hR3, hU3, hRe3, Lib.hid .zero, hRu3⟩
          case round =>
            clear hR3 hU3 hRe3 hRu3
            obtain ⟨t, htN, rfl, rfl, l4, hR4, hU4, hRe4, hH4, hRu4⟩ := hrel
            by_cases hlt4 : t + 2 * bs ≤ N
            · have d4 : decide ((t : Int) + 2 * (bs : Int) ≤ N) = true := by simp; omega
              have HT := Lib.hid (hRu4.out.two hb0 hlt4)
              go_wp2_with fail
              refine (symMerge_any N _ base g N c Bc A n cc cs l4 t (t + bs) (t + 2 * bs) _ _ _ rfl (by omega) (by omega) hR4 (hC.on hU4) (hS.perm hRe4.out.perm) (by omega) (by omega) hlt4 hN (by omega) HT.out.1 HT.out.2.1).mono ?_
              rintro e w5 ⟨rfl, l5, hR5, hU5, hM5⟩
              have HH5 := Lib.hid (Heads.add t (hH4.out.keep fun i hi => hM5.1.out i (.inl hi)) hM5.2)
              have HRu5 := Lib.hid (HT.out.2.2.keep fun i hi => hM5.1.out i (.inr hi))
              have HRe5 := Lib.hid (hRe4.out.trans (hM5.1.wide (by omega) hlt4))
              clear hM5
              go_wp2_with fail
              go_roundw
              case rel => exact ⟨t + 2 * bs, hlt4, by go_num, by go_num, l5, hR5, hU4.trans hU5, HRe5, HH5, HRu5⟩
              case measure => simp [intOf]; omega
            · have d4 : decide ((t : Int) + 2 * (bs : Int) ≤ N) = false := by simp; omega
              have e2 : IntKind.i64.wrap ((bs : Int) * 2) = (bs : Int) * 2 := IntWalk.i64_in _ (by omega)
              by_cases hmn : t + bs < N
              · have d5 : decide ((t : Int) + bs < N) = true := by simp; omega
                have HT := Lib.hid (hRu4.out.tail (by omega) hmn)
                go_wp2_with fail
                refine (symMerge_any N _ base g N c Bc A n cc cs l4 t (t + bs) N _ _ _ rfl (by omega) rfl hR4 (hC.on hU4) (hS.perm hRe4.out.perm) (by omega) hmn (Nat.le_refl _) hN (by omega) HT.out.1 HT.out.2).mono ?_
                rintro e w5 ⟨rfl, l5, hR5, hU5, hM5⟩
                have HRu5 : Hid (Runs (cnt cs) l5 (2 * bs) N 0) := Lib.hid (Heads.runs (hH4.out.keep fun i hi => hM5.1.out i (.inl hi)) htN (.last t (by omega) hM5.2))
                have HRe5 := Lib.hid (hRe4.out.trans (hM5.1.wide (by omega) (Nat.le_refl _)))
                clear hM5
                go_wp2_with fail
                go_roundw
                case rel => exact ⟨2 * bs, by omega, by omega, by congr 1; omega, l5, hR5, hU4.trans hU5, HRe5, HRu5⟩
                case measure => simp [intOf]; omega
              · have d5 : decide ((t : Int) + bs < N) = false := by simp; omega
                have HRu5 : Hid (Runs (cnt cs) l4 (2 * bs) N 0) := Lib.hid (Heads.runs hH4.out htN (.last t (by omega) (hRu4.out.whole (by omega))))
                go_wp2_with fail
                go_roundw
                case rel => exact ⟨2 * bs, by omega, by omega, by congr 1; omega, l4, hR4, hU4, hRe4, HRu5⟩
                case measure => simp [intOf]; omega
        · go_wp2_with fail
          go_end0
          exact ⟨rfl, l3, hR3, hU3, hRe3.out, hRu3.out.whole (by omega)⟩
theorem sortStable_any (w : World) (base g N c Bc : Nat) (A : Option Addr) (n cc : Nat) (cs l : List Int) (h : Row w base g N c l) (hC : Ctx w g Bc A n cc cs) (hS : Syms l n) (hN : N ≤ 1048576) :
    Calls Try.prog 50 #[.slice (some ⟨g, 0, none⟩) N c, cmpF Bc] w (MrgRes w base g N c cs l 0 N) := by
  go_enter Try.func50, Try.ntmps50
  go_wp2_with fail
  refine (stable_any _ base g N c Bc A n cc cs l h hC hS hN).mono ?_
  rintro e w1 ⟨rfl, l', h1, h2, h3⟩
  go_wp2_with fail
  go_end0
  exact ⟨rfl, l', h1, h2, h3⟩
end Go.Proofs.Ytpolbnobnilfcaa
