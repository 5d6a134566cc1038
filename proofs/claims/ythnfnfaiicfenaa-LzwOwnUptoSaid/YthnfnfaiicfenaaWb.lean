/- The program's runs: the iterator over a list's runs. -/
import Derived.Test.YthnfnfaiicfenaaWa
namespace Go.Proofs.Ythnfnfaiicfenaa
open Go.ChangeShapes Go.WideShapes Go.ChangeAt Go.RowKit Go.Shelf
attribute [local go_sem] Oper.semAt_some

set_option maxRecDepth 100000 in
theorem runsOf_any (w : World) (A : Option Addr) (m c : Nat) : Calls Try.prog 33 #[.slice A m c, .int .i64 128] w fun e w' => e = .returned (.func (.func 55) #[] #[.pointer (some ⟨w.heap.size, 0, none⟩), .pointer (some ⟨w.heap.size + 1, 0, none⟩)]) ∧ w' = (w.alloc (.cells #[.slice A m c] 22)).alloc (.cells #[.int .i64 128] 3) := by
  go_enter Try.func33, Try.ntmps33
  go_wp2_with fail
  go_ret
  exact ⟨rfl, rfl⟩

/-- Where a run goes on, and where it ends. -/
theorem run_step (ls : List UInt8) (F j : Nat) (hF : F < ls.length) (hj : 1 ≤ j) (hr : rl ls F = j + runLen (128 - j) ls[F] (ls.drop (F + j))) :
    (rl ls F = j ∧ (ls.length ≤ F + j ∨ (F + j < ls.length ∧ 128 ≤ j) ∨ ∃ h : F + j < ls.length, j < 128 ∧ ls[F + j] ≠ ls[F])) ∨
    (∃ h : F + j < ls.length, j < 128 ∧ j < rl ls F ∧ ls[F + j] = ls[F] ∧ rl ls F = j + 1 + runLen (128 - (j + 1)) ls[F] (ls.drop (F + (j + 1)))) := by
  by_cases h1 : F + j < ls.length
  · by_cases h2 : j < 128
    · obtain ⟨m, hm⟩ : ∃ m, 128 - j = m + 1 := ⟨127 - j, by omega⟩
      rw [List.drop_eq_getElem_cons h1, hm] at hr
      unfold runLen at hr
      by_cases h3 : ls[F + j] = ls[F]
      · rw [if_pos h3] at hr
        refine .inr ⟨h1, h2, by omega, h3, ?_⟩
        rw [show 128 - (j + 1) = m from by omega, show F + (j + 1) = F + j + 1 from by omega]
        omega
      · rw [if_neg h3] at hr
        exact .inl ⟨hr, .inr (.inr ⟨h1, h2, h3⟩)⟩
    · rw [show 128 - j = 0 from by omega] at hr
      exact .inl ⟨hr, .inr (.inl ⟨h1, by omega⟩)⟩
  · rw [List.drop_eq_nil_of_le (by omega), runLen_nil] at hr
    exact .inl ⟨hr, .inl (by omega)⟩
theorem runLen_self (m : Nat) (x : UInt8) (t : List UInt8) : runLen (m + 1) x (x :: t) = 1 + runLen m x t := by
  show (if x = x then runLen m x t + 1 else 0) = _
  rw [if_pos rfl, Nat.add_comm]
theorem run_start (ls : List UInt8) (F : Nat) (hF : F < ls.length) : rl ls F = 1 + runLen (128 - 1) ls[F] (ls.drop (F + 1)) := by
  rw [rl_eq ls F hF]
  have e := List.drop_eq_getElem_cons hF
  generalize ls.drop (F + 1) = t at *
  rw [e]
  exact runLen_self 127 _ _

theorem drewN_two (w : World) (a b : Nat) : (w.drewN a).drewN b = w.drewN (a + b) := by simp [World.drewN, Nat.add_assoc]
/-- What a run is. -/
def runEnc (A : Option Addr) (c : Nat) (ls : List UInt8) (k : Nat) : Array Value := #[.slice (A.map (·.add (atR ls k))) (rl ls (atR ls k)) (c - atR ls k)]
set_option maxRecDepth 100000 in
set_option maxHeartbeats 4000000 in
theorem runs1_in (n : Nat) (_ : 1 ≤ n) (l b c N B : Nat) (A : Option Addr) (ls : List UInt8) (hmc : ls.length ≤ c) (hm : ls.length ≤ 4000000) (hE : atR ls N = ls.length) (hN : ∀ k, k < N → atR ls k < ls.length) (I : Nat → World → Prop) (R Jx : World → Prop)
    (hI : ∀ k V, I k V → V.cell? ⟨b, 0, none⟩ = some (.slice A ls.length c) ∧ V.cell? ⟨b + 1, 0, none⟩ = some (.int .i64 128) ∧ Bs V B A ls)
    (hID : ∀ k V n, I k V → I k (V.drewN n)) (hRD : ∀ V n, R V → R (V.drewN n))
    (hY : ∀ k V, k < N → I k V → R V → YieldAt Fence.wide (n - 1) Try.prog l (runEnc A c ls k) V fun e V' => (e = .returned (.bool true) ∧ I (k + 1) V' ∧ R V') ∨ (e = .returned (.bool false) ∧ Jx V'))
    (V : World) (h0 : I 0 V) (hR : R V) :
    CallsIn Fence.wide n Try.prog 55 #[.func (.yield l) #[] #[], .pointer (some ⟨b, 0, none⟩), .pointer (some ⟨b + 1, 0, none⟩)] V fun e V' => (∃ v, e = .returned v) ∧ ((I N V' ∧ R V') ∨ Jx V') := by
  refine callsIn_of_wp Try.func55 rfl trivial ?_ rfl
  simp only [Try.ntmps55, List.size_toArray, List.length_cons, List.length_nil, Nat.reduceAdd, Nat.reduceSub, Array.replicate_succ, Array.replicate_zero, List.push_toArray, List.append_toArray, List.nil_append, List.cons_append]
  have hmix : Try.prog.follows .mixedOrders = true := by kernel_rfl
  obtain ⟨m, hlm⟩ : ∃ m, ls.length = m := ⟨_, rfl⟩
  gi_wp2_with fail
  gi_loopw [4] (fun i wr => ∃ k : Nat, k ≤ N ∧ i = .int .i64 ((atR ls k : Nat) : Int) ∧ I k wr ∧ R wr) (fun i _ => m - (intOf i).toNat)
  case atStart => exact ⟨0, Nat.zero_le _, rfl, h0, hR⟩
  case round =>
    obtain ⟨k, hk, rfl, hIk, hRk⟩ := hrel
    obtain ⟨kb, kc, hbs⟩ := hI k wr hIk
    rw [hlm] at kb
    by_cases hlt : k < N
    · have hFm := hN k hlt
      obtain ⟨ad, rfl, hadB, hcF⟩ := hbs.at_ hFm
      have hr1 := rl_one ls _ hFm
      have HY := Lib.hid (fun q => hY k (wr.drewN q) hlt (hID _ _ q hIk) (hRD _ q hRk))
      have HST := Lib.hid (run_start ls _ hFm)
      have HAT : Hid (atR ls (k + 1) = atR ls k + rl ls (atR ls k)) := Lib.hid rfl
      have HBS := Lib.hid hbs
      have HI4 := Lib.hid (fun k V h => (hI k V h))
      dsimp only [runEnc, Option.map_some] at HY
      clear hbs hIk hRk hI hID hRD hY
      generalize hF : atR ls k = F at *
      generalize hr : rl ls F = r at *
      obtain ⟨x, hx⟩ : ∃ x, ls[F]'hFm = x := ⟨_, rfl⟩
      rw [hx] at hcF HST
      have HX := Lib.hid hx; have HR := Lib.hid hr; have HFF := Lib.hid hF
      clear hx hr hF
      have i1 : (F : Int) < (m : Int) := by omega
      have i2 : (F : Int) ≤ 4000000 := by omega
      gi_wp2_with fail
      gi_loopw [5] (fun i wq => ∃ j q : Nat, 1 ≤ j ∧ j ≤ r ∧ i = .int .i64 ((F + j : Nat) : Int) ∧ wq = wr.drewN q ∧ r = j + runLen (128 - j) x (ls.drop (F + j))) (fun i _ => F + r - (intOf i).toNat)
      case atStart => exact ⟨1, 0, by omega, by omega, by simp, rfl, HST.out⟩
      case round =>
        obtain ⟨j, q, hj, hjr, rfl, rfl, hre⟩ := hrel
        have hsp := run_step ls F j hFm hj (by rw [HR.out, HX.out]; exact hre)
        simp only [HR.out, HX.out] at hsp
        have kbq : (wr.drewN q).cell? ⟨b, 0, none⟩ = some (.slice (some ad) m c) := kb
        have kcq : (wr.drewN q).cell? ⟨b + 1, 0, none⟩ = some (.int .i64 128) := kc
        have hcq : (wr.drewN q).cell? (ad.add F) = some (.int .u8 (x.toNat : Int)) := hcF
        obtain ⟨T, hT⟩ : ∃ T, F + j = T := ⟨_, rfl⟩
        simp only [hT] at hsp ⊢
        have HRE := Lib.hid hre
        clear hre
        rcases hsp with ⟨h1, hsp⟩ | ⟨hTm, hj8, hjr2, hy1, hr2⟩
        · have hrT : r = T - F := by omega
          have hTc : (T : Int) ≤ (c : Int) := by
            have := hr1.2.2
            omega
          have hFT : (F : Int) ≤ (T : Int) := by omega
          have i5 : (T : Int) ≤ 4000000 := by omega
          have hnF : ¬ c = F := by omega
          have HRT := Lib.hid hrT
          have HY2 := Lib.hid (fun q' => HY.out q')
          rw [hrT] at HY2
          rcases hsp with h2 | ⟨h2, h3⟩ | ⟨hTm, h3, h4⟩
          · have d3 : decide (T < m) = false := decide_eq_false (by omega)
            clear h2
            have HJ := Lib.hid hj; have HJR := Lib.hid hjr; have HT := Lib.hid hT; have HK := Lib.hid hlt
            have HR1 := Lib.hid hr1; have HH1 := Lib.hid h1
            clear hj hjr hT hlt hrT hr1 h1 HST HX hFm
            gi_wp2_with fail
            gi_big_quiet_th_o (fail)
            obtain ⟨fn, tmps, assign, body, hy, hRd⟩ := HY2.out (q + nq)
            have HYD := Lib.hid (yield_one hRd)
            clear hRd
            gi_wp2_with fail
            with_reducible refine RoundIn.mono HYD.out ?_
            rintro e w4 ⟨bb, rfl, hb1, hb2⟩
            have HB1 := Lib.hid hb1; have HB2 := Lib.hid hb2
            clear hb1 hb2 kb kc kbq kcq hcq hcF hy HYD
            cases bb with
            | true =>
              gi_wp2
              go_roundw
              case rel => exact ⟨k + 1, HK.out, by rw [HAT.out]; have := HT.out; have := HH1.out; congr 1; omega, (HB1.out (by trivial)).1, (HB1.out (by trivial)).2⟩
              case measure => have := HT.out; have := HJ.out; have := HR1.out; have := HH1.out; simp [intOf]; omega
            | false =>
              gi_wp2
              refine bodyPost_ret (results_none rfl _ _ _) rfl ?_
              exact ⟨⟨_, rfl⟩, .inr (HB2.out (by trivial))⟩
          · have d3 : (T : Int) < (m : Int) := by omega
            have d4 : decide ((T : Int) - (F : Int) < 128) = false := decide_eq_false (by omega)
            have d5 : (0 : Int) ≤ (T : Int) - (F : Int) := by omega
            clear h2
            have HJ := Lib.hid hj; have HJR := Lib.hid hjr; have HT := Lib.hid hT; have HK := Lib.hid hlt
            have HR1 := Lib.hid hr1; have HH1 := Lib.hid h1
            clear hj hjr hT hlt hrT hr1 h1 HST HX hFm
            gi_wp2_with fail
            gi_big_quiet_th_o (fail)
            obtain ⟨fn, tmps, assign, body, hy, hRd⟩ := HY2.out (q + nq)
            have HYD := Lib.hid (yield_one hRd)
            clear hRd
            gi_wp2_with fail
            with_reducible refine RoundIn.mono HYD.out ?_
            rintro e w4 ⟨bb, rfl, hb1, hb2⟩
            have HB1 := Lib.hid hb1; have HB2 := Lib.hid hb2
            clear hb1 hb2 kb kc kbq kcq hcq hcF hy HYD
            cases bb with
            | true =>
              gi_wp2
              go_roundw
              case rel => exact ⟨k + 1, HK.out, by rw [HAT.out]; have := HT.out; have := HH1.out; congr 1; omega, (HB1.out (by trivial)).1, (HB1.out (by trivial)).2⟩
              case measure => have := HT.out; have := HJ.out; have := HR1.out; have := HH1.out; simp [intOf]; omega
            | false =>
              gi_wp2
              refine bodyPost_ret (results_none rfl _ _ _) rfl ?_
              exact ⟨⟨_, rfl⟩, .inr (HB2.out (by trivial))⟩
          · have d3 : (T : Int) < (m : Int) := by omega
            have d4 : (T : Int) - (F : Int) < 128 := by omega
            have d5 : (0 : Int) ≤ (T : Int) - (F : Int) := by omega
            obtain ⟨ad2, had2, _, hcT⟩ := HBS.out.at_ hTm
            injection had2 with had2
            subst had2
            obtain ⟨y, hy4⟩ : ∃ y, ls[T]'hTm = y := ⟨_, rfl⟩
            rw [hy4] at hcT
            have d6 : ((y.toNat : Int) == (x.toNat : Int)) = false := beq_eq_false_iff_ne.2 (fun e => h4 (by rw [hy4]; exact UInt8.toNat_inj.1 (by omega)))
            clear h4 hy4
            have HJ := Lib.hid hj; have HJR := Lib.hid hjr; have HT := Lib.hid hT; have HK := Lib.hid hlt
            have HR1 := Lib.hid hr1; have HH1 := Lib.hid h1
            clear hj hjr hT hlt hrT hr1 h1 HST HX hFm
            gi_wp2_with fail
            gi_big_quiet_th_o (fail)
            obtain ⟨fn, tmps, assign, body, hy, hRd⟩ := HY2.out (q + nq)
            have HYD := Lib.hid (yield_one hRd)
            clear hRd
            gi_wp2_with fail
            with_reducible refine RoundIn.mono HYD.out ?_
            rintro e w4 ⟨bb, rfl, hb1, hb2⟩
            have HB1 := Lib.hid hb1; have HB2 := Lib.hid hb2
            clear hb1 hb2 kb kc kbq kcq hcq hcF hy HYD
            cases bb with
            | true =>
              gi_wp2
              go_roundw
              case rel => exact ⟨k + 1, HK.out, by rw [HAT.out]; have := HT.out; have := HH1.out; congr 1; omega, (HB1.out (by trivial)).1, (HB1.out (by trivial)).2⟩
              case measure => have := HT.out; have := HJ.out; have := HR1.out; have := HH1.out; simp [intOf]; omega
            | false =>
              gi_wp2
              refine bodyPost_ret (results_none rfl _ _ _) rfl ?_
              exact ⟨⟨_, rfl⟩, .inr (HB2.out (by trivial))⟩
        · obtain ⟨ad2, had2, _, hcT⟩ := HBS.out.at_ hTm
          injection had2 with had2
          subst had2
          rw [hy1] at hcT
          have hcTq : (wr.drewN q).cell? (ad.add T) = some (.int .u8 (x.toNat : Int)) := hcT
          have HR2 := Lib.hid hr2
          have i3 : (T : Int) < (m : Int) := by omega
          have i4 : (T : Int) - (F : Int) < 128 := by omega
          have i5 : (T : Int) ≤ 4000000 := by omega
          have i6 : (0 : Int) ≤ (T : Int) - (F : Int) := by omega
          clear hr2 hy1
          gi_wp2_with fail
          have HJ := Lib.hid hj; have HJR := Lib.hid hjr2; have HT := Lib.hid hT
          clear hj hjr hjr2 hT
          gi_big_quiet_th_o (fail)
          gi_wp2_with fail
          go_roundw
          case rel => exact ⟨j + 1, q + nq, by omega, HJR.out, by rw [← Nat.add_assoc, HT.out]; go_num, rfl, HR2.out⟩
          case measure => have := HJR.out; have := HT.out; simp [intOf]; omega
    · have : k = N := by omega
      subst this
      rw [hE, hlm]
      gi_wp2_with fail
      go_end0
      exact ⟨⟨_, rfl⟩, .inl ⟨hIk, hRk⟩⟩
end Go.Proofs.Ythnfnfaiicfenaa
