/- Contracts of the program's faults of counts and of its rising symbols. -/
import Derived.Test.YtpolbnobnilfcaaKh
namespace Go.Proofs.Ytpolbnobnilfcaa
open Go.ChangeShapes Go.WideShapes Go.ChangeAt Go.RowKit

def cfErr (l : List Int) (most : Int) : Int := if 4096 < l.length then 3 else if most < 1 ∨ 16 < most then 2 else if l.any badCount then 2 else 0
theorem cfErr_long {l : List Int} {most : Int} (h : 4096 < l.length) : cfErr l most = 3 := if_pos h
theorem cfErr_most {l : List Int} {most : Int} (h : ¬ 4096 < l.length) (h2 : most < 1 ∨ 16 < most) : cfErr l most = 2 := by unfold cfErr; rw [if_neg h, if_pos h2]
theorem cfErr_count {l : List Int} {most : Int} (h : ¬ 4096 < l.length) (h2 : ¬ (most < 1 ∨ 16 < most)) (h3 : l.any badCount = true) : cfErr l most = 2 := by unfold cfErr; rw [if_neg h, if_neg h2, if_pos h3]
theorem cfErr_ok {l : List Int} {most : Int} (h : ¬ 4096 < l.length) (h2 : ¬ (most < 1 ∨ 16 < most)) (h3 : l.any badCount = false) : cfErr l most = 0 := by unfold cfErr; rw [if_neg h, if_neg h2, h3, if_neg (by decide)]
theorem cfErr_zero {l : List Int} {most : Int} (h : cfErr l most = 0) : l.length ≤ 4096 ∧ 1 ≤ most ∧ most ≤ 16 ∧ l.any badCount = false := by
  unfold cfErr at h
  split at h
  · omega
  · split at h
    · omega
    · split at h
      · omega
      · rename_i a b d
        exact ⟨by omega, by omega, by omega, by simpa using d⟩

set_option maxHeartbeats 1000000 in
theorem countsFault_any (A : Option Addr) (c : Nat) (l : List Int) (most : Int) (B : Nat) (w : World) (hbs : Is w B A l) (hl : l.length ≤ maxLen) :
    Calls Try.prog 38 #[.slice A l.length c, .int .i64 most] w fun e w' => e = .returned (.int .i64 (cfErr l most)) ∧ w = w' := by
  unfold maxLen at hl
  by_cases h4 : 4096 < l.length
  · have HE := Lib.hid (cfErr_long (most := most) h4)
    have d1 : decide ((4096 : Int) < l.length) = true := by simp; omega
    go_enter Try.func38, Try.ntmps38
    go_wp2_with fail
    go_ret
    exact ⟨ret_nm HE.out.symm, rfl⟩
  · have d1 : decide ((4096 : Int) < l.length) = false := by simp; omega
    by_cases hm : most < 1 ∨ 16 < most
    · have HE := Lib.hid (cfErr_most h4 hm)
      by_cases hm1 : most < 1
      · have d2 : decide (most < 1) = true := by simp; omega
        clear hm
        go_enter Try.func38, Try.ntmps38
        go_wp2_with fail
        go_ret
        exact ⟨ret_nm HE.out.symm, rfl⟩
      · have d2 : decide (most < 1) = false := by simp; omega
        have d3 : decide (16 < most) = true := by simp; omega
        clear hm
        go_enter Try.func38, Try.ntmps38
        go_wp2_with fail
        go_ret
        exact ⟨ret_nm HE.out.symm, rfl⟩
    · have d2 : decide (most < 1) = false := by simp; omega
      have d3 : decide (16 < most) = false := by simp; omega
      have HM := Lib.hid hm; clear hm
      go_enter Try.func38, Try.ntmps38
      go_wp2_with fail
      go_loop [18] (fun i => ∃ k : Nat, k ≤ l.length ∧ i = .int .i64 k ∧ (l.take k).any badCount = false) (fun i => l.length - (intOf i).toNat)
      case atStart => exact ⟨0, by omega, rfl, by simp⟩
      case round =>
        obtain ⟨k, hk, rfl, hg⟩ := hrel
        have HG := Lib.hid hg; clear hg
        by_cases hlt : k < l.length
        · obtain ⟨ad, rfl, _, hcb⟩ := hbs.at_ hlt
          have HA := Lib.hid (anyC_take l k hlt HG.out)
          have HB := Lib.hid (anyC_at l k hlt)
          generalize l[k] = x at *
          by_cases hx : x < 0 ∨ 1073741824 < x
          · have HE := Lib.hid (cfErr_count h4 HM.out (HB.out (by unfold badCount; simp; omega)))
            by_cases hx0 : x < 0
            · have e1 : decide (x < 0) = true := by simp; omega
              clear hx
              go_wp2_with fail
              go_ret
              exact ⟨ret_nm HE.out.symm, rfl⟩
            · have e1 : decide (x < 0) = false := by simp; omega
              have e2 : decide (1073741824 < x) = true := by simp; omega
              clear hx
              go_wp2_with fail
              go_ret
              exact ⟨ret_nm HE.out.symm, rfl⟩
          · have e1 : decide (x < 0) = false := by simp; omega
            have e2 : decide (1073741824 < x) = false := by simp; omega
            have HA2 := Lib.hid (HA.out (by unfold badCount; rw [e1, e2]; rfl))
            clear hx
            go_wp2_with fail
            go_round
            case rel => exact ⟨k + 1, by omega, by go_num, HA2.out⟩
            case measure => simp [intOf]; omega
        · have hkn : k = l.length := by omega
          subst hkn
          have HE := Lib.hid (cfErr_ok h4 HM.out (by have := HG.out; rwa [List.take_length] at this))
          go_wp2_with fail
          go_ret
          exact ⟨ret_nm HE.out.symm, rfl⟩

theorem sortStable_zero (A : Option Addr) (c : Nat) (f : Value) (w : World) : Calls Try.prog 50 #[.slice A 0 c, f] w fun e w' => e = .returned (.tuple #[]) ∧ w = w' := by
  go_enter Try.func50, Try.ntmps50
  go_wp2_with fail
  refine (stable_none _ _ _).mono ?_
  rintro e w1 ⟨rfl, rfl⟩
  go_wp2_with fail
  go_end0
  exact ⟨rfl, rfl⟩
/-- The symbols that come at all, the rarest first. -/
def RsRes (w : World) (cs : List Int) (e : Ending) (w' : World) : Prop :=
  ∃ A n c sy, e = .returned (.slice A n c) ∧ w'.ownsRow (w.heap.size + 1) 3 1 (.slice A n c) n (intsV sy) ∧ sy.Perm (posIdx cs) ∧ Srt (cnt cs) sy 0 n ∧ Below w.heap.size w w'

set_option maxHeartbeats 2000000 in
set_option maxRecDepth 100000 in
theorem rising_any (A : Option Addr) (c : Nat) (cs : List Int) (w : World) (hbs : Is w w.heap.size A cs) (hl : cs.length ≤ 4096) :
    Calls Try.prog 39 #[.slice A cs.length c] w (RsRes w cs) := by
  obtain ⟨i0, hi, hz0, hz1, hz2⟩ := info_parts info_int
  have hk0 := Blk.new w 22 #[.slice A cs.length c]
  have hb0 : Below w.heap.size w (w.alloc (.cells #[.slice A cs.length c] 22)) := (Below.refl _ w).alloc (Nat.le_refl _) _
  have HK0 := Lib.hid hk0; clear hk0
  have HB0 := Lib.hid hb0; clear hb0
  go_enter Try.func39, Try.ntmps39
  go_wp2_with fail
  go_loopw [3, 8] (fun v i wr => ∃ k : Nat, k ≤ cs.length ∧ i = .int .i64 k ∧ (∃ A1 n1 c1, v = .slice A1 n1 c1 ∧ Hid (wr.ownsRow (w.heap.size + 1) 3 1 (.slice A1 n1 c1) n1 (intsV (posTo cs k)))) ∧ Hid (Below (w.heap.size + 1) (w.alloc (.cells #[.slice A cs.length c] 22)) wr)) (fun _ i _ => cs.length - (intOf i).toNat)
  case atStart => exact ⟨0, by omega, rfl, ⟨none, 0, 0, rfl, Lib.hid (World.ownsRow_nil _ _ 3 1)⟩, Lib.hid (Below.refl _ _)⟩
  case round =>
    obtain ⟨k, hk, rfl, ⟨A1, n1, c1, rfl, HO⟩, HB⟩ := hrel
    have hs1 : w.heap.size + 1 ≤ wr.heap.size := by have := HB.out.size; simpa using this
    have HBW : Hid (Below w.heap.size w wr) := Lib.hid (HB0.out.trans (HB.out.mono (by omega)))
    have hln := own_len HO.out
    rw [intsV_length] at hln
    have hlk := posTo_length_le cs k
    by_cases hlt : k < cs.length
    · obtain ⟨ad, rfl, _, hcx⟩ := Is.at_ (Vs.below hbs HBW.out) hlt
      have HP := Lib.hid (posTo_succ cs k)
      rw [itm_get cs k hlt] at HP
      have hn1 : n1 ≤ 4096 := by omega
      clear hln hlk
      generalize cs[k] = x at *
      by_cases hx : 0 < x
      · have d1 : decide (0 < x) = true := by simp; omega
        rw [if_pos hx] at HP
        go_wp2_with (at_builtin; refine wpList_append_vs _ rfl (.tmp 15) (.tmp 17) _ rfl (w.heap.size + 1) 3 i0 (.int .i64 0) 8 Try.underlying22 hi hz0 hz1 hz2 rfl (.slice A1 n1 c1) n1 (intsV (posTo cs k)) rfl (HO.out.alloc _) (wr.heap.size + 1) (some ⟨wr.heap.size, 0, none⟩) 1 1 [.int .i64 (k : Int)] rfl rfl (vs_lit1 wr 3 _) (by simp [Value.oneCell']) (by unfold maxLen; omega) (by omega) (by simp; omega) ?_; intro A2 c2 w2 o2 hg2 _; have HB2 := Lib.hid ((HB.out.alloc hs1 _).grown hg2 (by simp; omega) (fun q hq => (HO.out.lt q hq).1)); have HO2 := Lib.hid o2; clear o2 hg2)
        go_roundw
        case rel => exact ⟨k + 1, by omega, by go_num, ⟨A2, _, c2, rfl, Lib.hid (by rw [HP.out, intsV_append]; exact HO2.out)⟩, HB2⟩
        case measure => simp [intOf]; omega
      · have d1 : decide (0 < x) = false := by simp; omega
        rw [if_neg hx, List.append_nil] at HP
        go_wp2_with fail
        go_roundw
        case rel => exact ⟨k + 1, by omega, by go_num, ⟨A1, _, c1, rfl, Lib.hid (by rw [HP.out]; exact HO.out)⟩, HB⟩
        case measure => simp [intOf]; omega
    · obtain rfl : k = cs.length := by omega
      have HN : Hid ((posIdx cs).length = n1) := Lib.hid hln
      have hn1 : n1 ≤ 4096 := by omega
      clear hln hlk
      have kb : wr.cell? ⟨w.heap.size, 0, none⟩ = some (.slice A cs.length c) := by
        rw [HB.out.cell (p := ⟨w.heap.size, 0, none⟩) (by simp), HK0.out.cell]; rfl
      rcases Nat.eq_zero_or_pos n1 with h0 | h0
      · subst h0
        go_wp2_with fail
        refine (sortStable_zero _ _ _ _).mono ?_
        rintro e w2 ⟨rfl, rfl⟩
        go_wp2_with fail
        go_ret
        exact ⟨A1, 0, c1, posIdx cs, rfl, HO.out, List.Perm.refl _, Srt.none (by omega), HBW.out⟩
      · obtain ⟨g, rfl, _, _, hg1, hg2⟩ := row_form HO.out h0
        have HC : Hid (Ctx wr g w.heap.size A cs.length c cs) := Lib.hid ⟨kb, by omega, by omega, rfl, (Vs.below hbs HBW.out).more (by omega), fun ad e hh => by
          by_cases hp : 0 < cs.length
          · obtain ⟨ad', e', hlt', _⟩ := Vs.at_ (k := 0) hbs (by rw [intsV_length]; exact hp)
            rw [e] at e'
            injection e' with e'
            subst e'
            omega
          · have h2 := HN.out
            have h3 := posTo_length_le cs cs.length
            unfold posIdx at h2
            omega⟩
        have HS : Hid (Syms (posIdx cs) cs.length) := Lib.hid fun x hx => by have := posIdx_mem hx; omega
        clear kb
        go_wp2_with fail
        refine (sortStable_any wr (w.heap.size + 1) g n1 c1 w.heap.size A cs.length c cs (posIdx cs) HO.out HC.out HS.out (by omega)).mono ?_
        rintro e w2 ⟨rfl, sy, hO2, hU2, hM2⟩
        have HBF : Hid (Below w.heap.size w w2) := Lib.hid (HBW.out.trans (Upd.below hU2 (by omega) (fun k hk e => by omega)))
        have HF : Hid (RsRes w cs (.returned (.slice (some ⟨g, 0, none⟩) n1 c1)) w2) := Lib.hid ⟨_, n1, c1, sy, rfl, hO2, hM2.1.perm, hM2.2, HBF.out⟩
        clear hO2 hU2 hM2
        go_wp2_with fail
        go_ret
        exact HF.out
end Go.Proofs.Ytpolbnobnilfcaa
