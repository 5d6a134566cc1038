/- The document's Unpack of runs. -/
import Derived.Test.YthnfnfaiicfenaaUa
import Derived.Test.YthnfnfaiicfenaaZf
import Derived.Deep.DeepCutAuto
namespace Go.Proofs.Ythnfnfaiicfenaa
open Go.ChangeShapes Go.WideShapes Go.ChangeAt Go.RowKit

/-- What is written of a run, after k bytes. -/
def partR (n : Nat) (s : List UInt8) (k : Nat) : List UInt8 := if 128 < n then List.replicate k (s.getD 0 0) else s.take k
theorem partR_zero (n : Nat) (s : List UInt8) : partR n s 0 = [] := by unfold partR; split <;> simp
theorem partR_succ (n : Nat) (s : List UInt8) (k : Nat) (h : n ≤ 128 → k < s.length) : partR n s (k + 1) = partR n s k ++ [if 128 < n then s.getD 0 0 else s.getD k 0] := by
  unfold partR
  by_cases hn : 128 < n
  · simp only [if_pos hn, List.replicate_succ']
  · simp only [if_neg hn]
    rw [List.take_succ_eq_append_getElem (h (by omega)), List.getD_eq_getElem?_getD, List.getElem?_eq_getElem (h (by omega))]
    rfl
theorem partR_length (n : Nat) (s : List UInt8) (k : Nat) (h : n ≤ 128 → k ≤ s.length) : (partR n s k).length = k := by
  unfold partR
  by_cases hn : 128 < n
  · simp [if_pos hn]
  · have := h (by omega); simp [if_neg hn]; omega
theorem drop_get (l : List UInt8) (i : Nat) (h : i < l.length) : (l.drop i).getD 0 0 = l[i] := by
  rw [List.drop_eq_getElem_cons h]; rfl
theorem drop_getk (l : List UInt8) (i k : Nat) (h : i + k < l.length) : (l.drop i).getD k 0 = l[i + k] := by
  rw [List.getD_eq_getElem?_getD, List.getElem?_drop, List.getElem?_eq_getElem h]; rfl
set_option maxHeartbeats 8000000 in
set_option maxRecDepth 100000 in
theorem refRuns_any (w : World) (A : Option Addr) (c n : Nat) (b : List UInt8) (most : Int) (hn : b.length = n) (h : Bs w w.heap.size A b) (hb : b.length ≤ 4000000) (hmax : most ≤ 9223372036854775807) :
    Calls Try.prog 18 #[.slice A n c, .int .i64 most] w (UnpackR w (runsM b most.toNat)) := by
  subst hn
  have HB := Lib.hid h
  clear h
  obtain ⟨X, HX⟩ : ∃ X, Hid (runsM b most.toNat = X) := ⟨_, Lib.hid rfl⟩
  rw [HX.out]
  obtain ⟨M, hM⟩ : ∃ M, M = most.toNat := ⟨_, rfl⟩
  rw [← hM] at HX
  have HMm := Lib.hid hM
  clear hM
  obtain ⟨i0, hi, hz0, hz1, hz2⟩ := info_parts info_u8
  go_enter Try.func18, Try.ntmps18
  go_upto_if 13 with (fail)
  go_cut [1] (fun v wx => v = .int .i64 (M : Int) ∧ w = wx)
  case first =>
    by_cases hm : most < 0
    · have d : decide (most < 0) = true := by simp; omega
      have HM0 : Hid ((M : Int) = 0) := Lib.hid (by have := HMm.out; omega)
      go_wp2_with fail
      go_meet
      exact ⟨by rw [HM0.out], rfl⟩
    · have d : decide (most < 0) = false := by simp; omega
      have HM0 : Hid ((M : Int) = most) := Lib.hid (by have := HMm.out; omega)
      go_wp2_with fail
      go_meet
      exact ⟨by rw [HM0.out], rfl⟩
  case rest =>
    obtain ⟨rfl, rfl⟩ := hcut
    have hm63 : (M : Int) ≤ 9223372036854775807 := by have := HMm.out; omega
    have HX0 : Hid (runsF M (b.length + 1) (b.drop 0) [] = X) := HX
    clear HX HMm
    go_wp2_with fail
    go_loopg [6, 7] b.length (fun gk vo vi wr => ∃ (i : Nat) (Ao : Option Addr) (co : Nat) (out : List UInt8) (L f : Nat), gk = b.length - i ∧ i ≤ b.length ∧ vi = .int .i64 (i : Int) ∧ vo = .slice Ao L co ∧ Hid (out.length = L) ∧ L ≤ 128 * i ∧ L ≤ M ∧ b.length - i < f ∧ Hid (wr.ownsRow w.heap.size 5 1 (.slice Ao L co) L (bytesV out)) ∧ Hid (Below w.heap.size w wr) ∧ Hid (runsF M f (b.drop i) out = X))
    case atStart => exact ⟨0, none, 0, [], 0, b.length + 1, rfl, by omega, rfl, rfl, Lib.hid rfl, by omega, by omega, by omega, Lib.hid (World.ownsRow_nil _ _ _ _), Lib.hid (Below.refl _ _), HX0⟩
    case round =>
      obtain ⟨i, Ao, co, out, L, f, rfl, hi1, rfl, rfl, HL, hL1, hL2, hf, HO, HBw, HXr⟩ := hrel
      clear HX0
      obtain ⟨g, rfl⟩ : ∃ g, f = g + 1 := ⟨f - 1, by omega⟩
      by_cases hlt : i < b.length
      · have hxr := HXr.out
        rw [List.drop_eq_getElem_cons hlt, runsF_cons] at hxr
        obtain ⟨ad, rfl, hadb, hcx⟩ := Bs.at_ (HB.out.below HBw.out) hlt
        have hxb := byte_lt b[i]
        obtain ⟨x, hx⟩ : ∃ x, b[i].toNat = x := ⟨_, rfl⟩
        rw [hx] at hxr hcx hxb
        have HXc := Lib.hid hxr
        clear hxr HXr hx
        by_cases hx128 : x < 128
        · have hmany : ∃ m, m = (x + 1) := ⟨_, rfl⟩
          obtain ⟨m, hmd⟩ := hmany
          have hm1 : (m : Int) = ((x : Int) + 1) := by omega
          have hm2 : m ≤ 128 := by omega
          have hm0 : 1 ≤ m := by omega
          have HMD := Lib.hid (And.intro hmd hm1)
          clear hmd hm1
          have d128 : ((x : Int) == 128) = false := by simp; omega
          by_cases h5 : b.length - (i + 1) < (x + 1)
          · have HXn : Hid (X = .error 5) := Lib.hid (by
              have e := HXc.out
              rw [if_pos hx128, if_pos (by rw [List.length_drop]; omega)] at e; exact e.symm)
            clear HXc
            go_wp2_with fail
            go_ret2
            rw [HXn.out]
            exact ⟨rfl, HBw.out⟩
          have HX3 : Hid ((if M < L + (x + 1) then .error 3 else runsF M g (b.drop (i + 1 + (x + 1))) (out ++ (b.drop (i + 1)).take (x + 1)) : Except Nat (List UInt8)) = X) := Lib.hid (by
            have e := HXc.out
            rw [if_pos hx128, if_neg (by rw [List.length_drop]; omega), HL.out, List.drop_drop] at e; exact e)
          have hpart : Hid (partR x (b.drop (i + 1)) m = (b.drop (i + 1)).take (x + 1)) := Lib.hid (by unfold partR; rw [if_neg (by omega), HMD.out.1])
          clear HXc
          by_cases h3 : M < L + m
          · have HXn : Hid (X = .error 3) := Lib.hid (by
              have e := HX3.out
              have := HMD.out.1
              rw [if_pos (by omega)] at e; exact e.symm)
            have hm1 : (m : Int) = ((x : Int) + 1) := HMD.out.2
            have h3' : (M : Int) - (L : Int) < ((x : Int) + 1) := by omega
            clear HX3 hpart hm1
            go_wp2_with fail
            go_ret2
            rw [HXn.out]
            exact ⟨rfl, HBw.out⟩
          have HXn : Hid (runsF M g (b.drop (i + 1 + (x + 1))) (out ++ partR x (b.drop (i + 1)) m) = X) := Lib.hid (by
            have e := HX3.out
            have := HMD.out.1
            rw [if_neg (by omega)] at e
            rw [hpart.out]; exact e)
          have h3' : ¬ (M : Int) - (L : Int) < ((x : Int) + 1) := by have := HMD.out.2; omega
          clear HX3 hpart
          obtain ⟨w5, rfl⟩ : ∃ x, x = wr := ⟨_, rfl⟩
          have H0 : Hid (w5.ownsRow w.heap.size 5 1 (.slice Ao (L + 0) co) (L + 0) (bytesV (out ++ partR x (b.drop (i + 1)) 0))) := Lib.hid (by rw [partR_zero, List.append_nil]; exact HO.out)
          go_wp2_with fail
          go_loopw [6, 11] (fun vo vk wr => ∃ (k : Nat) (A2 : Option Addr) (c2 : Nat), k ≤ m ∧ vk = .int .i64 (k : Int) ∧ vo = .slice A2 (L + k) c2 ∧ Hid (wr.ownsRow w.heap.size 5 1 (.slice A2 (L + k) c2) (L + k) (bytesV (out ++ partR x (b.drop (i + 1)) k))) ∧ Hid (Below w.heap.size w wr)) (fun _ vk _ => m - (intOf vk).toNat)
          case atStart => exact ⟨0, Ao, co, by omega, rfl, rfl, H0, HBw⟩
          case round =>
            obtain ⟨k, A2, c2, hk, rfl, rfl, HO2, HB2⟩ := hrel
            clear H0
            by_cases hlt2 : k < m
            · have hm1 : (m : Int) = ((x : Int) + 1) := HMD.out.2
              have hlt3 : (k : Int) < ((x : Int) + 1) := by omega
              have HS : Hid (partR x (b.drop (i + 1)) (k + 1) = partR x (b.drop (i + 1)) k ++ [b[i + 1 + k]'(by omega)]) := Lib.hid (by
                rw [partR_succ _ _ _ (fun _ => by rw [List.length_drop]; omega)]
                rw [if_neg (by omega), drop_getk _ _ _ (by omega)])
              obtain ⟨a2, ha2, _, hcy⟩ := Bs.at_ (HB.out.below HB2.out) (k := i + 1 + k) (by omega)
              injection ha2 with ha2
              subst ha2
              generalize b[i + 1 + k]'(by omega) = y at *
              have hyb := byte_lt y
              have hcA : (wr.alloc (.cells #[.int .u8 (y.toNat : Int)] 5)).heap.size = wr.heap.size + 1 := by simp
              have hsz := HB2.out.size
              have hO := HO2.out.alloc (.cells #[.int .u8 (y.toNat : Int)] 5)
              have HBA := Lib.hid (HB2.out.alloc hsz (.cells #[.int .u8 (y.toNat : Int)] 5))
              have hszA := HBA.out.size
              have HCA := Lib.hid hcA
              clear hm1 hcA
              go_wp2_with (at_builtin; refine wpList_append_vs (wr.alloc (.cells #[.int .u8 (y.toNat : Int)] 5)) rfl (.tmp 61) (.tmp 68) _ rfl w.heap.size 5 i0 (.int .u8 0) 1 Try.underlying22 hi hz0 hz1 hz2 rfl (.slice A2 (L + k) c2) (L + k) (bytesV (out ++ partR x (b.drop (i + 1)) k)) rfl hO (wr.heap.size + 1) (some ⟨wr.heap.size, 0, none⟩) 1 1 [.int .u8 (y.toNat : Int)] rfl rfl (vs_lit wr 5 [.int .u8 (y.toNat : Int)] (wr.heap.size + 1) (by simp)) (by simp [Value.oneCell']) (by unfold maxLen; omega) (by omega) hszA ?_; intro A3 c3 w3 o3 hg3 hat3)
              have HO3 : Hid (w3.ownsRow w.heap.size 5 1 (.slice A3 (L + (k + 1)) c3) (L + (k + 1)) (bytesV (out ++ partR x (b.drop (i + 1)) (k + 1)))) := Lib.hid (by rw [HS.out, ← List.append_assoc, bytesV_append]; exact o3)
              have HB3 : Hid (Below w.heap.size w w3) := Lib.hid (HBA.out.grown hg3 hszA (fun g hg => (HO2.out.lt g hg).1))
              clear o3 hg3 hat3
              go_roundw
              case rel => exact ⟨k + 1, A3, c3, by omega, by go_num, rfl, HO3, HB3⟩
              case measure => simp [intOf]; omega
            · obtain rfl : k = m := by omega
              have hm1 : (k : Int) = ((x : Int) + 1) := HMD.out.2
              have hge : ¬ (k : Int) < ((x : Int) + 1) := by omega
              have HLm : Hid ((out ++ partR x (b.drop (i + 1)) k).length = L + k) := Lib.hid (by rw [List.length_append, HL.out, partR_length _ _ _ (fun _ => by rw [List.length_drop]; omega)])
              clear hm1
              go_wp2_with fail
              go_roundg (b.length - (i + 1 + (x + 1)))
              case measure => omega
              case rel => exact ⟨i + 1 + (x + 1), A2, c2, _, L + k, g, rfl, by omega, by go_num, rfl, HLm, by omega, by omega, by omega, HO2, HB2, HXn⟩
        by_cases hxe : x = 128
        · have HXn : Hid (runsF M g (b.drop (i + 1)) out = X) := Lib.hid (by
            have e := HXc.out
            rw [if_neg hx128, if_pos hxe] at e; exact e)
          have d128 : ((x : Int) == 128) = true := by simp; omega
          clear HXc hx128 hxe
          go_wp2_with fail
          go_roundg (b.length - (i + 1))
          case measure => omega
          case rel => exact ⟨i + 1, Ao, co, out, L, g, rfl, by omega, by go_num, rfl, HL, by omega, by omega, by omega, HO, HBw, HXn⟩
        have hmany : ∃ m, m = (257 - x) := ⟨_, rfl⟩
        obtain ⟨m, hmd⟩ := hmany
        have hm1 : (m : Int) = (257 - (x : Int)) := by omega
        have hm2 : m ≤ 128 := by omega
        have hm0 : 1 ≤ m := by omega
        have HMD := Lib.hid (And.intro hmd hm1)
        clear hmd hm1
        have d128 : ((x : Int) == 128) = false := by simp; omega
        by_cases h5 : b.length - (i + 1) < 1
        · have HXn : Hid (X = .error 5) := Lib.hid (by
            have e := HXc.out
            rw [if_neg hx128, if_neg hxe] at e; rw [List.drop_eq_nil_of_le (by omega)] at e; exact e.symm)
          clear HXc
          go_wp2_with fail
          go_ret2
          rw [HXn.out]
          exact ⟨rfl, HBw.out⟩
        have hi2 : i + 1 < b.length := by omega
        have HX3 : Hid ((if M < L + (257 - x) then .error 3 else runsF M g (b.drop (i + 1 + 1)) (out ++ List.replicate (257 - x) b[i + 1]) : Except Nat (List UInt8)) = X) := Lib.hid (by
          have e : (match b.drop (i + 1) with | [] => .error 5 | y :: s => if M < out.length + (257 - x) then .error 3 else runsF M g s (out ++ List.replicate (257 - x) y) : Except Nat (List UInt8)) = X := by have e := HXc.out; rw [if_neg hx128, if_neg hxe] at e; exact e
          rw [List.drop_eq_getElem_cons hi2, HL.out] at e
          exact e)
        have hpart : Hid (partR x (b.drop (i + 1)) m = List.replicate (257 - x) b[i + 1]) := Lib.hid (by
          unfold partR
          rw [if_pos (by omega), HMD.out.1, drop_get _ _ hi2])
        clear HXc
        by_cases h3 : M < L + m
        · have HXn : Hid (X = .error 3) := Lib.hid (by
            have e := HX3.out
            have := HMD.out.1
            rw [if_pos (by omega)] at e; exact e.symm)
          have hm1 : (m : Int) = (257 - (x : Int)) := HMD.out.2
          have h3' : (M : Int) - (L : Int) < (257 - (x : Int)) := by omega
          clear HX3 hpart hm1
          go_wp2_with fail
          go_ret2
          rw [HXn.out]
          exact ⟨rfl, HBw.out⟩
        have HXn : Hid (runsF M g (b.drop (i + 1 + 1)) (out ++ partR x (b.drop (i + 1)) m) = X) := Lib.hid (by
          have e := HX3.out
          have := HMD.out.1
          rw [if_neg (by omega)] at e
          rw [hpart.out]; exact e)
        have h3' : ¬ (M : Int) - (L : Int) < (257 - (x : Int)) := by have := HMD.out.2; omega
        clear HX3 hpart
        obtain ⟨w5, rfl⟩ : ∃ x, x = wr := ⟨_, rfl⟩
        have H0 : Hid (w5.ownsRow w.heap.size 5 1 (.slice Ao (L + 0) co) (L + 0) (bytesV (out ++ partR x (b.drop (i + 1)) 0))) := Lib.hid (by rw [partR_zero, List.append_nil]; exact HO.out)
        go_wp2_with fail
        go_loopw [6, 11] (fun vo vk wr => ∃ (k : Nat) (A2 : Option Addr) (c2 : Nat), k ≤ m ∧ vk = .int .i64 (k : Int) ∧ vo = .slice A2 (L + k) c2 ∧ Hid (wr.ownsRow w.heap.size 5 1 (.slice A2 (L + k) c2) (L + k) (bytesV (out ++ partR x (b.drop (i + 1)) k))) ∧ Hid (Below w.heap.size w wr)) (fun _ vk _ => m - (intOf vk).toNat)
        case atStart => exact ⟨0, Ao, co, by omega, rfl, rfl, H0, HBw⟩
        case round =>
          obtain ⟨k, A2, c2, hk, rfl, rfl, HO2, HB2⟩ := hrel
          clear H0
          by_cases hlt2 : k < m
          · have hm1 : (m : Int) = (257 - (x : Int)) := HMD.out.2
            have hlt3 : (k : Int) < (257 - (x : Int)) := by omega
            have HS : Hid (partR x (b.drop (i + 1)) (k + 1) = partR x (b.drop (i + 1)) k ++ [b[i + 1]'(by omega)]) := Lib.hid (by
              rw [partR_succ _ _ _ (fun _ => by rw [List.length_drop]; omega)]
              rw [if_pos (by omega), drop_get _ _ hi2])
            obtain ⟨a2, ha2, _, hcy⟩ := Bs.at_ (HB.out.below HB2.out) (k := i + 1) (by omega)
            injection ha2 with ha2
            subst ha2
            have hcy' := hcy
            rw [add_succ] at hcy'
            generalize b[i + 1]'(by omega) = y at *
            have hyb := byte_lt y
            have hcA : (wr.alloc (.cells #[.int .u8 (y.toNat : Int)] 5)).heap.size = wr.heap.size + 1 := by simp
            have hsz := HB2.out.size
            have hO := HO2.out.alloc (.cells #[.int .u8 (y.toNat : Int)] 5)
            have HBA := Lib.hid (HB2.out.alloc hsz (.cells #[.int .u8 (y.toNat : Int)] 5))
            have hszA := HBA.out.size
            have HCA := Lib.hid hcA
            clear hm1 hcA
            go_wp2_with (at_builtin; refine wpList_append_vs (wr.alloc (.cells #[.int .u8 (y.toNat : Int)] 5)) rfl (.tmp 54) (.tmp 59) _ rfl w.heap.size 5 i0 (.int .u8 0) 1 Try.underlying22 hi hz0 hz1 hz2 rfl (.slice A2 (L + k) c2) (L + k) (bytesV (out ++ partR x (b.drop (i + 1)) k)) rfl hO (wr.heap.size + 1) (some ⟨wr.heap.size, 0, none⟩) 1 1 [.int .u8 (y.toNat : Int)] rfl rfl (vs_lit wr 5 [.int .u8 (y.toNat : Int)] (wr.heap.size + 1) (by simp)) (by simp [Value.oneCell']) (by unfold maxLen; omega) (by omega) hszA ?_; intro A3 c3 w3 o3 hg3 hat3)
            have HO3 : Hid (w3.ownsRow w.heap.size 5 1 (.slice A3 (L + (k + 1)) c3) (L + (k + 1)) (bytesV (out ++ partR x (b.drop (i + 1)) (k + 1)))) := Lib.hid (by rw [HS.out, ← List.append_assoc, bytesV_append]; exact o3)
            have HB3 : Hid (Below w.heap.size w w3) := Lib.hid (HBA.out.grown hg3 hszA (fun g hg => (HO2.out.lt g hg).1))
            clear o3 hg3 hat3
            go_roundw
            case rel => exact ⟨k + 1, A3, c3, by omega, by go_num, rfl, HO3, HB3⟩
            case measure => simp [intOf]; omega
          · obtain rfl : k = m := by omega
            have hm1 : (k : Int) = (257 - (x : Int)) := HMD.out.2
            have hge : ¬ (k : Int) < (257 - (x : Int)) := by omega
            have HLm : Hid ((out ++ partR x (b.drop (i + 1)) k).length = L + k) := Lib.hid (by rw [List.length_append, HL.out, partR_length _ _ _ (fun _ => by rw [List.length_drop]; omega)])
            clear hm1
            go_wp2_with fail
            go_roundg (b.length - (i + 1 + 1))
            case measure => omega
            case rel => exact ⟨i + 1 + 1, A2, c2, _, L + k, g, rfl, by omega, by go_num, rfl, HLm, by omega, by omega, by omega, HO2, HB2, HXn⟩
      · have hnil : b.drop i = [] := List.drop_eq_nil_of_le (by omega)
        have hxr := HXr.out
        rw [hnil, runsF_nil] at hxr
        have HXn : Hid (X = .ok out) := Lib.hid hxr.symm
        clear hnil hxr HXr
        go_wp2_with fail
        go_ret2
        rw [HXn.out]
        exact ⟨Ao, co, by rw [HL.out]; rfl, by rw [HL.out]; exact HO.out, HBw.out⟩
end Go.Proofs.Ythnfnfaiicfenaa
