/- Are two lists of chunks the same? The document's. -/
import Derived.Test.YtaloieeemibblaaEz
import Derived.Test.YtaloieeemibblaaFj
set_option linter.unusedVariables false
set_option linter.unusedSimpArgs false
namespace Go.Proofs.Ytaloieeemibblaa
open Go.ChangeShapes Go.WideShapes Go.ChangeAt Go.RowKit

/-- Two chunks are the same: type and data. -/
def eqCk (a b : Ck) : Bool := (a.t.toList == b.t.toList) && (a.d == b.d)
def eqAt (l m : List Ck) (j : Nat) : Bool := match l[j]?, m[j]? with
  | some a, some b => eqCk a b
  | _, _ => false
def sameC (l m : List Ck) : Bool := decide (l.length = m.length) && (List.range l.length).all (eqAt l m)
theorem loop_data (s : ByteArray) : ∀ (n i : Nat) (r : List UInt8), s.size - i = n → ByteArray.toList.loop s i r = r.reverse ++ s.data.toList.drop i
  | 0, i, r, h => by
    rw [ByteArray.toList.loop, if_neg (by omega)]
    have : s.data.toList.drop i = [] := List.drop_of_length_le (by have := sb_len s; simp only [sb] at this; omega)
    rw [this, List.append_nil]
  | n + 1, i, r, h => by
    have hi : i < s.data.toList.length := by have := sb_len s; simp only [sb] at this; omega
    rw [ByteArray.toList.loop, if_pos (by omega), loop_data s n (i + 1) _ (by omega), List.drop_eq_getElem_cons hi]
    have e : s.get! i = s.data.toList[i] := by
      have hi2 : i < s.data.size := by simpa using hi
      show s.data[i]! = _
      rw [getElem!_pos s.data i hi2]
      simp
    rw [e]
    simp
theorem toList_sb (s : ByteArray) : s.toList = sb s := by
  unfold ByteArray.toList
  rw [loop_data s s.size 0 [] (by omega)]
  simp
theorem toList_eq {s t : ByteArray} (h : s.toList = t.toList) : s = t := by
  rw [toList_sb, toList_sb] at h
  rw [← sb_mk s, ← sb_mk t, h]
theorem sameC_self (l : List Ck) : sameC l l = true := by
  unfold sameC
  rw [decide_eq_true rfl, Bool.true_and, List.all_eq_true]
  intro j hj
  have hj := List.mem_range.1 hj
  unfold eqAt
  rw [List.getElem?_eq_getElem hj]
  simp [eqCk]
theorem sameC_eq {l m : List Ck} (h : sameC l m = true) : l = m := by
  unfold sameC at h
  simp only [Bool.and_eq_true, decide_eq_true_eq] at h
  obtain ⟨h1, h2⟩ := h
  refine List.ext_getElem h1 (fun i hi hm => ?_)
  have := List.all_eq_true.1 h2 i (List.mem_range.2 hi)
  unfold eqAt at this
  rw [List.getElem?_eq_getElem hi, List.getElem?_eq_getElem hm] at this
  simp only [eqCk, Bool.and_eq_true, beq_iff_eq] at this
  obtain ⟨a, b⟩ := this
  have a := toList_eq a
  generalize l[i] = x at *
  generalize m[i] = y at *
  cases x; cases y; simp_all
set_option maxRecDepth 100000 in
set_option maxHeartbeats 4000000 in
theorem sameChunks_any (A1 A2 : Option Addr) (n m c1 c2 : Nat) (l1 l2 : List Ck) (hn : l1.length = n) (hm : l2.length = m) (hn9 : n ≤ 17592186043904) (hm9 : m ≤ 17592186043904) (hd : ∀ k ∈ l1, k.d.length ≤ maxLen) (B : Nat) (w : World) (h1 : Cks w B A1 l1) (h2 : Cks w B A2 l2) :
    Calls Try.prog 14 #[.slice A1 n c1, .slice A2 m c2] w fun e w' => e = .returned (.bool (sameC l1 l2)) ∧ ∃ q, w' = w.drewN q := by
  have HN := Lib.hid hn; have HM := Lib.hid hm
  by_cases hnm : n = m
  · subst hnm
    go_enter Try.func14, Try.ntmps14
    go_wp2_with fail
    go_loopw [5] (fun i wr => ∃ (k : Nat), k ≤ n ∧ i = .int .i64 (k : Int) ∧ (List.range k).all (eqAt l1 l2) = true ∧ Hid ((∃ q, wr = w.drewN q) ∧ Cks wr B A1 l1 ∧ Cks wr B A2 l2)) (fun i _ => n - (intOf i).toNat)
    case atStart => exact ⟨0, Nat.zero_le _, rfl, rfl, Lib.hid ⟨⟨0, rfl⟩, h1, h2⟩⟩
    case round =>
      obtain ⟨k, hk, rfl, hall, HV⟩ := hrel
      clear h1 h2
      by_cases hlt : k < n
      · have hk1 : k < l1.length := by omega
        have hk2 : k < l2.length := by omega
        obtain ⟨b, off, rfl, hbB, hc⟩ := HV.out.2.1 (by omega)
        obtain ⟨x0, D, cd, x1, xb⟩ := hc k hk1
        obtain ⟨b', off', rfl, hbB', hc'⟩ := HV.out.2.2 (by omega)
        obtain ⟨y0, D', cd', y1, yb⟩ := hc' k hk2
        have HCK : Hid (eqAt l1 l2 k = ((l1[k].t.toList == l2[k].t.toList) && (l1[k].d == l2[k].d))) := Lib.hid (by unfold eqAt; rw [List.getElem?_eq_getElem hk1, List.getElem?_eq_getElem hk2]; rfl)
        have HNX := Lib.hid (fun h => range_all_next (n := n) (f := eqAt l1 l2) (k := k) hall h)
        have HBAD : Hid (eqAt l1 l2 k = false → sameC l1 l2 = false) := Lib.hid (fun h => by unfold sameC; rw [HN.out, range_all_no hlt h, Bool.and_false])
        have HSM := Lib.hid (fun q => same_n D D' _ _ cd cd' l1[k].d l2[k].d rfl rfl B (wr.drewN q) xb yb (hd _ (List.getElem_mem hk1)))
        generalize l1[k].d = d1 at *
        generalize l2[k].d = d2 at *
        generalize l1[k].t = t1 at *
        generalize l2[k].t = t2 at *
        generalize d1.length = dn1 at *
        generalize d2.length = dn2 at *
        clear hc hc' xb yb hall hd
        cases hts : (t1.toList == t2.toList) with
        | false =>
          rw [hts, Bool.false_and] at HCK
          have HB := Lib.hid (HBAD.out HCK.out)
          clear HBAD HNX HCK HSM
          go_wp2_with fail
          go_quiet (fail)
          rename_i nq
          have HV2 : Hid (∃ q, wr.drewN nq = w.drewN q) := Lib.hid (by obtain ⟨⟨q, rfl⟩, _⟩ := HV.out; exact ⟨_, World.drewN_drewN _ _ _⟩)
          go_wp2_with fail
          go_ret
          exact ⟨ret_bool HB.out.symm, HV2.out⟩
        | true =>
          rw [hts, Bool.true_and] at HCK
          cases hdd : (d1 == d2) with
          | false =>
            rw [hdd] at HCK HSM
            have HB := Lib.hid (HBAD.out HCK.out)
            clear HBAD HNX HCK
            go_wp2_with fail
            go_quiet ((go_at_call 18; exact Calls.quiet_of (HSM.out _)))
            rename_i nq
            have HV2 : Hid (∃ q, wr.drewN nq = w.drewN q) := Lib.hid (by obtain ⟨⟨q, rfl⟩, _⟩ := HV.out; exact ⟨_, World.drewN_drewN _ _ _⟩)
            go_wp2_with fail
            go_ret
            exact ⟨ret_bool HB.out.symm, HV2.out⟩
          | true =>
            rw [hdd] at HCK HSM
            have HN2 := Lib.hid (HNX.out HCK.out)
            clear HBAD HNX HCK
            go_wp2_with fail
            go_quiet ((go_at_call 18; exact Calls.quiet_of (HSM.out _)))
            rename_i nq
            have HV2 : Hid ((∃ q, wr.drewN nq = w.drewN q) ∧ Cks (wr.drewN nq) B (some ⟨b, off, none⟩) l1 ∧ Cks (wr.drewN nq) B (some ⟨b', off', none⟩) l2) := Lib.hid ⟨by obtain ⟨⟨q, rfl⟩, _⟩ := HV.out; exact ⟨_, World.drewN_drewN _ _ _⟩, HV.out.2⟩
            go_wp2_with fail
            go_roundw
            case rel => exact ⟨k + 1, by omega, by go_num, HN2.out, HV2⟩
            case measure => simp [intOf]; omega
      · obtain rfl : n = k := by omega
        have HB : Hid (sameC l1 l2 = true) := Lib.hid (by unfold sameC; rw [HN.out, HM.out, hall, decide_eq_true rfl]; rfl)
        go_wp2_with fail
        go_ret
        exact ⟨ret_bool HB.out.symm, HV.out.1⟩
  · have HB : Hid (sameC l1 l2 = false) := Lib.hid (by unfold sameC; rw [HN.out, HM.out, decide_eq_false hnm, Bool.false_and])
    have hnm2 : ¬ (n : Int) = (m : Int) := by omega
    go_enter Try.func14, Try.ntmps14
    go_wp2_with fail
    go_ret
    exact ⟨ret_bool HB.out.symm, 0, rfl⟩
end Go.Proofs.Ytaloieeemibblaa
