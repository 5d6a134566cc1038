/- Contract of the document's Least. -/
import Derived.Test.YtpolbnobnilfcaaLm
import Derived.Test.YtpolbnobnilfcaaAs
import Derived.Deep.CutBlock
namespace Go.Proofs.Ytpolbnobnilfcaa
open Go.ChangeShapes Go.WideShapes Go.ChangeAt Go.RowKit

def LeastRes (w : World) (l : List Int) (k : Nat) (e : Ending) (w' : World) : Prop :=
  ∃ own : List Nat, own.Perm (posL l) ∧ own.Pairwise (· ≤ ·) ∧ e = .returned (.int .i64 ((leastOf own k : Nat) : Int)) ∧ Below w.heap.size w w'
/-- A row of the call's own that reads as the numbers L. -/
def Own (w wr : World) (v : Value) (L : List Nat) : Prop := ∃ A c, v = .slice A L.length c ∧ wr.ownsRow w.heap.size 3 1 (.slice A L.length c) L.length (intsV (natsI L))
theorem Own.upd {w wr w' : World} {v : Value} {L : List Nat} (h : Own w wr v L) (hb : Below wr.heap.size wr w') : Own w w' v L := by
  obtain ⟨A, c, rfl, hO⟩ := h
  exact ⟨A, c, rfl, own_upd hO (Upd.of_fresh hb) (fun _ _ => id)⟩
theorem Own.mk {w wr : World} {base : Nat} {A : Option Addr} {n c : Nat} {L : List Nat} (hO : wr.ownsRow base 3 1 (.slice A n c) n (intsV (natsI L))) (hb : w.heap.size ≤ base) : Own w wr (.slice A n c) L := by
  have hl := own_len hO
  rw [intsV_length, natsI_length] at hl
  subst hl
  refine ⟨A, c, rfl, hO.1, ?_⟩
  rcases hO.2 with h | ⟨g, cap, cur, h1, h2, h3⟩
  · exact .inl h
  · exact .inr ⟨g, cap, cur, h1, by omega, h3⟩
theorem Own.is_ {w wr : World} {A : Option Addr} {n c : Nat} {L : List Nat} (h : Own w wr (.slice A n c) L) : L.length = n ∧ Is wr wr.heap.size A (natsI L) := by
  obtain ⟨A', c', hv, hO⟩ := h
  injection hv with h1 h2 h3
  subst h1 h2 h3
  exact ⟨rfl, Vs.of_own hO⟩

set_option maxHeartbeats 4000000 in
set_option maxRecDepth 100000 in
theorem refLeast_any (A : Option Addr) (c : Nat) (l : List Int) (k : Nat) (w : World) (hbs : Is w w.heap.size A l) (hl : l.length ≤ 4096) (hk : k < 16) (hbd : ∀ x ∈ l, x ≤ 1073741824) (hn : posN l ≤ 2 ^ (k + 1)) :
    Calls Try.prog 24 #[.slice A l.length c, .int .i64 ((k : Int) + 1)] w (LeastRes w l k) := by
  obtain ⟨i0, hi, hz0, hz1, hz2⟩ := info_parts info_int
  have HBD := Lib.hid hbd; clear hbd
  have HN := Lib.hid hn; clear hn
  go_enter Try.func24, Try.ntmps24
  go_wp2_with fail
  go_loopw [5, 6] (fun v i wr => ∃ p : Nat, p ≤ l.length ∧ i = .int .i64 p ∧ Own w wr v (posL (l.take p)) ∧ Below w.heap.size w wr) (fun _ i _ => l.length - (intOf i).toNat)
  case atStart => exact ⟨0, by omega, rfl, ⟨none, 0, rfl, World.ownsRow_nil w w.heap.size 3 1⟩, Below.refl _ _⟩
  case round =>
    obtain ⟨p, hp, rfl, ⟨A1, c1, rfl, hO⟩, hB⟩ := hrel
    have HO := Lib.hid hO; clear hO
    have HB := Lib.hid hB; clear hB
    have hs := HB.out.size
    have hpl : (posL (l.take p)).length ≤ 4096 := by rw [posL_length]; have := posN_le l p; omega
    by_cases hlt : p < l.length
    · obtain ⟨ad, rfl, _, hcx⟩ := Is.at_ (Vs.below hbs HB.out) hlt
      have HS := Lib.hid (posL_succ l p hlt)
      generalize l[p] = x at *
      generalize posL (l.take p) = L at *
      by_cases hx : 0 < x
      · have d1 : decide (0 < x) = true := by simpa using hx
        have HX : Hid (posL (l.take (p + 1)) = L ++ [x.toNat]) := Lib.hid (by rw [HS.out, if_pos hx])
        have hxn : ((x.toNat : Nat) : Int) = x := by omega
        have HXN := Lib.hid hxn; clear hxn
        go_wp2_with (at_builtin; refine wpList_append_vs _ rfl (.tmp 24) (.tmp 29) _ rfl w.heap.size 3 i0 (.int .i64 0) 8 Try.underlying22 hi hz0 hz1 hz2 rfl (.slice A1 L.length c1) L.length (intsV (natsI L)) rfl (HO.out.alloc _) (wr.heap.size + 1) (some ⟨wr.heap.size, 0, none⟩) 1 1 [.int .i64 x] rfl rfl (vs_lit1 wr 3 _) (by simp [Value.oneCell']) (by unfold maxLen; omega) (by omega) (by simp; omega) ?_; intro A2 c2 w2 o2 hg2 _)
        go_roundw
        case rel =>
          refine ⟨p + 1, by omega, by go_num, Own.mk (base := w.heap.size) ?_ (Nat.le_refl _), (HB.out.alloc hs _).grown hg2 (by simp; omega) (fun g hg => (HO.out.lt g hg).1)⟩
          rw [HX.out, natsI_append, intsV_append]
          have e : intsV (natsI [x.toNat]) = [.int .i64 x] := by simp only [natsI, intsV, List.map_cons, List.map_nil, HXN.out]
          rw [e]
          exact o2
        case measure => simp [intOf]; omega
      · have d1 : decide (0 < x) = false := by simpa using hx
        have HX : Hid (posL (l.take (p + 1)) = L) := Lib.hid (by rw [HS.out, if_neg hx, List.append_nil])
        go_wp2_with fail
        go_roundw
        case rel => exact ⟨p + 1, by omega, by go_num, by rw [HX.out]; exact ⟨A1, c1, rfl, HO.out⟩, HB.out⟩
        case measure => simp [intOf]; omega
    · have hpn : p = l.length := by omega
      subst hpn
      rw [List.take_length] at HO hpl ⊢
      go_wp2_with fail
      have hsr := refSorted_any A1 c1 (natsI (posL l)) wr (Vs.of_own HO.out) (by rw [natsI_length]; omega)
      unfold SortRes at hsr
      simp only [natsI_length] at hsr
      refine hsr.mono ?_
      rintro e w1 ⟨A2, c2, L, rfl, o2, hP, hSo, hb2⟩
      obtain ⟨own, rfl, hPo, hS⟩ := natsI_perm hP hSo
      have hnl : own.length = (posL l).length := hPo.length_eq
      rw [← hnl] at o2 ⊢
      clear hP hSo hsr
      have hnN : own.length ≤ 2 ^ (k + 1) := by rw [hnl, posL_length]; exact HN.out
      have hn4 : own.length ≤ 4096 := by omega
      have hel : ∀ x ∈ own, x ≤ 1073741824 := by
        intro x hx
        have h1 := posL_mem (hPo.mem_iff.mp hx)
        have h2 := HBD.out _ h1.2
        omega
      have hsum : own.sum ≤ 4398046511104 := by
        have h1 := sum_le_of hel
        have h2 := Nat.mul_le_mul_right 1073741824 hn4
        omega
      have HPO := Lib.hid hPo; clear hPo
      have HS2 := Lib.hid hS; clear hS
      clear hel hnl
      have hB1 : Below w.heap.size w w1 := HB.out.trans (hb2.mono hs)
      have OW := Lib.hid (Own.mk (w := w) o2 hs); clear o2 hb2
      have HB1 := Lib.hid hB1; clear hB1
      go_wp2_with fail
      obtain ⟨A3, c3, hv3, hO3⟩ := OW.out
      go_loopw [7, 8] (fun v i wr => ∃ j : Nat, j ≤ k ∧ i = .int .i64 ((j : Int) + 1) ∧ Own w wr v (wts (rowsOf own j)) ∧ Own w wr (.slice A2 own.length c2) own ∧ Below w.heap.size w wr) (fun _ i _ => 20 - (intOf i).toNat)
      case atStart => exact ⟨0, by omega, by simp, by rw [rowsOf, mg_own]; exact OW.out, OW.out, HB1.out⟩
      case round =>
        obtain ⟨j, hj, rfl, ⟨A4, c4, rfl, hO4⟩, hOwn, hB4⟩ := hrel
        have HO4 := Lib.hid hO4; clear hO4
        have HOwn := Lib.hid hOwn; clear hOwn
        have HB4 := Lib.hid hB4; clear hB4
        have hs4 := HB4.out.size
        have hRl : (wts (rowsOf own j)).length ≤ 8192 := by rw [wts_length]; have := rowsOf_length own j; omega
        have hRs : (wts (rowsOf own j)).sum ≤ 70368744177664 := by
          have h1 := rowsOf_total own j
          have h2 : (j + 1) * own.sum ≤ 16 * 4398046511104 := Nat.mul_le_mul (by omega) hsum
          omega
        have hRm := fun x (hx : x ∈ wts (rowsOf own j)) => mem_le_sum hx
        have HRM := Lib.hid hRm; clear hRm
        by_cases hjk : j < k
        · have d1 : decide ((j : Int) + 1 < (k : Int) + 1) = true := by simp; omega
          have HSU : Hid (wts (mg own (pairs (wts (rowsOf own j)))) = wts (rowsOf own (j + 1))) := Lib.hid rfl
          generalize wts (rowsOf own j) = R at *
          go_wp2_with fail
          obtain ⟨wo, hwo⟩ : ∃ wo : World, wo = wr := ⟨_, rfl⟩
          subst hwo
          go_loopw [9, 10] (fun v i wr => ∃ t q : Nat, t = 2 * q ∧ t ≤ R.length ∧ i = .int .i64 t ∧ (∃ A n c, v = .slice A n c ∧ wr.ownsRow wo.heap.size 3 1 (.slice A n c) n (intsV (natsI ((pairs R).take q)))) ∧ Below wo.heap.size wo wr) (fun _ i _ => R.length - (intOf i).toNat)
          case atStart => exact ⟨0, 0, rfl, by omega, rfl, ⟨none, 0, 0, rfl, by simpa [natsI, intsV] using World.ownsRow_nil wo wo.heap.size 3 1⟩, Below.refl _ _⟩
          case round =>
            obtain ⟨t, q, htq, ht, rfl, ⟨A5, n5, c5, rfl, hO5⟩, hB5⟩ := hrel
            have hn5 : n5 ≤ 4096 := by
              have h1 := own_len hO5
              rw [intsV_length, natsI_length] at h1
              have h2 : ((pairs R).take q).length ≤ (pairs R).length := by rw [List.length_take]; omega
              rw [pairs_length] at h2
              omega
            have HO5 := Lib.hid hO5; clear hO5
            have HB5 := Lib.hid hB5; clear hB5
            have hs5 := HB5.out.size
            by_cases hlt : t + 1 < R.length
            · have hR5 : Is wr wo.heap.size A4 (natsI R) := Vs.below (Vs.of_own HO4.out) HB5.out
              obtain ⟨ad, rfl, _, hcx⟩ := Is.at_ (k := t) hR5 (by rw [natsI_length]; omega)
              obtain ⟨ad', had, _, hcy⟩ := Is.at_ (k := t + 1) hR5 (by rw [natsI_length]; omega)
              injection had with had
              subst had
              rw [natsI_get R t (by omega)] at hcx
              rw [natsI_get R (t + 1) hlt, add_succ] at hcy
              have hx1 := HRM.out R[t] (List.getElem_mem _)
              have hy1 := HRM.out R[t + 1] (List.getElem_mem _)
              have hpg := pairs_get R q (by omega)
              have hpt : (pairs R).take (q + 1) = (pairs R).take q ++ [R[t] + R[t + 1]] := by
                obtain ⟨h1, h2⟩ := List.getElem?_eq_some_iff.mp hpg
                rw [List.take_succ_eq_append_getElem h1, h2]
                subst htq
                rfl
              have HPT := Lib.hid hpt; clear hpt hpg
              generalize R[t] = x at *
              generalize R[t + 1] = y at *
              have HTQ := Lib.hid htq; clear htq
              have s1 : IntKind.i64.wrap ((t : Int) + 1) = (t : Int) + 1 := IntWalk.i64_in _ (by omega)
              have s2 : 0 ≤ (t : Int) + 1 := by omega
              have s3 : ((t : Int) + 1).toNat = t + 1 := by omega
              have s4 : IntKind.i64.wrap ((x : Int) + (y : Int)) = (x : Int) + (y : Int) := IntWalk.i64_in _ (by omega)
              have hsw : wo.heap.size ≤ wr.heap.size := hs5
              have htR : t < R.length := by omega
              go_wp2_with fail
              go_region_law (refine step_append_vs (wr.drew.alloc (.cells #[.int .i64 ((x : Int) + (y : Int))] 3)) rfl (.tmp 46) (.tmp 57) _ rfl wo.heap.size 3 i0 (.int .i64 0) 8 Try.underlying22 hi hz0 hz1 hz2 rfl (.slice A5 n5 c5) n5 (intsV (natsI ((pairs R).take q))) (by simp [Act.eval]) (World.ownsRow.alloc (w := wr.drew) HO5.out _) (wr.heap.size + 1) (some ⟨wr.heap.size, 0, none⟩) 1 1 [.int .i64 ((x : Int) + (y : Int))] rfl (by simp [Act.eval]) (vs_lit1 wr.drew 3 _) (by simp [Value.oneCell']) (by unfold maxLen; omega) (by omega) (show wo.heap.size ≤ (wr.drew.alloc _).heap.size by simp; have : wr.drew.heap.size = wr.heap.size := rfl; omega) ?_; intro A6 c6 w6 o6 hg6 _)
              all_goals
                clear s1 s2 s3 s4
                go_wp2_with fail
                go_roundw
                case rel =>
                  refine ⟨t + 2, q + 1, by rw [HTQ.out]; omega, by omega, by go_num, ⟨A6, _, c6, rfl, ?_⟩, ((HB5.out.drew).alloc (show wo.heap.size ≤ wr.drew.heap.size from hs5) _).grown hg6 (by simp; omega) (fun g hg => (HO5.out.lt g hg).1)⟩
                  rw [HPT.out, natsI_append, intsV_append]
                  exact o6
                case measure => simp [intOf]; omega
            · have HPR : Hid ((pairs R).take q = pairs R) := Lib.hid (List.take_of_length_le (by rw [pairs_length]; omega))
              have HLP : Hid (own.length + (pairs R).length ≤ 17592186044415) := Lib.hid (by rw [pairs_length]; omega)
              have hO5' := HO5.out
              rw [HPR.out] at hO5'
              have hnp : (pairs R).length = n5 := by have h1 := own_len hO5'; rw [intsV_length, natsI_length] at h1; exact h1
              obtain ⟨hoq, hIs⟩ := (HOwn.out.upd HB5.out).is_
              have hm := refMerged_n A2 A5 own.length n5 c2 c5 own (pairs R) rfl hnp wr.heap.size wr hIs (Vs.of_own hO5') (Nat.le_refl _) (by rw [← hnp]; exact HLP.out)
              have HM := Lib.hid hm; clear hm hnp hoq hIs hO5'
              have hsr : w.heap.size ≤ wr.heap.size := by omega
              go_wp2_with fail
              refine HM.out.mono ?_
              rintro e w7 ⟨A7, n7, c7, rfl, o7, hb7⟩
              rw [HSU.out] at o7
              have OW7 := Lib.hid (Own.mk (w := w) o7 hsr)
              have OO7 := Lib.hid ((HOwn.out.upd HB5.out).upd hb7)
              have B7 := Lib.hid ((HB4.out.trans (HB5.out.mono hs4)).trans (hb7.mono hsr))
              clear o7 hb7
              go_wp2_with fail
              go_roundw
              case rel => exact ⟨j + 1, by omega, by go_num, OW7.out, OO7.out, B7.out⟩
              case measure => simp [intOf]; omega
        · obtain rfl : j = k := by omega
          have d1 : decide ((j : Int) + 1 < (j : Int) + 1) = false := by simp
          have HEN := Lib.hid ((rowsOf_Rows own).enough j hnN)
          have HLO : Hid (leastOf own j = ((wts (rowsOf own j)).take (2 * own.length - 2)).sum) := Lib.hid rfl
          rw [← wts_length] at HEN
          generalize wts (rowsOf own j) = R at *
          go_wp2_with fail
          go_loop [11, 12] (fun s i => ∃ p : Nat, p ≤ 2 * own.length - 2 ∧ i = .int .i64 p ∧ s = .int .i64 (((R.take p).sum : Nat) : Int)) (fun _ i => 2 * own.length - (intOf i).toNat)
          case atStart => exact ⟨0, by omega, rfl, by simp⟩
          case round =>
            obtain ⟨p, hp, rfl, rfl⟩ := hrel
            have hts := take_sum_le R p
            by_cases hlt : p < 2 * own.length - 2
            · have e1 : decide ((p : Int) < 2 * (own.length : Int) - 2) = true := by simp; omega
              have hpR : p < R.length := by have := HEN.out; omega
              obtain ⟨ad, rfl, _, hcx⟩ := Is.at_ (k := p) (Vs.of_own HO4.out) (by rw [natsI_length]; exact hpR)
              rw [natsI_get R p hpR] at hcx
              have HT := Lib.hid (take_sum_succ R p hpR)
              have hx1 := HRM.out R[p] (List.getElem_mem _)
              generalize R[p] = x at *
              generalize hy : (R.take p).sum = y at *
              have HY := Lib.hid hy; clear hy
              go_wp2_with fail
              go_round
              case rel => exact ⟨p + 1, by omega, by go_num, by rw [HT.out]; go_num⟩
              case measure => simp [intOf]; omega
            · have e1 : decide ((p : Int) < 2 * (own.length : Int) - 2) = false := by simp; omega
              obtain rfl : p = 2 * own.length - 2 := by omega
              have HF : Hid (LeastRes w l j (.returned (.int .i64 (((R.take (2 * own.length - 2)).sum : Nat) : Int))) wr) := Lib.hid ⟨own, HPO.out, HS2.out, by rw [HLO.out], HB4.out⟩
              go_wp2_with fail
              go_ret
              exact HF.out
end Go.Proofs.Ytpolbnobnilfcaa
