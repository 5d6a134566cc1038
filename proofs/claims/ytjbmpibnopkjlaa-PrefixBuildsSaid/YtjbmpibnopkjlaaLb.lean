/- Build answers the document's fault, or lengths within the given length that come where the counts do, take the whole room and cost the fewest bits: for every list of counts and every number. -/
import Derived.Test.YtjbmpibnopkjlaaWk
import Derived.Deep.CondSized
namespace Go.Proofs.Ytjbmpibnopkjlaa
open Go.ChangeShapes Go.WideShapes Go.ChangeAt Go.RowKit
namespace PrefixBuilds

theorem bErr_zero {l : List Int} {most : Int} (h : buildErr l most = 0) : l.length ≤ 4096 ∧ 1 ≤ most ∧ most ≤ 16 ∧ l.any badCount = false ∧ posN l ≤ 2 ^ most.toNat := by
  unfold buildErr at h
  split at h
  · omega
  · split at h
    · omega
    · split at h
      · omega
      · split at h
        · omega
        · rename_i a b d e
          exact ⟨by omega, by omega, by omega, by simpa using d, by omega⟩
theorem range_sumTo (f : Nat → Nat) : ∀ n, ((List.range n).map f).sum = sumTo f n
  | 0 => rfl
  | n + 1 => by rw [List.range_succ, List.map_append, List.sum_append, range_sumTo f n]; simp [sumTo]
/-- What the symbols below k cost. -/
def costTo (cs L : List Int) (k : Nat) : Nat := sumTo (fun j => (itm cs j).toNat * (itm L j).toNat) k
theorem costTo_succ (cs L : List Int) (k : Nat) : costTo cs L (k + 1) = costTo cs L k + (itm cs k).toNat * (itm L k).toNat := rfl
theorem term_le {x y : Int} (hx : x ≤ 16) (hy : y ≤ 1073741824) : y.toNat * x.toNat ≤ 17179869184 :=
  Nat.le_trans (Nat.mul_le_mul (show y.toNat ≤ 1073741824 by omega) (show x.toNat ≤ 16 by omega)) (by decide)
theorem term_eq {x y : Int} (hx : 0 ≤ x) (hy : 0 ≤ y) : y * x = ((y.toNat * x.toNat : Nat) : Int) := by
  rw [Int.natCast_mul, Int.toNat_of_nonneg hx, Int.toNat_of_nonneg hy]
theorem costTo_le (cs L : List Int) (hc : ∀ j, itm cs j ≤ 1073741824) (hL : ∀ j, itm L j ≤ 16) : ∀ k, costTo cs L k ≤ k * 17179869184
  | 0 => by simp [costTo, sumTo]
  | k + 1 => by
    have h1 := costTo_le cs L hc hL k
    have h2 := term_le (hL k) (hc k)
    rw [costTo_succ]
    omega
theorem itm_all {l : List Int} {B : Int} (hB : 0 ≤ B) (h : ∀ x ∈ l, x ≤ B) (j : Nat) : itm l j ≤ B := by
  by_cases hj : j < l.length
  · rw [itm_get l j hj]; exact h _ (List.getElem_mem _)
  · unfold itm
    rw [List.getD, List.getElem?_eq_none (by omega)]
    exact hB
theorem good_room {cs L : List Int} {most : Nat} (h : GoodLens cs most L) (hm : most ≤ 16) (hl : cs.length ≤ 4096) : roomErr L = 0 := by
  refine roomErr_ok L (by rw [h.1]; omega) ?_
  rw [List.any_eq_false]
  intro x hx
  obtain ⟨j, hj, rfl⟩ := List.getElem_of_mem hx
  have := h.2.1 j (by rw [← h.1]; exact hj)
  rw [itm_get L j hj] at this
  unfold badLen
  simp
  omega

theorem room_n (A : Option Addr) (c n : Nat) (L : List Int) (hn : L.length = n) (B : Nat) (w : World) (h : Is w B A L) (hl : n ≤ 17592186044416) :
    Calls Try.prog 13 #[.slice A n c] w fun e w' => e = .returned (.tuple #[.int .i64 (roomAns L), .int .i64 (roomErr L)]) ∧ w = w' := by
  subst hn
  exact refRoom_any A c L B w h (by unfold maxLen; omega)
set_option maxHeartbeats 4000000 in
set_option maxRecDepth 100000 in
theorem walk (A : Option Addr) (c : Nat) (l : List Int) (most : Int) (w : World) (hbs : Is w w.heap.size A l) (_ : ∀ x ∈ l, -9223372036854775808 ≤ x ∧ x ≤ 9223372036854775807) (hl : l.length ≤ 17592186043904) (hmi : -9223372036854775808 ≤ most ∧ most ≤ 9223372036854775807) :
    Calls Try.prog 5 #[.slice A l.length c, .int .i64 most] w fun e w' => e = .returned (.bool true) ∧ Below w.heap.size w w' := by
  have hm : l.length ≤ maxLen := by unfold maxLen; omega
  have HMI := Lib.hid hmi; clear hmi
  go_enter Try.func5, Try.ntmps5
  go_wp2_with fail
  refine (wakes_any w).mono ?_
  rintro e w1 ⟨rfl, hb1⟩
  go_wp2_with fail
  refine (ownI_n A c l.length l rfl _ w1 (Vs.below hbs hb1) hb1.size (by omega)).mono ?_
  rintro e w2 ⟨A2, c2, rfl, o2, hb2⟩
  have hb2' := hb1.trans (hb2.mono hb1.size)
  go_wp2_with fail
  refine (build_any A2 c2 l most w2 (Vs.of_own o2) (by omega)).mono ?_
  rintro e w3 ⟨A3, n3, c3, L, rfl, o3, hG, hbad, hb3⟩
  have hb3' := hb2'.trans (hb3.mono hb2'.size)
  have v3 : Is w3 w3.heap.size A3 L := Vs.of_own o3
  have hn3 := own_len o3
  rw [intsV_length] at hn3
  have HB3 := Lib.hid hb3'
  have HBS3 : Hid (Is w3 w3.heap.size A l) := Lib.hid (Vs.more (Vs.below hbs hb3') hb3'.size)
  have HRB := Lib.hid (refBad_any A c l most _ w3 HBS3.out hm HMI.out)
  clear o2 o3 hb1 hb2 hb2' hb3 hb3'
  by_cases h0 : buildErr l most = 0
  · have HGL := Lib.hid (hG h0)
    have HZ := Lib.hid (bErr_zero h0)
    obtain ⟨hl4, m1, m2, _, _⟩ := HZ.out
    rw [h0] at HRB ⊢
    clear hG hbad h0
    have hLl : L.length = l.length := HGL.out.1
    obtain rfl : n3 = l.length := by omega
    have HN3 := Lib.hid hn3; clear hn3
    have HLl := Lib.hid hLl; clear hLl
    have d9 : ((l.length : Int) != (l.length : Int)) = false := by simp
    have hsm := counts_small HZ.out.2.2.2.1
    have HCI : Hid (∀ j, itm l j ≤ 1073741824) := Lib.hid (itm_all (by omega) (fun x hx => (hsm x hx).2))
    have HC0 : Hid (∀ j, j < l.length → 0 ≤ itm l j) := Lib.hid (fun j hj => by rw [itm_get l j hj]; exact (hsm _ (List.getElem_mem _)).1)
    have HLI : Hid (∀ j, itm L j ≤ 16) := Lib.hid (itm_all (by omega) (fun x hx => by
      obtain ⟨j, hj, rfl⟩ := List.getElem_of_mem hx
      have := HGL.out.2.1 j (by rw [← HLl.out]; exact hj)
      rw [itm_get L j hj] at this
      omega))
    clear hsm
    go_wp2_with fail
    refine HRB.out.mono ?_
    rintro e w4 ⟨rfl, rfl⟩
    go_wp2_with fail
    go_loopw [8, 9, 40] (fun n s i wr => ∃ k : Nat, k ≤ l.length ∧ i = .int .i64 k ∧ n = .int .i64 ((posN (l.take k) : Nat) : Int) ∧ s = .int .i64 ((costTo l L k : Nat) : Int) ∧ ∃ m, wr = w3.drewN m) (fun _ _ i _ => l.length - (intOf i).toNat)
    case atStart => exact ⟨0, by omega, rfl, by simp [posN], rfl, 0, rfl⟩
    case round =>
      obtain ⟨k, hk, rfl, rfl, rfl, m, rfl⟩ := hrel
      have hp := posN_le l k
      have hcl := costTo_le l L HCI.out HLI.out k
      by_cases hlt : k < l.length
      · have hltL : k < L.length := by rw [HLl.out]; exact hlt
        obtain ⟨ad1, rfl, _, hc1⟩ := Is.at_ v3 hltL
        obtain ⟨ad2, rfl, _, hc2⟩ := Is.at_ HBS3.out hlt
        have HPS := Lib.hid (posN_succ l k hlt)
        have HCS := Lib.hid (costTo_succ l L k)
        obtain ⟨x0, x1, x2⟩ := HGL.out.2.1 k hlt
        have y0 := HC0.out k hlt
        have y1 := HCI.out k
        have x16 := HLI.out k
        have htl := term_le x16 y1
        have HTE := Lib.hid (term_eq x0 y0)
        rw [← itm_get l k hlt] at hc2 HPS
        rw [← itm_get L k hltL] at hc1
        generalize itm l k = y at *
        generalize itm L k = x at *
        generalize posN (l.take k) = pn at *
        generalize costTo l L k = ct at *
        generalize y.toNat * x.toNat = pr at *
        have e1 : decide (x < 0) = false := by simp; omega
        have e2 : decide (most < x) = false := by simp; omega
        by_cases hy : 0 < y
        · have e3 : decide (0 < y) = true := by simp; omega
          have e4 : decide (0 < x) = true := by simp; omega
          rw [if_pos hy] at HPS
          clear x2 hy
          go_wp2_with fail
          go_quiet (fail)
          go_wp2_with fail
          have hte := HTE.out
          go_quiet (fail)
          go_wp2_with fail
          go_roundw
          case rel => exact ⟨k + 1, by omega, by go_num, by rw [HPS.out]; go_num, by rw [HCS.out]; go_num, _, rfl⟩
          case measure => simp [intOf]; omega
        · have e3 : decide (0 < y) = false := by simp; omega
          have e4 : decide (0 < x) = false := by simp; omega
          have hpr : pr = 0 := by
            have : y = 0 := by omega
            have h1 := HTE.out
            rw [this, Int.zero_mul] at h1
            omega
          rw [if_neg hy] at HPS
          clear x2 hy
          go_wp2_with fail
          go_quiet (fail)
          go_wp2_with fail
          go_roundw
          case rel => exact ⟨k + 1, by omega, by go_num, by rw [HPS.out, Nat.add_zero], by rw [HCS.out, hpr, Nat.add_zero], _, rfl⟩
          case measure => simp [intOf]; omega
      · obtain rfl : k = l.length := by omega
        have hp2 : posN (l.take l.length) = posN l := by rw [List.take_length]
        rw [hp2] at hp ⊢
        have HRE := Lib.hid (good_room HGL.out (by omega) hl4)
        have HCT : Hid (costTo l L l.length = ((List.range l.length).map fun j => (itm l j).toNat * (itm L j).toNat).sum) := Lib.hid (range_sumTo _ _).symm
        have HRO := Lib.hid (room_n A3 c3 l.length L HN3.out _ (w3.drewN m) v3 (by omega))
        have HRA : Hid (roomAns L = 65536 - taken L) := Lib.hid (by unfold roomAns; rw [if_pos HRE.out]; rfl)
        generalize costTo l L l.length = ct at *
        have hBW : Below w.heap.size w (w3.drewN m) := below_drewN HB3.out m
        have hBS : Is (w3.drewN m) (w3.drewN m).heap.size A l := HBS3.out
        generalize w3.drewN m = w5 at *
        have HBW := Lib.hid hBW; clear hBW
        have HBS := Lib.hid hBS; clear hBS
        rcases Nat.eq_zero_or_pos (posN l) with hz | hz
        · rw [hz] at hp ⊢
          go_wp2_with fail
          refine HRO.out.mono ?_
          rintro e w6 ⟨rfl, rfl⟩
          go_wp2_with fail
          go_ret
          exact ⟨rfl, HBW.out⟩
        · by_cases h1 : posN l = 1
          · have HTK : Hid (roomAns L = 32768) := Lib.hid (by rw [HRA.out, HGL.out.2.2.1 h1]; rfl)
            rw [h1] at hp hz ⊢
            rw [HTK.out] at HRO
            go_wp2_with fail
            refine HRO.out.mono ?_
            rintro e w6 ⟨rfl, rfl⟩
            go_wp2_with fail
            go_ret
            exact ⟨rfl, HBW.out⟩
          · obtain ⟨ht, hs⟩ := HGL.out.2.2.2 (by omega)
            have HTK : Hid (roomAns L = 0) := Lib.hid (by rw [HRA.out, ht]; rfl)
            rw [HTK.out] at HRO
            have f0 : (((posN l : Nat) : Int) == 0) = false := by simp; omega
            have f1 : (((posN l : Nat) : Int) == 1) = false := by simp; omega
            obtain ⟨kk, hkk⟩ : ∃ kk : Nat, most = (kk : Int) + 1 := ⟨most.toNat - 1, by omega⟩
            have hle := refLeast_any A c l kk w5 HBS.out hl4 (by omega) (fun x hx => (counts_small HZ.out.2.2.2.1 x hx).2) (by have := HZ.out.2.2.2.2; rwa [hkk, show (((kk : Int) + 1).toNat) = kk + 1 from by omega] at this)
            rw [← hkk] at hle
            have HLE := Lib.hid hle
            have HS := Lib.hid hs
            have HKK := Lib.hid (show most.toNat - 1 = kk by omega)
            clear hle hs hkk ht hz h1
            go_wp2_with fail
            refine HRO.out.mono ?_
            rintro e w6 ⟨rfl, rfl⟩
            go_wp2_with fail
            refine HLE.out.mono ?_
            rintro e w7 ⟨own, hpe, hso, rfl, hb7⟩
            have HLO : Hid (leastOf own kk = ct) := Lib.hid (by rw [HCT.out, HS.out own hpe hso, HKK.out])
            rw [HLO.out]
            have HBF := Lib.hid (HBW.out.trans (hb7.mono HBW.out.size))
            clear hb7 hpe hso
            go_wp2_with fail
            go_ret
            exact ⟨ret_bl (by simp), HBF.out⟩
  · obtain ⟨rfl, rfl, rfl⟩ := hbad h0
    have d0 : (buildErr l most != 0) = true := by simp [h0]
    have d1 : (buildErr l most != buildErr l most) = false := by simp
    clear h0 hG hn3 v3
    generalize buildErr l most = be at *
    go_wp2_with fail
    refine HRB.out.mono ?_
    rintro e w4 ⟨rfl, rfl⟩
    go_wp2_with fail
    go_ret
    exact ⟨rfl, HB3.out⟩

set_option maxRecDepth 100000 in
theorem lifted (os : Os) (started : os.Started) (H : Type) (enc : TypeId × Value → H) :
    ReturnsInHanded {} Try.checked os 5 .any (Rows.prefixBuildsSpec.pre6 enc Try.prog Try.f5 Rows.prefixBuildsRow.domain false) (Rows.prefixBuildsSpec.post enc Try.prog Try.f5 false true false false) := by
  refine returnsInHanded_of_change_sized (C := Try.checked) prog_own started (by kernel_rfl) Try.func5
    (ChangeSpec.witness6 (enc := enc) (C := Try.checked) false ⟨#[], #[.slice none 0 0, .int .i64 0], []⟩ 8 (by kernel_rfl) (by kernel_rfl) (by kernel_rfl) (by kernel_rfl)) ?_
  intro W base args ds gs before hval0 hW hcnd hsz _
  have hval : ∀ (j : Nat) t v, Try.f5.params[j]? = some t → args[j]? = some v → Value.okWide Try.prog W .any base t v := hval0
  have hW' := hW
  obtain ⟨p, q, hA0, hV, rfl, hfz, hnd⟩ := hW
  have hA : DataW.TrodAll enc Try.prog W 0 (fun _ => true) true Try.f5.params.toList args.toList ds p := hA0
  rw [Try.params5] at hA hval
  obtain ⟨v0, vs0, d0, ds0, p0, q0, hargs, rfl, rfl, h0, r0⟩ := trodAll_cons hA
  obtain ⟨v1, vs1, d1, ds1, p1, q1, rfl, rfl, rfl, h1, r1⟩ := trodAll_cons r0
  obtain ⟨rfl, rfl, rfl⟩ := trodAll_nil r1
  obtain rfl : args = #[v0, v1] := by cases args; simp_all
  obtain ⟨rfl, rfl⟩ := trodVars_none hV
  obtain ⟨A0, l0, c0, rfl, hb0, hk0, hd0⟩ := open_numbers (hval 0 22 v0 rfl rfl) h0
  obtain ⟨a1, rfl, rfl, rfl, w1⟩ := open_int Try.underlying3 (hval 1 3 v1 rfl rfl) h1
  have hl0 : l0.length ≤ 17592186043904 := by
    rcases hd0 with ⟨_, rfl⟩ | ⟨e, s, rfl, hle⟩
    · simp
    · have this : (e.length + s.length) * Try.prog.bytesOf 3 ≤ reachBytes := sized_slice hsz (j := 0) (t := 22) (e := 3) rfl rfl Try.underlying22
      rw [bytes_int] at this
      unfold reachBytes at this
      omega
  have lt0 : ∀ x ∈ p0, x.block < W.heap.size := by obtain ⟨m, hm⟩ := h0; exact DataW.trod_lt m _ _ _ hm
  clear hA0 hval0
  refine (walk A0 c0 l0 a1 W hb0 hk0 hl0 (bounds_i64 w1)).mono fun e W' ⟨he, bel⟩ => ?_
  subst he
  exact ⟨_, rfl, _, _, _, [], _, [], hW', trodAll_mk1 (shut_bool Try.underlying4 _), (trodAll_cons_mk (Below.trod prog_laid (by kernel_rfl) (of_decide_eq_true (by kernel_rfl)) h0 bel lt0) (trodAll_cons_mk (shut_int Try.underlying3 w1) trodAll_mk0)), rfl, bel.frame _, fun h => by cases h⟩

theorem over : Rows.prefixBuildsRow.holds Try.pinned (OpenSpec.ofChange Rows.prefixBuildsSpec) :=
  OpenClaim.holds_of_wide 5 Try.f5 rfl rfl rfl rfl rfl rfl rfl ⟨rfl, rfl, rfl, rfl, rfl⟩ rfl rfl rfl rfl rfl (by kernel_rfl) Try.func5 (by kernel_rfl)
    (of_decide_eq_true (by kernel_rfl)) (by unfold Func.isWrapper; first | (rw [if_pos (by decide +kernel)]; kernel_rfl) | (rw [if_neg (by decide +kernel)]; exact ⟨rfl, rfl⟩))
    (fun os started H enc _ => lifted os started H enc)
end PrefixBuilds

theorem prefixBuilds_holds : Rows.PrefixBuildsSaid := PrefixBuilds.over
#print axioms prefixBuilds_holds
end Go.Proofs.Ytjbmpibnopkjlaa
