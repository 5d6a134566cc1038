/- Contract of the program's Build: the document's fault, or good lengths in new memory. -/
import Derived.Test.YtpolbnobnilfcaaKi
namespace Go.Proofs.Ytpolbnobnilfcaa
open Go.ChangeShapes Go.WideShapes Go.ChangeAt Go.RowKit

theorem buildErr_fault {cs : List Int} {most : Int} (h : cfErr cs most ≠ 0) : buildErr cs most = cfErr cs most := by
  unfold buildErr
  unfold cfErr at h ⊢
  split
  · rfl
  · split
    · rfl
    · split
      · rfl
      · rename_i a b d
        rw [if_neg a, if_neg b, if_neg d] at h
        exact absurd rfl h
theorem buildErr_many' {cs : List Int} {most : Int} (h : cfErr cs most = 0) (h2 : 2 ^ most.toNat < posN cs) : buildErr cs most = 31 := by
  obtain ⟨a, b, c, d⟩ := cfErr_zero h
  exact buildErr_many (by omega) (by omega) d h2
theorem buildErr_ok' {cs : List Int} {most : Int} (h : cfErr cs most = 0) (h2 : ¬ 2 ^ most.toNat < posN cs) : buildErr cs most = 0 := by
  obtain ⟨a, b, c, d⟩ := cfErr_zero h
  exact buildErr_ok (by omega) (by omega) d h2
/-- What Build answers, in new memory. -/
def BuildRes (w : World) (cs : List Int) (most : Int) (e : Ending) (w' : World) : Prop :=
  ∃ A n c L, e = .returned (.tuple #[.slice A n c, .int .i64 (buildErr cs most)]) ∧ w'.ownsRow w.heap.size 3 1 (.slice A n c) n (intsV L) ∧ (buildErr cs most = 0 → GoodLens cs most.toNat L) ∧ (buildErr cs most ≠ 0 → A = none ∧ n = 0 ∧ c = 0) ∧ Below w.heap.size w w'
theorem BuildRes.bad {w w' : World} {cs : List Int} {most e : Int} (h : buildErr cs most = e) (he : e ≠ 0) (hb : Below w.heap.size w w') : BuildRes w cs most (.returned (.tuple #[.slice none 0 0, .int .i64 e])) w' :=
  ⟨none, 0, 0, [], by rw [h], World.ownsRow_nil _ _ 3 1, fun k => absurd (h.symm.trans k) he, fun _ => ⟨rfl, rfl, rfl⟩, hb⟩
theorem make_int (n : Nat) : (madeCells (Value.int .i64 0).cells (n * 1)).toList = intsV (List.replicate n 0) := by
  rw [show (Value.int .i64 0).cells = #[.int .i64 0] from rfl, Nat.mul_one, toList_madeCells_one]
  simp [intsV]
theorem after_make (w w1 w2 : World) (A1 : Option Addr) (n c1 : Nat) (sy cs : List Int) (hb1 : Below w.heap.size w w1) (ho1 : w1.ownsRow w.heap.size 3 1 (.slice A1 n c1) n (intsV sy)) (hg : w1.grownBy w2 none)
    (hown : w2.ownsRow w.heap.size 3 1 (.slice (some ⟨w1.heap.size, 0, none⟩) cs.length cs.length) cs.length (intsV (List.replicate cs.length 0))) :
    Below w.heap.size w w2 ∧ Row w2 w.heap.size w1.heap.size cs.length cs.length (List.replicate cs.length 0) ∧ w2.ownsRow w.heap.size 3 1 (.slice A1 n c1) n (intsV sy) ∧ w1.heap.size < w2.heap.size ∧ w.heap.size ≤ w1.heap.size :=
  ⟨hb1.grown hg hb1.size (by simp), hown, own_upd ho1 (Upd.of_fresh ((Below.refl _ w1).grown hg (Nat.le_refl _) (by simp))) (fun _ _ => id), (World.ownsRow.lt hown w1.heap.size rfl).2, hb1.size⟩
theorem ownC_tagL (cs sy : List Int) : ownC cs sy = tagL true (ownN cs sy) := rfl
theorem counts_small {cs : List Int} (h : cs.any badCount = false) : ∀ x ∈ cs, 0 ≤ x ∧ x ≤ 1073741824 := fun x hx => by
  have h1 := List.any_eq_false.mp h x hx
  unfold badCount at h1
  simp at h1
  omega
theorem ownN_small {cs sy : List Int} (h : cs.any badCount = false) (hp : sy.Perm (posIdx cs)) : ∀ x ∈ ownN cs sy, x ≤ 1073741824 := fun x hx => by
  obtain ⟨s, hs, rfl⟩ := List.mem_map.mp hx
  have h1 := posIdx_mem (hp.subset hs)
  have h2 := counts_small h (itm cs s.toNat) (by rw [itm_get cs _ h1.2.1]; exact List.getElem_mem _)
  unfold cnt
  omega

set_option maxHeartbeats 4000000 in
set_option maxRecDepth 100000 in
theorem build_any (A : Option Addr) (c : Nat) (cs : List Int) (most : Int) (w : World) (hbs : Is w w.heap.size A cs) (hl : cs.length ≤ 17592186044416) :
    Calls Try.prog 22 #[.slice A cs.length c, .int .i64 most] w (BuildRes w cs most) := by
  have hm : cs.length ≤ maxLen := by unfold maxLen; omega
  obtain ⟨i0, hi, hz0, hz1, hz2⟩ := info_parts info_int
  by_cases h0 : cfErr cs most = 0
  · obtain ⟨hl4, m1, m2, hbc⟩ := cfErr_zero h0
    obtain ⟨q, hq, hq2, hpw⟩ := two_pow_i most m1 m2
    have hpn : posN cs ≤ 4096 := by
      rw [← posIdx_length]
      have := posTo_length_le cs cs.length
      unfold posIdx
      omega
    have HCF := Lib.hid (countsFault_any A c cs most _ w hbs hm)
    rw [h0] at HCF
    have H0 := Lib.hid h0; clear h0
    have HBC := Lib.hid hbc; clear hbc
    have HQ := Lib.hid hq; clear hq
    go_enter Try.func22, Try.ntmps22
    go_wp2_with fail
    refine HCF.out.mono ?_
    rintro e w0 ⟨rfl, rfl⟩
    go_wp2_with fail
    refine (rising_any A c cs w hbs hl4).mono ?_
    rintro e w1 ⟨A1, n, c1, sy, rfl, ho1, hp1, hs1, hb1⟩
    have hn := own_len ho1
    rw [intsV_length] at hn
    have HNP : Hid (n = posN cs) := Lib.hid (by rw [← hn, hp1.length_eq, posIdx_length])
    have hn4 : n ≤ 4096 := by have := HNP.out; omega
    have HP := Lib.hid hp1; clear hp1
    have HS := Lib.hid hs1; clear hs1
    have HO1 : Hid (w1.ownsRow w.heap.size 3 1 (.slice A1 n c1) n (intsV sy)) := Lib.hid (own_from ho1 (by omega))
    clear ho1
    have HB1 := Lib.hid hb1; clear hb1
    have HN := Lib.hid hn; clear hn
    by_cases hmany : q < n
    · have d1 : decide ((q : Int) < (n : Int)) = true := by simp; omega
      have HE : Hid (buildErr cs most = 31) := Lib.hid (buildErr_many' H0.out (by rw [← HQ.out, ← HNP.out]; exact hmany))
      go_wp2_with fail
      go_ret2
      exact BuildRes.bad HE.out (by decide) HB1.out
    · have d1 : decide ((q : Int) < (n : Int)) = false := by simp; omega
      have HE : Hid (buildErr cs most = 0) := Lib.hid (buildErr_ok' H0.out (by rw [← HQ.out, ← HNP.out]; exact hmany))
      have hsz1 := HB1.out.size
      by_cases hn0 : n = 0
      · have hnn : ((n : Int) == 0) = true := by simp; omega
        go_wp2_with (at_make; refine wpList_make_full _ rfl (.tmp 23) (.tmp 23) 22 rfl w.heap.size 3 i0 (.int .i64 0) 1 Try.underlying22 hi hz0 hz1 .i64 .i64 cs.length cs.length cs.length rfl rfl rfl rfl (by rw [hz2]; omega) hm hsz1 ?_; intro w2 hown2 hg2; rw [make_int] at hown2; obtain ⟨hb2, hl2, ho2, hgl, hgs⟩ := after_make w w1 w2 _ n c1 sy cs HB1.out HO1.out hg2 hown2; clear hown2 hg2; have HB2 := Lib.hid hb2; have HL2 := Lib.hid hl2; clear hb2 hl2; generalize w1.heap.size = gl at *)
        go_ret2
        exact ⟨_, _, _, _, by rw [HE.out]; rfl, HL2.out, fun _ => good_none cs _ (by rw [← HNP.out]; exact hn0), fun k => absurd HE.out k, HB2.out⟩
      · have e0 : ((n : Int) == 0) = false := by simp; omega
        obtain ⟨gs, rfl, _, _, hg1, hg2⟩ := row_form HO1.out (by omega)
        by_cases hn1 : n = 1
        · have e1 : ((n : Int) == 1) = true := by simp; omega
          obtain ⟨s, hs⟩ : ∃ s, sy = [s] := List.length_eq_one_iff.mp (by rw [HN.out]; exact hn1)
          have HG := Lib.hid (good_one cs sy most.toNat (by omega) HP.out s hs)
          have hsm := posIdx_mem (HP.out.subset (show s ∈ sy by rw [hs]; simp))
          have ei : itm sy 0 = s := by rw [hs]; rfl
          obtain ⟨s0, s1, _⟩ := hsm
          clear hs
          go_wp2_with (at_make; refine wpList_make_full _ rfl (.tmp 23) (.tmp 23) 22 rfl w.heap.size 3 i0 (.int .i64 0) 1 Try.underlying22 hi hz0 hz1 .i64 .i64 cs.length cs.length cs.length rfl rfl rfl rfl (by rw [hz2]; omega) hm hsz1 ?_; intro w2 hown2 hg2; rw [make_int] at hown2; obtain ⟨hb2, hl2, ho2, hgl, hgs⟩ := after_make w w1 w2 _ n c1 sy cs HB1.out HO1.out hg2 hown2; clear hown2 hg2; have HB2 := Lib.hid hb2; have HL2 := Lib.hid hl2; clear hb2 hl2; generalize w1.heap.size = gl at *; have q1 := Row.cell (show Row w2 w.heap.size gs n c1 sy from ho2) (k := 0) (by omega); rw [ei] at q1; clear ei ho2; have q3 := Row.cell HL2.out (k := s.toNat) (by omega); have q4 := Row.free HL2.out s.toNat; have Q5 := Lib.hid (Row.set_ HL2.out s.toNat 1); have hbl := Row.len HL2.out)
          go_ret2
          exact ⟨_, _, _, _, by rw [HE.out]; rfl, Q5.out, fun _ => HG.out, fun k => absurd HE.out k, HB2.out.setCell (by simp; omega) _⟩
        · have e1 : ((n : Int) == 1) = false := by simp; omega
          obtain rfl : n = sy.length := HN.out.symm
          go_wp2_with (at_make; refine wpList_make_full _ rfl (.tmp 23) (.tmp 23) 22 rfl w.heap.size 3 i0 (.int .i64 0) 1 Try.underlying22 hi hz0 hz1 .i64 .i64 cs.length cs.length cs.length rfl rfl rfl rfl (by rw [hz2]; omega) hm hsz1 ?_; intro w2 hown2 hg2; rw [make_int] at hown2; obtain ⟨hb2, hl2, ho2, hgl, hgs⟩ := after_make w w1 w2 _ _ c1 sy cs HB1.out HO1.out hg2 hown2; clear hown2 hg2; have HB2 := Lib.hid hb2; have HL2 := Lib.hid hl2; clear hb2 hl2; generalize w1.heap.size = gl at *; have HRS := Lib.hid (show Row w2 w.heap.size gs _ c1 sy from ho2); clear ho2)
          have HSY : Hid (Syms sy cs.length) := Lib.hid fun x hx => by have := posIdx_mem (HP.out.subset hx); omega
          have hbs2 : Is w2 w2.heap.size A cs := Vs.more (Vs.below hbs HB2.out) HB2.out.size
          refine (coinsOf_any _ A c1 c sy cs w2 (Vs.of_own HRS.out) hbs2 HSY.out hn4 (counts_small HBC.out)).mono ?_
          rintro e w3 ⟨c3, rfl, hr3, hb3⟩
          have HB3 := Lib.hid (HB2.out.trans (hb3.mono HB2.out.size))
          have HL3 := Lib.hid (show Row w3 _ _ _ _ _ from own_upd HL2.out (Upd.of_fresh hb3) (fun _ _ => id))
          have HRS3 := Lib.hid (show Row w3 _ _ _ _ _ from own_upd HRS.out (Upd.of_fresh hb3) (fun _ _ => id))
          have hsz2 := HB2.out.size
          have hsz3 := HB3.out.size
          have hgl3 : gl < w3.heap.size := by have := hb3.size; omega
          have HR3 : Hid (Cs w3 w3.heap.size (some ⟨w2.heap.size, 0, none⟩) (tagL true (ownN cs sy))) := Lib.hid (Cs.of_row hr3)
          have hcc := own_cap hr3
          have hol : (ownN cs sy).length = sy.length := by simp [ownN]
          clear hr3 hb3
          go_wp2_with fail
          have HPK := packed_any w3 (some ⟨w2.heap.size, 0, none⟩) c3 (ownN cs sy) most.toNat HR3.out (by rw [hol]; exact hcc.1) hcc.2 (by rw [hol]; exact hn4) (by rw [hol]; omega) (by omega) (ownN_small HBC.out HP.out)
          rw [hol, show ((most.toNat : Nat) : Int) = most by omega] at HPK
          refine HPK.mono ?_
          rintro e w4 ⟨rfl, hr4, hb4⟩
          clear HPK
          have HB4 := Lib.hid (HB3.out.trans (hb4.mono HB3.out.size))
          have HL4 := Lib.hid (show Row w4 _ _ _ _ _ from own_upd HL3.out (Upd.of_fresh hb4) (fun _ _ => id))
          have HRS4 := Lib.hid (show Row w4 _ _ _ _ _ from own_upd HRS3.out (Upd.of_fresh hb4) (fun _ _ => id))
          have HR4 := Lib.hid hr4; clear hr4 hb4
          have hgl4 := World.ownsRow.lt HL4.out gl rfl
          generalize w3.heap.size = bb at *
          go_wp2_with fail
          have HSP := callsIn_wide.1 (spend_in w4 bb bb most.toNat most.toNat (ownN cs sy) HR4.out w.heap.size gs sy.length c1 sy HRS4.out w.heap.size gl cs.length cs.length (List.replicate cs.length 0) HL4.out hgl3 (by omega) HSY.out hol (by omega) hn4 hl4 (by omega) (by omega) (by rw [← HQ.out]; omega) rfl (itm_rep cs.length))
          refine HSP.mono ?_
          rintro e w5 ⟨rfl, hr5, hu5⟩
          clear HSP
          have HF : Hid (GoodLens cs most.toNat (spentTo sy (List.replicate cs.length 0) (rowsOf (ownN cs sy)) (most.toNat - 1) (2 * sy.length - 2) most.toNat)) := Lib.hid (by
            have h := good_spent cs sy (most.toNat - 1) (by omega) HP.out HS.out (by omega) (by rw [show most.toNat - 1 + 1 = most.toNat by omega, ← HQ.out]; omega)
            rwa [show most.toNat - 1 + 1 = most.toNat by omega] at h)
          have HR5 := Lib.hid hr5; clear hr5
          have HB5 : Hid (Below w.heap.size w w5) := Lib.hid (HB4.out.trans (Upd.below hu5 HB4.out.size (fun k hk e => by omega)))
          clear hu5
          go_wp2_with fail
          go_ret2
          exact ⟨_, _, _, _, by rw [HE.out]; rfl, HR5.out, fun _ => HF.out, fun k => absurd HE.out k, HB5.out⟩
  · have HE : Hid (buildErr cs most = cfErr cs most) := Lib.hid (buildErr_fault h0)
    have d0 : (cfErr cs most != 0) = true := by simp [h0]
    have HCF := Lib.hid (countsFault_any A c cs most _ w hbs hm)
    go_enter Try.func22, Try.ntmps22
    go_wp2_with fail
    refine HCF.out.mono ?_
    rintro e w0 ⟨rfl, rfl⟩
    generalize cfErr cs most = ee at *
    go_wp2_with fail
    go_ret2
    exact BuildRes.bad HE.out h0 (Below.refl _ _)
end Go.Proofs.Ytpolbnobnilfcaa
