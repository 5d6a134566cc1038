/- Lists that are handed in stay; those that are answered are new memory; a decoder keeps none: for every list of lengths and every limit. -/
import Derived.Test.YtpolbnobnilfcaaRs
import Derived.Deep.CondSized
namespace Go.Proofs.Ytpolbnobnilfcaa
open Go.ChangeShapes Go.WideShapes Go.ChangeAt Go.RowKit
namespace PrefixOwn

/-- A row that is spoilt cell by cell. -/
def SpAt (w : World) (base : Nat) (t : TypeId) (A : Option Addr) (n c : Nat) (wr : World) : Prop :=
  (∃ xs, wr.ownsRow base t 1 (.slice A n c) n xs) ∧ Upd (fun k => A.map (·.block) = some k) w wr
theorem SpAt.start {w : World} {base : Nat} {t : TypeId} {A : Option Addr} {n c : Nat} {xs : List Value} (h : w.ownsRow base t 1 (.slice A n c) n xs) : SpAt w base t A n c w := ⟨⟨_, h⟩, Upd.refl _ _⟩
theorem SpAt.cell {w wr : World} {base : Nat} {t : TypeId} {A : Option Addr} {n c : Nat} (h : SpAt w base t A n c wr) (k : Nat) (hk : k < n) : ∃ g v, A = some ⟨g, 0, none⟩ ∧ wr.cell? ⟨g, k, none⟩ = some v ∧ wr.frozen? ⟨g, k, none⟩ = false ∧ n ≤ c ∧ c ≤ maxLen ∧ ∀ u, SpAt w base t A n c (wr.setCell ⟨g, k, none⟩ u) := by
  obtain ⟨⟨xs, h1⟩, h2⟩ := h
  obtain ⟨g, rfl, h3, h4, _, _⟩ := row_form h1 (by omega)
  have hl := own_len h1
  refine ⟨g, xs[k]'(by omega), rfl, ?_, h1.frozenAt k, h3, h4, fun u => ⟨⟨_, (h1.stored k u).1⟩, h2.setCell (p := ⟨g, k, none⟩) (fun _ => rfl) _⟩⟩
  rw [h1.cellAt k (by omega), List.getElem?_eq_getElem]
theorem SpAt.drewN {w wr : World} {base : Nat} {t : TypeId} {A : Option Addr} {n c : Nat} (h : SpAt w base t A n c wr) (m : Nat) : SpAt w base t A n c (wr.drewN m) := ⟨h.1, h.2.drewN m⟩
theorem in_last {w : World} {base : Nat} {e : TypeId} {g n c : Nat} {l : List Int} {x : Int} (h : w.ownsRow base e 1 (.slice (some ⟨g, 0, none⟩) n c) n (intsV (l ++ [x]))) : w.cell? ⟨g, l.length, none⟩ = some (.int .i64 x) := by
  have h1 := row_at h l.length (by simp)
  simpa using h1
theorem is_in {w : World} {base : Nat} {e : TypeId} {g n c : Nat} {l : List Int} {x : Int} (h : w.ownsRow base e 1 (.slice (some ⟨g, 0, none⟩) n c) n (intsV (l ++ [x]))) : Is w w.heap.size (some ⟨g, 0, none⟩) l := by
  have h2 := (Vs.of_own h).take l.length
  unfold Is
  rw [intsV_append, List.take_append_of_le_length (by rw [intsV_length]; exact Nat.le_refl _), List.take_of_length_le (by rw [intsV_length]; exact Nat.le_refl _)] at h2
  exact h2
theorem intsV_sing (x : Int) : intsV [x] = [Value.int .i64 x] := rfl

theorem new_both {w w' : World} {l : List Int} {e : Ending} (h : NewRes w l e w') : ∃ P, e = .returned (.tuple #[.pointer P, .int .i64 (codesErr l)]) ∧ Below w.heap.size w w' ∧ (codesErr l = 0 → ∃ gd, P = some ⟨gd, 0, none⟩ ∧ DecAt w' w.heap.size gd l) ∧ (codesErr l ≠ 0 → P = none) := by
  unfold NewRes at h
  by_cases h0 : codesErr l = 0
  · rw [if_pos h0] at h
    obtain ⟨gd, rfl, h2, h3⟩ := h
    exact ⟨_, by rw [h0], h3, fun _ => ⟨gd, rfl, h2⟩, fun k => absurd h0 k⟩
  · rw [if_neg h0] at h
    exact ⟨none, h.1, h.2, fun k => absurd k h0, fun _ => rfl⟩

set_option maxHeartbeats 4000000 in
set_option maxRecDepth 100000 in
theorem walk (A : Option Addr) (c : Nat) (l : List Int) (most : Int) (w : World) (hbs : Is w w.heap.size A l) (_ : ∀ x ∈ l, -9223372036854775808 ≤ x ∧ x ≤ 9223372036854775807) (hl : l.length ≤ 17592186043904) (_ : -9223372036854775808 ≤ most ∧ most ≤ 9223372036854775807) :
    Calls Try.prog 8 #[.slice A l.length c, .int .i64 most] w fun e w' => e = .returned (.bool true) ∧ Below w.heap.size w w' := by
  obtain ⟨i0, hi, hz0, hz1, hz2⟩ := info_parts info_int
  go_enter Try.func8, Try.ntmps8
  go_wp2_with fail
  refine (wakes_any w).mono ?_
  rintro e w1 ⟨rfl, hb1⟩
  have hs1 := hb1.size
  go_wp2_with fail
  refine (ownI_n A c l.length l rfl _ w1 (Vs.below hbs hb1) hb1.size (by omega)).mono ?_
  rintro e w2 ⟨A2, c2, rfl, o2, hb2⟩
  have k2 := hb1.trans (hb2.mono hb1.size)
  go_wp2_with (at_builtin; refine wpList_append_vs _ rfl (.tmp 28) (.tmp 29) _ rfl w1.heap.size 3 i0 (.int .i64 0) 8 Try.underlying22 hi hz0 hz1 hz2 rfl (.slice A2 l.length c2) l.length (intsV l) rfl (o2.alloc _) (w2.heap.size + 1) (some ⟨w2.heap.size, 0, none⟩) 1 1 [.int .i64 77] rfl rfl (vs_lit w2 3 [.int .i64 77] _ (by omega)) (by simp [Value.oneCell']) (by unfold maxLen; omega) (by omega) (by have := hb2.size; simp; omega) ?_; intro A3 c3 w3 o3 hg3 _; have k3 := (k2.alloc k2.size (.cells #[.int .i64 77] 3)).grown hg3 (by simp; have := k2.size; omega) (fun g hg => by have := (o2.lt g hg).1; omega); obtain ⟨gi, rfl, hc3, hm3, hgi1, hgi2⟩ := row_form o3 (by omega))
  rw [← intsV_sing, ← intsV_append] at o3
  have hs3 := k3.size
  have bi3 := is_in o3
  have K3 := Lib.hid k3
  have O3 := Lib.hid o3
  clear hg3 o2 hb2 k2 o3
  have hE : Hid (∀ e, codesErr l = e → codesErr l = e) := Lib.hid (fun _ h => h)
  refine (codes_any (some ⟨gi, 0, none⟩) c3 l w3 bi3 (by omega)).mono ?_
  rintro e w4 ⟨Aa, na, ca, rfl, oa, hb4⟩
  have hs4 := hb4.size
  have OA := Lib.hid oa; clear oa
  have bi4 := (bi3.below hb4).more hs4
  go_wp2_with fail
  refine (codes_any (some ⟨gi, 0, none⟩) c3 l w4 bi4 (by omega)).mono ?_
  rintro e w5 ⟨Ab, nb, cb, rfl, ob, hb5⟩
  have hs5 := hb5.size
  have OB := Lib.hid ob; clear ob
  have j5 := hb4.trans (hb5.mono hs4)
  have bi5 := (bi3.below j5).more j5.size
  go_wp2_with fail
  refine (build_any (some ⟨gi, 0, none⟩) c3 l most w5 bi5 (by omega)).mono ?_
  rintro e w6 ⟨Ax, nx, cx, Lx, rfl, ox, _, _, hb6⟩
  have hs6 := hb6.size
  have OX := Lib.hid ox; clear ox
  have j6 := j5.trans (hb6.mono j5.size)
  have bi6 := (bi3.below j6).more j6.size
  go_wp2_with fail
  refine (new_any (some ⟨gi, 0, none⟩) c3 l w6 bi6 (by omega)).mono ?_
  intro e w7 hN
  obtain ⟨P, rfl, hb7, hD⟩ := new_both hN
  clear hN hE
  have j7 := j6.trans (hb7.mono j6.size)
  have o7 := own_upd O3.out (Upd.of_fresh j7) (fun _ _ => id)
  have bi7 := is_in o7
  have hlast := in_last o7
  have O7 := Lib.hid o7; clear o7
  have k7 := K3.out.trans (j7.mono hs3)
  have b7 : Is w7 w.heap.size A l := Vs.below hbs k7
  have LA := Lib.hid (row_lt OA.out)
  have LB := Lib.hid (row_lt OB.out)
  have LX := Lib.hid (row_lt OX.out)
  have z4 := hb4.size
  have z5 := hb5.size
  have z6 := hb6.size
  have z7 := hb7.size
  have HOA7 := Lib.hid (own_upd OA.out (Upd.of_fresh (hb5.trans ((hb6.mono z5).trans (hb7.mono (Nat.le_trans z5 z6))))) (fun _ _ => id))
  have HOB7 := Lib.hid (own_upd OB.out (Upd.of_fresh (hb6.trans (hb7.mono z6))) (fun _ _ => id))
  have HOX7 := Lib.hid (own_upd OX.out (Upd.of_fresh hb7) (fun _ _ => id))
  have hna := own_len OA.out
  have hnb := own_len OB.out
  rw [u32V_length] at hna hnb
  subst hna
  have hnb2 := hnb
  clear hnb
  have HNB := Lib.hid hnb2; clear hnb2
  have hlc : (codesAns l).length ≤ 17592186043904 := by
    unfold codesAns
    split
    · rw [codesL_length]; omega
    · simp
  have hnx := (own_cap OX.out).1
  have hnx2 := (own_cap OX.out).2
  have HD := Lib.hid hD; clear hD
  have K7 := Lib.hid k7; clear k7
  have HJ7 := Lib.hid j7; clear j7
  clear bi3 bi4 bi5 bi6 hb1 hb4 hb5 hb6 hb7 j5 j6
  have hbb : (l == l) = true := by simp
  have HBB := Lib.hid hbb; clear hbb
  have hm : l.length ≤ maxLen := by unfold maxLen; omega
  unfold maxLen at hnx2
  go_wp2_with fail
  refine (sameInts_n (some ⟨gi, 0, none⟩) A l.length l.length c3 c l l rfl rfl w7.heap.size w7 bi7 (Vs.more b7 K7.out.size) hm).mono ?_
  rw [HBB.out]
  rintro e w8 ⟨rfl, m8, rfl⟩
  go_wp2_with fail
  go_loopw [81] (fun i wr => ∃ k : Nat, k ≤ (codesAns l).length ∧ i = .int .i64 (k : Int) ∧ SpAt w7 w3.heap.size 35 Aa (codesAns l).length ca wr) (fun i _ => (codesAns l).length - (intOf i).toNat)
  case atStart => exact ⟨0, by omega, rfl, (SpAt.start HOA7.out).drewN m8⟩
  case round =>
    obtain ⟨k, hk, rfl, hS⟩ := hrel
    by_cases hlt : k < (codesAns l).length
    · obtain ⟨ga, v, rfl, hc, hf, _, _, hset⟩ := hS.cell k hlt
      have HSN := Lib.hid (hset (.int .u32 99))
      clear hset hS
      go_wp2_with fail
      go_roundw
      case rel => exact ⟨k + 1, by omega, by go_num, HSN.out⟩
      case measure => simp [intOf]; omega
    obtain ⟨w9, rfl⟩ : ∃ w9 : World, w9 = wr := ⟨_, rfl⟩
    have HS9 := Lib.hid hS; clear hS
    have HOX9 := Lib.hid (row_keep HOX7.out HS9.out.2 (fun b hb e => by have h1 := LX.out b hb; have h2 := LA.out b e; omega))
    go_wp2_with fail
    go_loopw [90] (fun i wr => ∃ k : Nat, k ≤ nx ∧ i = .int .i64 (k : Int) ∧ SpAt w9 w5.heap.size 3 Ax nx cx wr) (fun i _ => nx - (intOf i).toNat)
    case atStart => exact ⟨0, by omega, rfl, SpAt.start HOX9.out⟩
    case round =>
      obtain ⟨k2, hk2, rfl, hS⟩ := hrel
      by_cases hlt2 : k2 < nx
      · obtain ⟨ga, v, rfl, hc, hf, _, _, hset⟩ := hS.cell k2 hlt2
        have HSN := Lib.hid (hset (.int .i64 (-1)))
        clear hset hS
        go_wp2_with fail
        go_roundw
        case rel => exact ⟨k2 + 1, by omega, by go_num, HSN.out⟩
        case measure => simp [intOf]; omega
      obtain ⟨w10, rfl⟩ : ∃ w10 : World, w10 = wr := ⟨_, rfl⟩
      have HS10 := Lib.hid hS; clear hS
      have HO9 := Lib.hid (row_keep O7.out HS9.out.2 (fun b hb e => by have h2 := LA.out b e; simp at hb; omega))
      have HO10 := Lib.hid (row_keep HO9.out HS10.out.2 (fun b hb e => by have h2 := LX.out b e; simp at hb; omega))
      go_wp2_with fail
      go_loopw [99] (fun i wr => ∃ k : Nat, k ≤ l.length + 1 ∧ i = .int .i64 (k : Int) ∧ SpAt w10 w1.heap.size 3 (some ⟨gi, 0, none⟩) (l.length + 1) c3 wr) (fun i _ => l.length + 1 - (intOf i).toNat)
      case atStart => exact ⟨0, by omega, rfl, SpAt.start HO10.out⟩
      case round =>
        obtain ⟨k3, hk3, rfl, hS⟩ := hrel
        by_cases hlt3 : k3 < l.length + 1
        · obtain ⟨ga, v, hga, hc, hf, _, _, hset⟩ := hS.cell k3 hlt3
          injection hga with hga
          injection hga with hga
          subst hga
          have HSN := Lib.hid (hset (.int .i64 16))
          clear hset hS
          go_wp2_with fail
          go_roundw
          case rel => exact ⟨k3 + 1, by omega, by go_num, HSN.out⟩
          case measure => simp [intOf]; omega
        obtain ⟨w11, rfl⟩ : ∃ w11 : World, w11 = wr := ⟨_, rfl⟩
        have U : Upd (fun k => k = gi ∨ (w3.heap.size ≤ k ∧ k < w4.heap.size) ∨ (w5.heap.size ≤ k ∧ k < w6.heap.size)) w7 w11 :=
          ((HS9.out.2.mono (fun k _ e => .inr (.inl (LA.out k e)))).trans (HS10.out.2.mono (fun k _ e => .inr (.inr (LX.out k e))))).trans (hS.2.mono (fun k _ e => .inl (by simpa using e.symm)))
        have HOB11 := Lib.hid (row_keep HOB7.out U (fun b hb e => by have h2 := LB.out b hb; omega))
        have b11 : Is w11 w.heap.size A l := Vs.upd b7 U K7.out.size (fun ad _ hlt e => by omega)
        have k11 := K7.out.trans (U.below K7.out.size (fun b hb e => by omega))
        have HD11 : Hid (codesErr l = 0 → ∃ gd, P = some ⟨gd, 0, none⟩ ∧ DecAt w11 w6.heap.size gd l) := Lib.hid (fun h => by
          obtain ⟨gd, h1, h2⟩ := HD.out.1 h
          exact ⟨gd, h1, h2.upd U (fun b h3 _ e => by omega)⟩)
        have HDN : Hid (codesErr l ≠ 0 → P = none) := Lib.hid HD.out.2
        have HK11 := Lib.hid k11
        have hs11 := U.size
        clear hS U HS9 HS10 HO9 HO10 HOX9 HOX7 HOA7 HOB7 O7 b7 bi7 hlast HD
        go_wp2_with fail
        refine (refCodes_any A c l w11 (Vs.more b11 k11.size) (by omega)).mono ?_
        rintro e w12 ⟨A12, n12, c12, rfl, o12, hb12⟩
        have hn12 := own_len o12
        rw [u32V_length] at hn12
        subst hn12
        obtain rfl := HNB.out
        have v6 : Vs w12 w11.heap.size Ab (u32V (codesAns l)) := Vs.below (Vs.of_own HOB11.out) hb12
        have v7 : Vs w12 w12.heap.size A12 (u32V (codesAns l)) := Vs.of_own o12
        have b12 := Vs.below b11 (hb12.mono k11.size)
        have HK12 := Lib.hid (k11.trans (hb12.mono k11.size))
        have HD12 : Hid (codesErr l = 0 → ∃ gd, P = some ⟨gd, 0, none⟩ ∧ DecAt w12 w6.heap.size gd l) := Lib.hid (fun h => by
          obtain ⟨gd, h1, h2⟩ := HD11.out h
          exact ⟨gd, h1, h2.upd (Upd.of_fresh hb12) (fun _ _ _ => id)⟩)
        have hs12 := hb12.size
        clear HD11 k11 HK11 o12 hb12 HOB11 b11 HNB
        generalize codesAns l = C at *
        have d0 : ((C.length : Int) != (C.length : Int)) = false := by simp
        go_wp2_with fail
        go_loopw [118] (fun i wr => ∃ k : Nat, k ≤ C.length ∧ i = .int .i64 (k : Int) ∧ ∃ n, wr = w12.drewN n) (fun i _ => C.length - (intOf i).toNat)
        case atStart => exact ⟨0, by omega, rfl, 0, rfl⟩
        case round =>
          obtain ⟨k4, hk4, rfl, n, rfl⟩ := hrel
          by_cases hlt4 : k4 < C.length
          · obtain ⟨ad1, rfl, hc1⟩ := u32_at v6 k4 hlt4
            obtain ⟨ad2, rfl, hc2⟩ := u32_at v7 k4 hlt4
            generalize C[k4] = x at *
            have d1 : ((x : Int) != (x : Int)) = false := by simp
            go_wp2_with fail
            go_quiet (fail)
            go_wp2_with fail
            go_roundw
            case rel => exact ⟨k4 + 1, by omega, by go_num, n + nq, rfl⟩
            case measure => simp [intOf]; omega
          by_cases h0 : codesErr l = 0
          · obtain ⟨gd, rfl, hd⟩ := HD12.out h0
            obtain ⟨hre, hro⟩ := codesErr_zero h0
            obtain ⟨hl4, hg⟩ := roomErr_zero hre
            have HG := Lib.hid hg
            have HRO := Lib.hid hro
            have d2 : (codesErr l != 0) = false := by simp [h0]
            have HDD := Lib.hid hd
            have HB12 := Lib.hid (below_drewN HK12.out n)
            have hbq := ((Below.refl (w12.drewN n).heap.size (w12.drewN n)).alloc (Nat.le_refl _) (.cells (bytesV [0, 0, 0]).toArray 5))
            have HBL := Lib.hid (bs_lit (w12.drewN n) 5 [0, 0, 0] ((w12.drewN n).heap.size + 1) (by omega))
            clear h0 hre hro hg hd
            go_wp2_with fail
            refine (newReader_any (some ⟨(w12.drewN n).heap.size, 0, none⟩) 3 [0, 0, 0] true ((w12.drewN n).heap.size + 1) _ HBL.out (by simp) (by simp)).mono ?_
            rintro e w14 ⟨gr, A14, c14, rfl, hR14, hb14⟩
            have hb14' : Below (w12.drewN n).heap.size (w12.drewN n) w14 := hbq.trans (hb14.mono (by simp))
            have hdq : DecAt (w12.drewN n) w6.heap.size gd l := HDD.out
            have hd14 := hdq.upd (Upd.of_fresh hb14') (fun _ _ _ => id)
            obtain ⟨u, s, er, hX⟩ : ∃ u s er, nextOf l (fun i => bitAt [0, 0, 0] true (0 + i)) (8 * [(0 : UInt8), 0, 0].length - 0) = (u, s, er) := ⟨_, _, _, rfl⟩
            have hn1 := next_any w14 _ gd l hd14 HG.out hl4 HRO.out _ gr A14 c14 [0, 0, 0] true 0 hR14
            rw [hX] at hn1
            have HN1 := Lib.hid hn1; clear hn1
            have HX := Lib.hid hX; clear hX
            have hgr : w.heap.size ≤ gr := by
              have h1 := hR14.2.2.1
              have h2 := HB12.out.size
              simp at h1 h2
              omega
            have HB14 := Lib.hid (HB12.out.trans (hb14'.mono HB12.out.size))
            clear hb14 hb14' hbq hdq hd14 hR14
            go_wp2_with fail
            refine HN1.out.mono ?_
            intro e w15 hP
            unfold NextP at hP
            obtain ⟨rfl, _, hU15⟩ := hP
            simp only
            have hb15 := HB14.out.trans (hU15.below HB14.out.size (fun b hb e => by omega))
            have HB15 := Lib.hid hb15
            clear hU15 HN1
            go_wp2_with fail
            refine (refTabled_any A c l w15 (Vs.more (Vs.below hbs hb15) hb15.size) hl4 HG.out HRO.out).mono ?_
            rintro e w16 ⟨cs, rfl, hcl, hF, hO, hA, hb16⟩
            have hto := (TblO.start hO).upd ((Upd.refl No w16).alloc (.cells (bytesV [0, 0, 0]).toArray 5)) (fun _ _ _ => id)
            have htv := hto.val hcl hF hA
            have hn2 : Calls Try.prog 20 #[.agg cs.toArray, .agg #[.slice (some ⟨w16.heap.size, 0, none⟩) 3 3, .bool true, .int .i64 0]] (w16.alloc (.cells (bytesV [0, 0, 0]).toArray 5)) (NextRes (w16.alloc (.cells (bytesV [0, 0, 0]).toArray 5)) (some ⟨w16.heap.size, 0, none⟩) 3 [0, 0, 0] true 0 (u, s, er)) := by
              have h := refNext_any l cs (some ⟨w16.heap.size, 0, none⟩) 3 [0, 0, 0] true 0 (w16.alloc (.cells (bytesV [0, 0, 0]).toArray 5)) htv hl4 HRO.out (bs_lit w16 5 [0, 0, 0] _ (by simp)) (by simp) (by simp)
              rw [HX.out] at h
              exact h
            have HN2 := Lib.hid hn2
            have hb17 := (HB15.out.trans (hb16.mono HB15.out.size)).alloc (HB15.out.trans (hb16.mono HB15.out.size)).size (.cells (bytesV [0, 0, 0]).toArray 5)
            have HB17 := Lib.hid hb17
            clear hcl hF hO hA hb16 hb15 hto htv hn2 hb17
            go_wp2_with fail
            refine HN2.out.mono ?_
            intro e w18 hP
            unfold NextRes at hP
            obtain ⟨rfl, hb18⟩ := hP
            simp only
            rw [show rdV (some ⟨w16.heap.size, 0, none⟩) 3 [0, 0, 0] true ((0 + u : Nat) : Int) = .agg #[.slice (some ⟨w16.heap.size, 0, none⟩) 3 3, .bool true, .int .i64 ((0 + u : Nat) : Int)] from rfl]
            have HB18 := Lib.hid (HB17.out.trans (hb18.mono HB17.out.size))
            have d3 : (((s : Nat) : Int) == ((s : Nat) : Int)) = true := by simp
            have d4 : (((er : Nat) : Int) == ((er : Nat) : Int)) = true := by simp
            clear hb18 HN2
            go_wp2_with fail
            go_ret
            exact ⟨rfl, HB18.out.alloc HB18.out.size _⟩
          · obtain rfl := HDN.out h0
            have d2 : (codesErr l != 0) = true := by simp [h0]
            have HB12 := Lib.hid (below_drewN HK12.out n)
            clear h0
            go_wp2_with fail
            go_ret
            exact ⟨rfl, HB12.out⟩

set_option maxRecDepth 100000 in
theorem lifted (os : Os) (started : os.Started) (H : Type) (enc : TypeId × Value → H) :
    ReturnsInHanded {} Try.checked os 8 .any (Rows.prefixOwnSpec.pre6 enc Try.prog Try.f8 Rows.prefixOwnRow.domain false) (Rows.prefixOwnSpec.post enc Try.prog Try.f8 false true false false) := by
  refine returnsInHanded_of_change_sized (C := Try.checked) prog_own started (by kernel_rfl) Try.func8
    (ChangeSpec.witness6 (enc := enc) (C := Try.checked) false ⟨#[], #[.slice none 0 0, .int .i64 0], []⟩ 8 (by kernel_rfl) (by kernel_rfl) (by kernel_rfl) (by kernel_rfl)) ?_
  intro W base args ds gs before hval0 hW hcnd hsz _
  have hval : ∀ (j : Nat) t v, Try.f8.params[j]? = some t → args[j]? = some v → Value.okWide Try.prog W .any base t v := hval0
  have hW' := hW
  obtain ⟨p, q, hA0, hV, rfl, hfz, hnd⟩ := hW
  have hA : DataW.TrodAll enc Try.prog W 0 (fun _ => true) true Try.f8.params.toList args.toList ds p := hA0
  rw [Try.params8] at hA hval
  obtain ⟨v0, vs0, d0, ds0, p0, q0, hargs, rfl, rfl, h0, r0⟩ := trodAll_cons hA
  obtain ⟨v1, vs1, d1, ds1, p1, q1, rfl, rfl, rfl, h1, r1⟩ := trodAll_cons r0
  obtain ⟨rfl, rfl, rfl⟩ := trodAll_nil r1
  obtain rfl : args = #[v0, v1] := by cases args; simp_all
  obtain ⟨rfl, rfl⟩ := trodVars_none hV
  obtain ⟨A0, l0, c0, rfl, hb0, hk0, hd0⟩ := open_numbers (hval 0 22 v0 rfl rfl) h0
  obtain ⟨a1, rfl, rfl, rfl, w1⟩ := open_int Try.underlying3 (hval 1 3 v1 rfl rfl) h1
  have hl0 : l0.length ≤ 17592186043904 := by
    rcases hd0 with ⟨_, rfl⟩ | ⟨e, s, rfl, hle⟩
    · simp
    · have this : (e.length + s.length) * Try.prog.bytesOf 3 ≤ reachBytes := sized_slice hsz (j := 0) (t := 22) (e := 3) rfl rfl Try.underlying22
      rw [bytes_int] at this
      unfold reachBytes at this
      omega
  have lt0 : ∀ x ∈ p0, x.block < W.heap.size := by obtain ⟨m, hm⟩ := h0; exact DataW.trod_lt m _ _ _ hm
  clear hA0 hval0
  refine (walk A0 c0 l0 a1 W hb0 hk0 hl0 (bounds_i64 w1)).mono fun e W' ⟨he, bel⟩ => ?_
  subst he
  exact ⟨_, rfl, _, _, _, [], _, [], hW', trodAll_mk1 (shut_bool Try.underlying4 _), (trodAll_cons_mk (Below.trod prog_laid (by kernel_rfl) (of_decide_eq_true (by kernel_rfl)) h0 bel lt0) (trodAll_cons_mk (shut_int Try.underlying3 w1) trodAll_mk0)), rfl, bel.frame _, fun h => by cases h⟩

theorem over : Rows.prefixOwnRow.holds Try.pinned (OpenSpec.ofChange Rows.prefixOwnSpec) :=
  OpenClaim.holds_of_wide 8 Try.f8 rfl rfl rfl rfl rfl rfl rfl ⟨rfl, rfl, rfl, rfl, rfl⟩ rfl rfl rfl rfl rfl (by kernel_rfl) Try.func8 (by kernel_rfl)
    (of_decide_eq_true (by kernel_rfl)) (by unfold Func.isWrapper; first | (rw [if_pos (by decide +kernel)]; kernel_rfl) | (rw [if_neg (by decide +kernel)]; exact ⟨rfl, rfl⟩))
    (fun os started H enc _ => lifted os started H enc)
end PrefixOwn

theorem prefixOwn_holds : Rows.PrefixOwnSaid := PrefixOwn.over
#print axioms prefixOwn_holds
end Go.Proofs.Ytpolbnobnilfcaa
