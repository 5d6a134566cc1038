/- The document's reader of codes. -/
import Derived.Test.YthnfnfaiicfenaaRc
import Derived.Deep.DeepCutAuto
namespace Go.Proofs.Ythnfnfaiicfenaa
open Go.ChangeShapes Go.WideShapes Go.ChangeAt Go.RowKit

/-- The code ahead, as the document keeps it. -/
def AheadD (clear : Nat) (T : List (List UInt8)) (a : List UInt8) (v : Int) : Prop :=
  (a = [] ∧ v = -1 ∧ T = []) ∨ (a ≠ [] ∧ ∃ c : Nat, v = (c : Int) ∧ GoodC clear T.length c ∧ strC clear T c = a)
/-- What stands at each code's head. -/
def DAt (w0 w : World) (gR gT clear : Nat) (A : Option Addr) (c : Nat) (b : List UInt8) (high : Bool) (p : Nat) (T : List (List UInt8)) (a out : List UInt8) (vo va : Value) : Prop :=
  ∃ Aa ca ah Al cl la As cs sz Ao co v, vo = .slice Ao out.length co ∧ va = .int .i64 v ∧ DMem w0 w gR gT clear A c b high p Aa ca ah Al cl la As cs sz Ao co out none 0 [] ∧ TabD clear ah la sz T ∧ AheadD clear T a v ∧ clear + 2 + T.length ≤ 4096 ∧ Len T a ∧ out.length ≤ 4096 * p
theorem beq_w {n W early : Nat} (hW : W ≤ 12) (he : early ≤ 1) : (((n : Int) + 1) == wrap64 (wrap64 ((2 : Int) ^ W) - (early : Int))) = decide (n + 1 + early = 2 ^ W) := by
  have h1 : 2 ^ W ≤ 2 ^ 12 := Nat.pow_le_pow_right (by omega) hW
  have e : ((2 : Int) ^ W) = ((2 ^ W : Nat) : Int) := (Int.natCast_pow 2 W).symm
  rw [e]
  obtain ⟨Q, hQ⟩ : ∃ Q, 2 ^ W = Q := ⟨_, rfl⟩
  rw [hQ] at h1 ⊢
  have a : wrap64 (Q : Int) = Q := IntWalk.wrap64_in _ ⟨by omega, by omega⟩
  rw [a, IntWalk.wrap64_in ((Q : Int) - (early : Int)) ⟨by omega, by omega⟩, Bool.eq_iff_iff]
  simp
  omega
theorem info_intD : (Try.prog.info? 3).map (fun i => (i.zero, i.size, i.bytes)) = some (some (.int .i64 0), 1, 8) := by kernel_rfl
set_option maxHeartbeats 8000000 in
set_option maxRecDepth 100000 in
theorem refUnpack_any (w : World) (A : Option Addr) (c : Nat) (b : List UInt8) (clear first : Nat) (high : Bool) (early : Nat) (most : Int) (h : Bs w w.heap.size A b) (hb : b.length ≤ 4000000) (h1 : 4 ≤ clear) (h2 : clear ≤ 256) (he : early ≤ 1) (hmax : most ≤ 9223372036854775807) (hw : wM early (clear + 2) = first) :
    Calls Try.prog 25 #[.slice A b.length c, .int .i64 (clear : Int), .int .i64 (first : Int), .bool high, .int .i64 (early : Int), .int .i64 most] w (UnpackR w (unpackM b high clear early most.toNat)) := by
  have HB := Lib.hid h
  clear h
  have hf1 := wM_one early (clear + 2) (by omega)
  rw [hw] at hf1
  have HW := Lib.hid hw
  clear hw
  obtain ⟨X, HX⟩ : ∃ X, Hid (unpackM b high clear early most.toNat = X) := ⟨_, Lib.hid rfl⟩
  rw [HX.out]
  obtain ⟨M, hM⟩ : ∃ M, M = most.toNat := ⟨_, rfl⟩
  rw [← hM] at HX
  have HMm := Lib.hid hM
  clear hM
  go_enter Try.func25, Try.ntmps25
  go_upto_if 28 with (fail)
  go_cut [5] (fun v wx => v = .int .i64 (M : Int) ∧ w = wx)
  case first =>
    by_cases hm : most < 0
    · have d : decide (most < 0) = true := by simp; omega
      have HM0 : Hid ((M : Int) = 0) := Lib.hid (by have := HMm.out; omega)
      go_wp2_with fail
      go_meet
      exact ⟨by rw [HM0.out], rfl⟩
    · have d : decide (most < 0) = false := by simp; omega
      have HM0 : Hid ((M : Int) = most) := Lib.hid (by have := HMm.out; omega)
      go_wp2_with fail
      go_meet
      exact ⟨by rw [HM0.out], rfl⟩
  case rest =>
    obtain ⟨rfl, rfl⟩ := hcut
    have hm63 : (M : Int) ≤ 9223372036854775807 := by have := HMm.out; omega
    go_wp2_with fail
    obtain ⟨gR, hgR⟩ : ∃ g, g = w.heap.size := ⟨_, rfl⟩
    obtain ⟨w1, hw1⟩ : ∃ w1, w1 = (w.alloc (.cells #[.slice A b.length c, .bool high, .int .i64 0] 71)).alloc (.cells #[.int .i64 (clear : Int), .slice none 0 0, .slice none 0 0, .slice none 0 0] 74) := ⟨_, rfl⟩
    have H0 : Hid (DAt w w1 gR (gR + 1) clear A c b high 0 [] [] [] (.slice none 0 0) (.int .i64 (-1))) := Lib.hid (by
      subst hw1 hgR
      have hB1 := (Blk.new w 71 #[.slice A b.length c, .bool high, .int .i64 0]).alloc (.cells #[.int .i64 (clear : Int), .slice none 0 0, .slice none 0 0, .slice none 0 0] 74)
      have hB2 := Blk.new (w.alloc (.cells #[.slice A b.length c, .bool high, .int .i64 0] 71)) 74 #[.int .i64 (clear : Int), .slice none 0 0, .slice none 0 0, .slice none 0 0]
      rw [World.size_alloc] at hB2
      refine ⟨none, 0, [], none, 0, [], none, 0, [], none, 0, -1, rfl, rfl, ⟨hB1, hB2, World.ownsRow_nil _ _ _ _, World.ownsRow_nil _ _ _ _, World.ownsRow_nil _ _ _ _, World.ownsRow_nil _ _ _ _, World.ownsRow_nil _ _ _ _, Apart.none_ _, Apart.none_ _, Apart.none_ _, Apart.none_ _, ((Below.refl _ _).alloc (Nat.le_refl _) _).alloc (by simp) _, Nat.le_refl _, by omega⟩, TabD.nil_ _, .inl ⟨rfl, rfl, rfl⟩, by simp; omega, ⟨fun _ hs => (by cases hs), (by simp)⟩, by simp⟩)
    have HX0 : Hid (runM b high clear early M (8 * b.length + 1 - 0) 0 [] [] [] = X) := HX
    rw [← hgR, ← hw1]
    have HW1 := Lib.hid (And.intro hgR hw1)
    clear hgR hw1 HX HMm
    generalize gR + 1 = gT at *
    go_loopg [2, 16, 18] (8 * b.length) (fun gk vw vo va wr => ∃ (p : Nat) (T : List (List UInt8)) (a out : List UInt8) (W : Nat), gk = 8 * b.length - p ∧ p ≤ 8 * b.length ∧ vw = .int .i64 (W : Int) ∧ Hid (W = wM early (clear + 2 + T.length)) ∧ Hid (DAt w wr gR gT clear A c b high p T a out vo va) ∧ Hid (runM b high clear early M (8 * b.length + 1 - p) p T a out = X))
    case atStart => exact ⟨0, [], [], [], first, rfl, by omega, rfl, Lib.hid HW.out.symm, H0, HX0⟩
    case round =>
      obtain ⟨p, T, a, out, W, rfl, hp, rfl, HWw, HD, HXr⟩ := hrel
      clear H0 HX0
      obtain ⟨Aa, ca, ah, Al, cl, la, As, cs, sz, Ao, co, v, rfl, rfl, hmem, htab, hahd, hroom, hlen, hout⟩ := HD.out
      have HM := Lib.hid hmem
      have HTb := Lib.hid htab
      have HAh := Lib.hid hahd
      have HLn := Lib.hid hlen
      clear HD hmem htab hahd hlen
      have hw := wM_one early (clear + 2 + T.length) (by omega)
      rw [← HWw.out] at hw
      have r0 : wr.cell? ⟨gR, 0, none⟩ = some (.slice A b.length c) := by rw [HM.out.rb.cell]; rfl
      have r1 : wr.cell? ⟨gR, 1, none⟩ = some (.bool high) := by rw [HM.out.rb.cell]; rfl
      have r2 : wr.cell? ⟨gR, 2, none⟩ = some (.int .i64 (p : Int)) := by rw [HM.out.rb.cell]; rfl
      have HBr := Lib.hid ((HB.out.below HM.out.below).more HM.out.below.size)
      by_cases hq : p + W ≤ 8 * b.length
      · have hlt : num high (fun i => bitAt b high (p + i)) W < 65536 := Nat.lt_of_lt_of_le (num_lt _ _ _) (Nat.pow_le_pow_right (n := 2) (by omega) (by omega : W ≤ 16))
        have htk : takeO b high p W = .ok (num high (fun i => bitAt b high (p + i)) W, p + W) := by unfold takeO; rw [if_pos hq]
        have HTk := Lib.hid (refTake_ok A c b high p W wr HBr.out (by omega) (by omega) hq)
        have hxr := HXr.out
        rw [show 8 * b.length + 1 - p = 8 * b.length - p + 1 by omega, runM, ← HWw.out, htk] at hxr
        replace hxr : (if num high (fun i => bitAt b high (p + i)) W = clear then runM b high clear early M (8 * b.length - p) (p + W) [] [] out else if num high (fun i => bitAt b high (p + i)) W = clear + 1 then .ok out else match writeM clear M T a out (num high (fun i => bitAt b high (p + i)) W) with
          | .error e => .error e
          | .ok (T', a', out') => runM b high clear early M (8 * b.length - p) (p + W) T' a' out' : Except Nat (List UInt8)) = X := hxr
        have HXc := Lib.hid hxr
        clear HXr hxr htk
        generalize num high (fun i => bitAt b high (p + i)) W = code at *
        obtain ⟨q, hqd⟩ : ∃ q, p + W = q := ⟨_, rfl⟩
        rw [hqd] at HTk HXc hq
        have hpq : p + 1 ≤ q := by omega
        have HQ := Lib.hid hqd
        clear hqd
        go_wp2_with fail
        refine HTk.out.mono ?_
        rintro e w2 ⟨rfl, hb2⟩
        have HM2 := Lib.hid (HM.out.fresh hb2)
        have hgR2 : gR < w2.heap.size := HM2.out.rb.lt
        clear HTk HM r0 r1 r2 hb2 HBr
        have r0 : w2.cell? ⟨gR, 0, none⟩ = some (.slice A b.length c) := by rw [HM2.out.rb.cell]; rfl
        have r1 : w2.cell? ⟨gR, 1, none⟩ = some (.bool high) := by rw [HM2.out.rb.cell]; rfl
        have r2 : w2.cell? ⟨gR, 2, none⟩ = some (.int .i64 (p : Int)) := by rw [HM2.out.rb.cell]; rfl
        have k0 := HM2.out.rb.frozen 0
        have k1 := HM2.out.rb.frozen 1
        have k2 := HM2.out.rb.frozen 2
        have HM3 := Lib.hid ((HM2.out.read q).fresh ((Below.refl _ _).alloc (Nat.le_refl _) (.cells #[.slice A b.length c, .bool high, .int .i64 (q : Int)] 71)))
        go_upto_region 11 with fail
        clear r0 r1 r2 k0 k1 k2 hgR2 HM2
        obtain ⟨w3, hw3⟩ : ∃ w3, (((w2.setCell ⟨gR, 0, none⟩ (.slice A b.length c)).setCell ⟨gR, 1, none⟩ (.bool high)).setCell ⟨gR, 2, none⟩ (.int .i64 (q : Int))).alloc (.cells #[.slice A b.length c, .bool high, .int .i64 (q : Int)] 71) = w3 := ⟨_, rfl⟩
        rw [hw3] at HM3 ⊢
        clear hw3
        have t1 : w3.cell? ⟨gT, 1, none⟩ = some (.slice Aa ah.length ca) := by rw [HM3.out.tb.cell]; rfl
        have hahl : ah.length ≤ 4096 := by rw [HTb.out.ah_]; omega
        obtain ⟨n, hn⟩ : ∃ n, clear + 2 + T.length = n := ⟨_, rfl⟩
        have hn1 : clear + 2 ≤ n := by omega
        have hn2 : n ≤ 4096 := by omega
        have s1 : IntKind.i64.wrap ((clear : Int) + 2) = (clear : Int) + 2 := IntWalk.i64_in _ (by omega)
        have s2 : IntKind.i64.wrap ((clear : Int) + 2 + (ah.length : Int)) = (n : Int) := by rw [HTb.out.ah_, ← hn]; exact IntWalk.i64_in _ (by omega)
        have s3 : IntKind.i64.wrap (code : Int) = (code : Int) := IntWalk.i64_in _ (by omega)
        have HN := Lib.hid hn
        clear hn
        go_quiet (fail)
        have HM4 := Lib.hid (HM3.out.drewN nq)
        clear HM3 t1 s1 s2 s3
        generalize w3.drewN nq = w4 at *
        by_cases c1 : code = clear
        · as_aux_lemma =>
          have HXn : Hid (runM b high clear early M (8 * b.length + 1 - q) q [] [] out = X) := Lib.hid (by
            rw [← HXc.out, if_pos c1]; exact runM_fuel _ _ _ _ _ _ _ _ _ _ _ (by omega) (by omega))
          have d1 : ((code : Int) == (clear : Int)) = true := by simp; omega
          have t0 : w4.cell? ⟨gT, 0, none⟩ = some (.int .i64 (clear : Int)) := by rw [HM4.out.tb.cell]; rfl
          have t1 : w4.cell? ⟨gT, 1, none⟩ = some (.slice Aa ah.length ca) := by rw [HM4.out.tb.cell]; rfl
          have t2 : w4.cell? ⟨gT, 2, none⟩ = some (.slice Al la.length cl) := by rw [HM4.out.tb.cell]; rfl
          have t3 : w4.cell? ⟨gT, 3, none⟩ = some (.slice As sz.length cs) := by rw [HM4.out.tb.cell]; rfl
          have k0 := HM4.out.tb.frozen 0
          have k1 := HM4.out.tb.frozen 1
          have k2 := HM4.out.tb.frozen 2
          have k3 := HM4.out.tb.frozen 3
          have HM5 := Lib.hid HM4.out.reset
          clear HXc c1
          go_wp2_with fail
          go_roundg (8 * b.length - q)
          case measure => omega
          case rel => exact ⟨q, [], [], out, first, rfl, by omega, rfl, Lib.hid (by simpa using HW.out.symm), Lib.hid ⟨_, _, _, _, _, _, _, _, _, _, _, -1, rfl, rfl, HM5.out, TabD.nil_ _, .inl ⟨rfl, rfl, rfl⟩, by simp; omega, ⟨fun _ hs => (by cases hs), (by simp)⟩, by omega⟩, HXn⟩
        have d1 : ((code : Int) == (clear : Int)) = false := by simp; omega
        by_cases c2 : code = clear + 1
        · have HXn : Hid (X = .ok out) := Lib.hid (by rw [← HXc.out, if_neg c1, if_pos c2])
          have d2 : ((code : Int) == (clear : Int) + 1) = true := by simp; omega
          clear HXc c1 c2
          go_wp2_with fail
          go_ret2
          rw [HXn.out]
          exact ⟨Ao, co, rfl, HM4.out.ro, HM4.out.below⟩
        have d2 : ((code : Int) == (clear : Int) + 1) = false := by simp; omega
        have HXn := HXc.out
        rw [if_neg c1, if_neg c2] at HXn
        have HXm := Lib.hid HXn
        clear HXc HXn
        have hL : out.length ≤ 131072000000 := by omega
        by_cases hane : a = []
        · as_aux_lemma =>
          subst hane
          have hv : v = -1 ∧ T = [] := by
            rcases HAh.out with h | h
            · exact h.2
            · exact absurd rfl h.1
          obtain ⟨rfl, hT0⟩ := hv
          by_cases c3 : code < clear
          · have HT0 := Lib.hid hT0
            clear hT0 c1 c2
            have HGf : Hid (GoodC clear T.length code) := Lib.hid (.inl c3)
            have HSM : Hid (strM clear T [] code = some (strC clear T code)) := Lib.hid (by unfold strM; rw [if_pos c3, strC_lo c3])

            obtain ⟨s, hs⟩ : ∃ s, strC clear T code = s := ⟨_, rfl⟩
            have hsl : s.length ≤ 4097 ∧ 1 ≤ s.length := by
              have h1 := strC_pos HTb.out HGf.out
              rw [hs] at h1
              refine ⟨?_, h1⟩
              rcases HGf.out with h | h
              · rw [strC_lo h] at hs; rw [← hs]; simp
              · rw [strC_hi h.1 (by omega)] at hs
                rw [← hs]
                have := HLn.out.1 _ (List.getElem_mem (l := T) (n := code - clear - 2) (by omega))
                omega
            rw [hs] at HSM
            have HSZ := Lib.hid (size_any w4 clear code Aa ah.length ca Al la.length cl As sz.length cs HTb.out rfl (Vs.of_own HM4.out.rs) HGf.out h2 (by omega))
            have HTX := Lib.hid (fun (w' : World) (hb' : Below w4.heap.size w4 w') => text_any w' clear code Aa ah.length ca Al la.length cl As sz.length cs HTb.out rfl (Vs.of_own (HM4.out.fresh hb').rs) rfl (Vs.of_own (HM4.out.fresh hb').ra) rfl (Bs.of_own (HM4.out.fresh hb').rl) HGf.out h2 (by omega) (by rw [hs]; omega))
            rw [hs] at HSZ HTX
            have HSs := Lib.hid hs
            clear hs

            have t0 : w4.cell? ⟨gT, 0, none⟩ = some (.int .i64 (clear : Int)) := by rw [HM4.out.tb.cell]; rfl
            have t1 : w4.cell? ⟨gT, 1, none⟩ = some (.slice Aa ah.length ca) := by rw [HM4.out.tb.cell]; rfl
            have t2 : w4.cell? ⟨gT, 2, none⟩ = some (.slice Al la.length cl) := by rw [HM4.out.tb.cell]; rfl
            have t3 : w4.cell? ⟨gT, 3, none⟩ = some (.slice As sz.length cs) := by rw [HM4.out.tb.cell]; rfl

            go_wp2_with fail
            refine HSZ.out.mono ?_
            rintro e w5 ⟨rfl, hb5⟩
            have HM5 := Lib.hid (HM4.out.fresh hb5)
            have HT5 := Lib.hid (HTX.out w5 hb5)
            clear hb5 HSZ HTX HM4 t0 t1 t2 t3
            obtain ⟨L, hLd⟩ : ∃ L, out.length = L := ⟨_, rfl⟩
            rw [hLd] at hL hout
            have hL' := hL
            by_cases hlong : M < L + s.length
            · have HXe : Hid (X = .error 3) := Lib.hid (by
                rw [← HXm.out]; unfold writeM; rw [HSM.out]
                show (match (if M < out.length + (s).length then .error 3 else .ok (growM clear T [] (s), s, out ++ (s)) : Except Nat (List (List UInt8) × List UInt8 × List UInt8)) with | .error e => .error e | .ok (T', a', out') => runM b high clear early M (8 * b.length - p) q T' a' out' : Except Nat (List UInt8)) = .error 3
                rw [if_pos (by rw [hLd]; omega)])
              have hlong1 : (M : Int) - (L : Int) < (s.length : Int) := by omega
              rw [hLd]
              clear HXm hLd hlong
              go_wp2_with fail
              go_ret2
              rw [HXe.out]
              exact ⟨rfl, HM5.out.below⟩
            have hlong1 : ¬ (M : Int) - (L : Int) < (s.length : Int) := by omega
            have HXo : Hid (runM b high clear early M (8 * b.length + 1 - q) q (growM clear T [] (s)) (s) (out ++ (s)) = X) := Lib.hid (by
              have e : writeM clear M T [] out code = .ok (growM clear T [] (s), s, out ++ (s)) := by
                unfold writeM; rw [HSM.out]
                show (if M < out.length + (s).length then .error 3 else .ok (growM clear T [] (s), s, out ++ (s)) : Except Nat (List (List UInt8) × List UInt8 × List UInt8)) = _
                rw [if_neg (by rw [hLd]; omega)]
              rw [← HXm.out, e]; exact runM_fuel _ _ _ _ _ _ _ _ _ _ _ (by omega) (by omega))
            have HWL : Hid (Len (growM clear T [] (s)) (s) ∧ (out ++ (s)).length ≤ out.length + 4096) := Lib.hid (write_len (clear := clear) (most := M) (T := T) (a := []) (out := out) (code := code) (by
                unfold writeM; rw [HSM.out]
                show (if M < out.length + (s).length then .error 3 else .ok (growM clear T [] (s), s, out ++ (s)) : Except Nat (List (List UInt8) × List UInt8 × List UInt8)) = _
                rw [if_neg (by rw [hLd]; omega)]) HLn.out hroom)
            have HLD := Lib.hid hLd
            rw [hLd]
            clear HXm hLd hlong HSM

            have t0 : w5.cell? ⟨gT, 0, none⟩ = some (.int .i64 (clear : Int)) := by rw [HM5.out.tb.cell]; rfl
            have t1 : w5.cell? ⟨gT, 1, none⟩ = some (.slice Aa ah.length ca) := by rw [HM5.out.tb.cell]; rfl
            have t2 : w5.cell? ⟨gT, 2, none⟩ = some (.slice Al la.length cl) := by rw [HM5.out.tb.cell]; rfl
            have t3 : w5.cell? ⟨gT, 3, none⟩ = some (.slice As sz.length cs) := by rw [HM5.out.tb.cell]; rfl

            obtain ⟨i0, hi, hz0, hz1, hz2⟩ := info_parts info_u8
            go_upto_region 28 with fail
            refine HT5.out.mono ?_
            rintro e w6 ⟨A3, c3, rfl, o3, hb6⟩
            have HM6 := Lib.hid (HM5.out.news hb6 rfl o3)
            clear o3 hb6 HT5 HM5 t0 t1 t2 t3
            go_upto_region 28 with fail
            have HB6 := Lib.hid (Bs.of_own HM6.out.r3)
            have hO6 := HM6.out.ro
            have hsz6 := HM6.out.below.size
            rw [HLD.out] at hO6

            go_upto_if 128 with (at_builtin; refine wpList_append_bs _ rfl (.tmp 119) (.tmp 120) _ rfl w.heap.size 5 i0 Try.underlying22 hi hz0 hz1 hz2 (.slice Ao L co) L (bytesV out) rfl hO6 w6.heap.size A3 c3 s rfl HB6.out (by omega) hsz6 ?_; intro A7 c7 w7 o7 hg7 hat7)
            have HM7 := Lib.hid (HM6.out.growO (A2 := A7) (c2 := c7) (n := L + s.length) (out2 := out ++ s) (by rw [List.length_append, HLD.out]) (by rw [bytesV_append]; exact o7) (by rw [HLD.out]; exact hg7) (by rw [HLD.out]; exact hat7))
            clear o7 hg7 hat7 HM6 HB6 hO6 hsz6

            go_wp2_with fail
            go_roundg (8 * b.length - q)
            case measure => omega
            case rel =>
              have eg : growM clear T [] s = T := by unfold growM; rw [if_pos rfl]
              have hX := HXo.out
              have hW := HWL.out
              rw [eg] at hX hW
              have hsn : s ≠ [] := fun e => by rw [e] at hsl; simp at hsl
              refine ⟨q, T, s, out ++ s, W, rfl, by omega, rfl, HWw, Lib.hid ⟨_, _, _, _, _, _, _, _, _, _, _, (code : Int), by rw [List.length_append, HLD.out], rfl, HM7.out.noS, HTb.out, .inr ⟨hsn, code, rfl, HGf.out, HSs.out⟩, by omega, hW.1, ?_⟩, Lib.hid hX⟩
              have := hW.2
              rw [HLD.out] at this
              omega
          · have c4 : clear < code := by omega
            have HST : Hid (strM clear T [] code = none) := Lib.hid (by unfold strM; rw [if_neg c3, if_pos rfl])
            clear hT0 c1 c2
            have HXe : Hid (X = .error 32) := Lib.hid (by
              rw [← HXm.out]; unfold writeM; rw [HST.out])
            clear HXm HST
            go_wp2_with fail
            go_ret2
            rw [HXe.out]
            exact ⟨rfl, HM4.out.below⟩

        obtain ⟨c0, rfl, hg0, hs0⟩ : ∃ c0 : Nat, v = (c0 : Int) ∧ GoodC clear T.length c0 ∧ strC clear T c0 = a := by
          rcases HAh.out with h | h
          · exact absurd h.1 hane
          · exact h.2
        have HG0 := Lib.hid (And.intro hg0 hs0)
        clear hg0 hs0
        by_cases c3 : n < code
        · have HST : Hid (strM clear T a code = none) := Lib.hid (by
            have := HN.out
            unfold strM; rw [if_neg (by omega), if_neg hane, if_neg (by omega), if_neg (by omega)])
          clear hane c1 c2
          have HXe : Hid (X = .error 32) := Lib.hid (by
            rw [← HXm.out]; unfold writeM; rw [HST.out])
          clear HXm HST
          go_wp2_with fail
          go_ret2
          rw [HXe.out]
          exact ⟨rfl, HM4.out.below⟩

        by_cases c4 : code = n
        · as_aux_lemma =>
          have d5 : ((code : Int) == (n : Int)) = true := by simp; omega
          by_cases c5 : 4096 ≤ n
          · have HST : Hid (strM clear T a code = none) := Lib.hid (by
              have := HN.out
              unfold strM; rw [if_neg (by omega), if_neg hane, if_neg (by omega), if_neg (by omega)])
            have HC4 := Lib.hid c4
            clear hane c1 c2 c4
            have HXe : Hid (X = .error 32) := Lib.hid (by
              rw [← HXm.out]; unfold writeM; rw [HST.out])
            clear HXm HST
            go_wp2_with fail
            go_ret2
            rw [HXe.out]
            exact ⟨rfl, HM4.out.below⟩

          have HGf : Hid (GoodC clear T.length c0) := Lib.hid HG0.out.1
          have HAN := Lib.hid hane
          have HC4 := Lib.hid c4
          clear c1 c2 hane c4

          obtain ⟨s, hs⟩ : ∃ s, strC clear T c0 = s := ⟨_, rfl⟩
          have hsl : s.length ≤ 4097 ∧ 1 ≤ s.length := by
            have h1 := strC_pos HTb.out HGf.out
            rw [hs] at h1
            refine ⟨?_, h1⟩
            rcases HGf.out with h | h
            · rw [strC_lo h] at hs; rw [← hs]; simp
            · rw [strC_hi h.1 (by omega)] at hs
              rw [← hs]
              have := HLn.out.1 _ (List.getElem_mem (l := T) (n := c0 - clear - 2) (by omega))
              omega
          have HSA : Hid (s = a) := Lib.hid (hs.symm.trans HG0.out.2)
          have HSM : Hid (strM clear T a code = some (s ++ s.take 1)) := Lib.hid (by
            have := HN.out
            have := HC4.out
            rw [HSA.out]; unfold strM; rw [if_neg (by omega), if_neg HAN.out, if_neg (by omega), if_pos ⟨by omega, by omega⟩])
          have HSZ := Lib.hid (size_any w4 clear c0 Aa ah.length ca Al la.length cl As sz.length cs HTb.out rfl (Vs.of_own HM4.out.rs) HGf.out h2 (by omega))
          have HTX := Lib.hid (fun (w' : World) (hb' : Below w4.heap.size w4 w') => text_any w' clear c0 Aa ah.length ca Al la.length cl As sz.length cs HTb.out rfl (Vs.of_own (HM4.out.fresh hb').rs) rfl (Vs.of_own (HM4.out.fresh hb').ra) rfl (Bs.of_own (HM4.out.fresh hb').rl) HGf.out h2 (by omega) (by rw [hs]; omega))
          rw [hs] at HSZ HTX
          have HSs := Lib.hid hs
          clear hs

          have t0 : w4.cell? ⟨gT, 0, none⟩ = some (.int .i64 (clear : Int)) := by rw [HM4.out.tb.cell]; rfl
          have t1 : w4.cell? ⟨gT, 1, none⟩ = some (.slice Aa ah.length ca) := by rw [HM4.out.tb.cell]; rfl
          have t2 : w4.cell? ⟨gT, 2, none⟩ = some (.slice Al la.length cl) := by rw [HM4.out.tb.cell]; rfl
          have t3 : w4.cell? ⟨gT, 3, none⟩ = some (.slice As sz.length cs) := by rw [HM4.out.tb.cell]; rfl

          go_wp2_with fail
          refine HSZ.out.mono ?_
          rintro e w5 ⟨rfl, hb5⟩
          have HM5 := Lib.hid (HM4.out.fresh hb5)
          have HT5 := Lib.hid (HTX.out w5 hb5)
          clear hb5 HSZ HTX HM4 t0 t1 t2 t3
          obtain ⟨L, hLd⟩ : ∃ L, out.length = L := ⟨_, rfl⟩
          rw [hLd] at hL hout
          have hL' := hL
          by_cases hlong : M < L + s.length + 1
          · have HXe : Hid (X = .error 3) := Lib.hid (by
              rw [← HXm.out]; unfold writeM; rw [HSM.out]
              show (match (if M < out.length + (s ++ s.take 1).length then .error 3 else .ok (growM clear T a (s ++ s.take 1), s ++ s.take 1, out ++ (s ++ s.take 1)) : Except Nat (List (List UInt8) × List UInt8 × List UInt8)) with | .error e => .error e | .ok (T', a', out') => runM b high clear early M (8 * b.length - p) q T' a' out' : Except Nat (List UInt8)) = .error 3
              rw [if_pos (by rw [hLd]; (simp only [List.length_append, List.length_take]; omega))])
            have hlong1 : (M : Int) - (L : Int) < (s.length : Int) + 1 := by omega
            rw [hLd]
            clear HXm hLd hlong
            go_wp2_with fail
            go_ret2
            rw [HXe.out]
            exact ⟨rfl, HM5.out.below⟩
          have hlong1 : ¬ (M : Int) - (L : Int) < (s.length : Int) + 1 := by omega
          have HXo : Hid (runM b high clear early M (8 * b.length + 1 - q) q (growM clear T a (s ++ s.take 1)) (s ++ s.take 1) (out ++ (s ++ s.take 1)) = X) := Lib.hid (by
            have e : writeM clear M T a out code = .ok (growM clear T a (s ++ s.take 1), s ++ s.take 1, out ++ (s ++ s.take 1)) := by
              unfold writeM; rw [HSM.out]
              show (if M < out.length + (s ++ s.take 1).length then .error 3 else .ok (growM clear T a (s ++ s.take 1), s ++ s.take 1, out ++ (s ++ s.take 1)) : Except Nat (List (List UInt8) × List UInt8 × List UInt8)) = _
              rw [if_neg (by rw [hLd]; (simp only [List.length_append, List.length_take]; omega))]
            rw [← HXm.out, e]; exact runM_fuel _ _ _ _ _ _ _ _ _ _ _ (by omega) (by omega))
          have HWL : Hid (Len (growM clear T a (s ++ s.take 1)) (s ++ s.take 1) ∧ (out ++ (s ++ s.take 1)).length ≤ out.length + 4096) := Lib.hid (write_len (clear := clear) (most := M) (T := T) (a := a) (out := out) (code := code) (by
              unfold writeM; rw [HSM.out]
              show (if M < out.length + (s ++ s.take 1).length then .error 3 else .ok (growM clear T a (s ++ s.take 1), s ++ s.take 1, out ++ (s ++ s.take 1)) : Except Nat (List (List UInt8) × List UInt8 × List UInt8)) = _
              rw [if_neg (by rw [hLd]; (simp only [List.length_append, List.length_take]; omega))]) HLn.out hroom)
          have HLD := Lib.hid hLd
          rw [hLd]
          clear HXm hLd hlong HSM

          have t0 : w5.cell? ⟨gT, 0, none⟩ = some (.int .i64 (clear : Int)) := by rw [HM5.out.tb.cell]; rfl
          have t1 : w5.cell? ⟨gT, 1, none⟩ = some (.slice Aa ah.length ca) := by rw [HM5.out.tb.cell]; rfl
          have t2 : w5.cell? ⟨gT, 2, none⟩ = some (.slice Al la.length cl) := by rw [HM5.out.tb.cell]; rfl
          have t3 : w5.cell? ⟨gT, 3, none⟩ = some (.slice As sz.length cs) := by rw [HM5.out.tb.cell]; rfl

          obtain ⟨i0, hi, hz0, hz1, hz2⟩ := info_parts info_u8
          go_upto_region 28 with fail
          refine HT5.out.mono ?_
          rintro e w6 ⟨A3, c3, rfl, o3, hb6⟩
          have HM6 := Lib.hid (HM5.out.news hb6 rfl o3)
          clear o3 hb6 HT5 HM5 t0 t1 t2 t3
          go_upto_region 28 with fail
          have HB6 := Lib.hid (Bs.of_own HM6.out.r3)
          have hO6 := HM6.out.ro
          have hsz6 := HM6.out.below.size
          rw [HLD.out] at hO6

          go_upto_if 128 with (at_builtin; refine wpList_append_bs _ rfl (.tmp 119) (.tmp 120) _ rfl w.heap.size 5 i0 Try.underlying22 hi hz0 hz1 hz2 (.slice Ao L co) L (bytesV out) rfl hO6 w6.heap.size A3 c3 s rfl HB6.out (by omega) hsz6 ?_; intro A7 c7 w7 o7 hg7 hat7)
          have HM7 := Lib.hid (HM6.out.growO (A2 := A7) (c2 := c7) (n := L + s.length) (out2 := out ++ s) (by rw [List.length_append, HLD.out]) (by rw [bytesV_append]; exact o7) (by rw [HLD.out]; exact hg7) (by rw [HLD.out]; exact hat7))
          clear o7 hg7 hat7 HM6 HB6 hO6 hsz6

          obtain ⟨j0, hj, hy0, hy1, hy2⟩ := info_parts info_intD
          obtain ⟨gs, rfl, _, _, _, _⟩ := row_form HM7.out.r3 (by omega)
          have hs0 : (bytesV s)[0]? = some (.int .u8 (s[0].toNat : Int)) := bytesV_get s 0 (by omega)
          have HT1 : Hid (s.take 1 = [s[0]]) := Lib.hid (take_one (by omega))
          obtain ⟨x0, hx0⟩ : ∃ x0, s[0] = x0 := ⟨_, rfl⟩
          rw [hx0] at hs0 HT1
          have HS0 := Lib.hid hs0
          clear hs0 hx0
          have hs00 : 0 < s.length := by omega
          have hxb := byte_lt x0

          have u0 : w7.cell? ⟨gs, 0, none⟩ = some (.int .u8 (x0.toNat : Int)) := (HM7.out.r3.cellAt 0 (by omega)).trans HS0.out
          have hgs7 := (row_lt HM7.out.r3 gs rfl).2
          have HD7 := Lib.hid (HM7.out.fresh ((Below.refl _ _).alloc (Nat.le_refl _) (.cells #[.int .u8 (x0.toNat : Int)] 5)))
          have hO7 := HD7.out.ro
          have hlo : (out ++ s).length = L + s.length := by rw [List.length_append, HLD.out]
          rw [hlo] at hO7
          have HLO := Lib.hid hlo
          clear hlo
          have hsz7 := HD7.out.below.size
          go_upto_if 140 with (at_builtin; refine wpList_append_vs (w7.alloc (.cells #[.int .u8 (x0.toNat : Int)] 5)) rfl (.tmp 129) (.tmp 133) _ rfl w.heap.size 5 i0 (.int .u8 0) 1 Try.underlying22 hi hz0 hz1 hz2 rfl (.slice A7 (L + s.length) c7) (L + s.length) (bytesV (out ++ s)) rfl hO7 (w7.heap.size + 1) (some ⟨w7.heap.size, 0, none⟩) 1 1 [.int .u8 (x0.toNat : Int)] rfl rfl (vs_lit w7 5 [.int .u8 (x0.toNat : Int)] (w7.heap.size + 1) (by simp)) (by simp [Value.oneCell']) (by unfold maxLen; omega) (by omega) hsz7 ?_; intro A7b c7b w7b o7b hg7b hat7b)
          have HM7b := Lib.hid (HD7.out.growO (A2 := A7b) (c2 := c7b) (n := L + s.length + 1) (out2 := out ++ s ++ [x0]) (by rw [List.length_append, HLO.out]; rfl) (by rw [bytesV_append]; exact o7b) (by rw [HLO.out]; exact hg7b) (by rw [HLO.out]; exact hat7b))
          clear u0 hgs7 HD7 hO7 hsz7 o7b hg7b hat7b HM7
          have c5 : n < 4096 := by omega
          have t1 : w7b.cell? ⟨gT, 1, none⟩ = some (.slice Aa ah.length ca) := by rw [HM7b.out.tb.cell]; rfl
          have k1 := HM7b.out.tb.frozen 1
          have hlt7 := HM7b.out.tb.lt
          have HD := Lib.hid (HM7b.out.fresh ((Below.refl _ _).alloc (Nat.le_refl _) (.cells #[.int .i64 (c0 : Int)] 3)))
          have hOa := HD.out.ra
          have hsz7 := HD.out.below.size
          go_upto_region 33 with (at_builtin; refine wpList_append_vs (w7b.alloc (.cells #[.int .i64 (c0 : Int)] 3)) rfl (.tmp 142) (.tmp 144) _ rfl w.heap.size 3 j0 (.int .i64 0) 8 Try.underlying72 hj hy0 hy1 hy2 rfl (.slice Aa ah.length ca) ah.length (ntV ah) rfl hOa (w7b.heap.size + 1) (some ⟨w7b.heap.size, 0, none⟩) 1 1 [.int .i64 (c0 : Int)] rfl rfl (vs_lit w7b 3 [.int .i64 (c0 : Int)] (w7b.heap.size + 1) (by simp)) (by simp [Value.oneCell']) (by unfold maxLen; omega) (by omega) hsz7 ?_; intro A8 c8 w8 o8 hg8 hat8; have tb8 := HD.out.tb.upd (Upd.of_grown hg8) (fun e => own_blk_ne HD.out.ra HD.out.tb (by decide) e.symm); have e8 : w8.cell? ⟨gT, 1, none⟩ = some (.slice Aa ah.length ca) := (tb8.cell 1).trans rfl; have f8 := tb8.frozen 1)
          have HM9 := Lib.hid (HD.out.growA (A2 := A8) (c2 := c8) (n := ah.length + 1) (ah2 := ah ++ [c0]) (by simp) (by rw [ntV_append]; exact o8) hg8 hat8)
          clear t1 k1 hlt7 HD hOa hsz7 o8 hg8 hat8 tb8 e8 f8 HM7b
          generalize w8.setCell ⟨gT, 1, none⟩ (.slice A8 (ah.length + 1) c8) = w9 at *
          have t2 : w9.cell? ⟨gT, 2, none⟩ = some (.slice Al la.length cl) := by rw [HM9.out.tb.cell]; rfl
          have k2 := HM9.out.tb.frozen 2
          have u0 : w9.cell? ⟨gs, 0, none⟩ = some (.int .u8 (x0.toNat : Int)) := (HM9.out.r3.cellAt 0 (by omega)).trans HS0.out
          have HD9 := Lib.hid (HM9.out.drew.fresh ((Below.refl _ _).alloc (Nat.le_refl _) (.cells #[.int .u8 (x0.toNat : Int)] 5)))
          have hOl := HD9.out.rl
          have hsz9 := HD9.out.below.size
          have hlal : la.length ≤ 4096 := by rw [HTb.out.la_]; omega
          have hcA : (w9.alloc (.cells #[.int .u8 (x0.toNat : Int)] 5)).cell? ⟨gT, 2, none⟩ = some (.slice Al la.length cl) := by rw [(HM9.out.fresh ((Below.refl _ _).alloc (Nat.le_refl _) (.cells #[.int .u8 (x0.toNat : Int)] 5))).tb.cell]; rfl
          go_cut [] (fun wx => ∃ A10 c10, Hid (DMem w wx gR gT clear A c b high q A8 c8 (ah ++ [c0]) A10 c10 (la ++ [x0]) As cs sz A7b c7b (out ++ s ++ [x0]) (some ⟨gs, 0, none⟩) c3 s))
          case first => as_aux_lemma =>
            go_region_law (refine step_append_vs (w9.drew.alloc (.cells #[.int .u8 (x0.toNat : Int)] 5)) rfl (.tmp 148) (.tmp 152) _ rfl w.heap.size 5 i0 (.int .u8 0) 1 Try.underlying22 hi hz0 hz1 hz2 rfl (.slice Al la.length cl) la.length (bytesV la) (by simp [Act.eval]) hOl (w9.heap.size + 1) (some ⟨w9.heap.size, 0, none⟩) 1 1 [.int .u8 (x0.toNat : Int)] rfl (by simp [Act.eval]) (vs_lit w9.drew 5 [.int .u8 (x0.toNat : Int)] (w9.heap.size + 1) (by simp)) (by simp [Value.oneCell']) (by unfold maxLen; omega) (by omega) hsz9 ?_; intro A10 c10 w10 o10 hg10 hat10; have tb10 := HD9.out.tb.upd (Upd.of_grown hg10) (fun e => own_blk_ne HD9.out.rl HD9.out.tb (by decide) e.symm); have e10 : w10.cell? ⟨gT, 2, none⟩ = some (.slice Al la.length cl) := (tb10.cell 2).trans rfl; have f10 := tb10.frozen 2)
            all_goals
              have HM11 := Lib.hid (HD9.out.growL (A2 := A10) (c2 := c10) (n := la.length + 1) (la2 := la ++ [x0]) (by simp) (by rw [bytesV_append]; exact o10) hg10 hat10)
              clear t2 k2 u0 hcA o10 hg10 hat10 tb10 e10 f10
              go_wp2_with fail
              go_meet
              exact ⟨A10, c10, HM11⟩
          case rest => as_aux_lemma =>
            obtain ⟨A10, c10, HM11⟩ := hcut
            clear t2 k2 u0 HD9 hOl hsz9 hcA HM9
            have HSZ := Lib.hid (fun (w' : World) (hb' : Below wc.heap.size wc w') => size_any w' clear c0 A8 (ah.length + 1) c8 A10 (la.length + 1) c10 As sz.length cs HTb.out rfl (Vs.of_own (HM11.out.fresh hb').rs) HG0.out.1 h2 (by omega))
            rw [HG0.out.2] at HSZ
            have hala : a.length ≤ 4096 := by have := HLn.out.2; omega
            have t0 : wc.cell? ⟨gT, 0, none⟩ = some (.int .i64 (clear : Int)) := by rw [HM11.out.tb.cell]; rfl
            have t1 : wc.cell? ⟨gT, 1, none⟩ = some (.slice A8 (ah.length + 1) c8) := by rw [HM11.out.tb.cell]; simp
            have t2 : wc.cell? ⟨gT, 2, none⟩ = some (.slice A10 (la.length + 1) c10) := by rw [HM11.out.tb.cell]; simp
            have t3 : wc.cell? ⟨gT, 3, none⟩ = some (.slice As sz.length cs) := by rw [HM11.out.tb.cell]; rfl
            have s1 : IntKind.i64.wrap ((a.length : Int) + 1) = (a.length : Int) + 1 := IntWalk.i64_in _ (by omega)
            have hszl : sz.length ≤ 4096 := by rw [HTb.out.sz_]; omega
            go_upto_region 34 with fail
            go_cut [] (fun wx => ∃ A12 c12, Hid (DMem w wx gR gT clear A c b high q A8 c8 (ah ++ [c0]) A10 c10 (la ++ [x0]) A12 c12 (sz ++ [a.length + 1]) A7b c7b (out ++ s ++ [x0]) (some ⟨gs, 0, none⟩) c3 s))
            case first => as_aux_lemma =>
              go_region_law ((first
                | (go_simp; go_at_call 43; refine (HSZ.out _ (by first | exact Below.refl _ _ | exact (Below.refl _ _).drew)).mono ?_; rintro e w12 ⟨rfl, hb12⟩; have hbw12 : Below wc.heap.size wc w12 := belowStep (by first | exact Below.refl _ _ | exact (Below.refl _ _).drew) hb12; have HM12 := Lib.hid (HM11.out.fresh hbw12); have t3' : w12.cell? ⟨gT, 3, none⟩ = some (.slice As sz.length cs) := (by rw [HM12.out.tb.cell]; rfl); have hlt12 := HM12.out.tb.lt; have HD12 := Lib.hid (HM12.out.fresh ((Below.refl _ _).alloc (Nat.le_refl _) (.cells #[.int .i64 ((a.length : Int) + 1)] 3))); have hOs := HD12.out.rs; have hsz12 := HD12.out.below.size)
                | (refine step_append_vs (w12.alloc (.cells #[.int .i64 ((a.length : Int) + 1)] 3)) rfl (.tmp 156) (.tmp 161) _ rfl w.heap.size 3 j0 (.int .i64 0) 8 Try.underlying72 hj hy0 hy1 hy2 rfl (.slice As sz.length cs) sz.length (ntV sz) (by simp [Act.eval]) hOs (w12.heap.size + 1) (some ⟨w12.heap.size, 0, none⟩) 1 1 [.int .i64 ((a.length : Int) + 1)] rfl (by simp [Act.eval]) (vs_lit w12 3 [.int .i64 ((a.length : Int) + 1)] (w12.heap.size + 1) (by simp)) (by simp [Value.oneCell']) (by unfold maxLen; omega) (by omega) hsz12 ?_; intro A13 c13 w13 o13 hg13 hat13; have tb13 := HD12.out.tb.upd (Upd.of_grown hg13) (fun e => own_blk_ne HD12.out.rs HD12.out.tb (by decide) e.symm); have e13 : w13.cell? ⟨gT, 3, none⟩ = some (.slice As sz.length cs) := (tb13.cell 3).trans rfl; have f13 := tb13.frozen 3)))
              all_goals
                have HM14 := Lib.hid (HD12.out.growS (A2 := A13) (c2 := c13) (n := sz.length + 1) (sz2 := sz ++ [a.length + 1]) (by simp) (by rw [ntV_append]; simpa [ntV] using o13) hg13 hat13)
                clear t0 t1 t2 t3 t3' hlt12 o13 hg13 hat13 tb13 e13 f13
                go_wp2_with fail
                go_meet
                exact ⟨A13, c13, HM14⟩
            case rest => as_aux_lemma =>
              obtain ⟨A12, c12, HM13⟩ := hcut
              clear t0 t1 t2 t3 s1 HSZ HM11
              have eg : growM clear T a (s ++ s.take 1) = T ++ [a ++ [x0]] := by
                unfold growM; rw [if_neg HAN.out, if_pos (by have := HN.out; omega), List.take_append_of_le_length (by omega), HT1.out]
              have hX := HXo.out
              have hW := HWL.out
              rw [eg] at hX hW
              have htd := HTb.out.grow (x := x0) HG0.out.1
              rw [HG0.out.2] at htd
              have hTl : (T ++ [a ++ [x0]]).length = T.length + 1 := by simp
              have hws := wM_step early n he (by omega) (by omega)
              have hWn : W = wM early n := by rw [HWw.out, HN.out]
              rw [← hWn] at hws
              have hNN := HN.out
              have hnn : clear + 2 + (T ++ [a ++ [x0]]).length = n + 1 := by omega
              have HFIN : ∀ W' : Nat, W' = wM early (n + 1) → ∃ (p : Nat) (T' : List (List UInt8)) (a' out' : List UInt8) (W2 : Nat), 8 * b.length - q = 8 * b.length - p ∧ p ≤ 8 * b.length ∧ Value.int .i64 (W' : Int) = .int .i64 (W2 : Int) ∧ Hid (W2 = wM early (clear + 2 + T'.length)) ∧ Hid (DAt w wc gR gT clear A c b high p T' a' out' (.slice A7b (L + s.length + 1) c7b) (.int .i64 (code : Int))) ∧ Hid (runM b high clear early M (8 * b.length + 1 - p) p T' a' out' = X) := fun W' hW' => by
                refine ⟨q, T ++ [a ++ [x0]], (s ++ s.take 1), out ++ (s ++ s.take 1), W', rfl, by omega, rfl, Lib.hid (by rw [hW', hnn]), Lib.hid ?_, Lib.hid hX⟩
                rw [show out ++ (s ++ s.take 1) = out ++ s ++ [x0] from by rw [HT1.out, List.append_assoc]]
                refine ⟨A8, c8, ah ++ [c0], A10, c10, la ++ [x0], A12, c12, sz ++ [a.length + 1], A7b, c7b, (code : Int), by rw [List.length_append, HLO.out]; rfl, rfl, HM13.out.noS, htd, .inr ⟨fun e => by have := congrArg List.length e; simp only [List.length_append, List.length_nil] at this; omega, code, rfl, by rw [HC4.out]; exact (strC_last HN.out).1, by rw [HC4.out, (strC_last HN.out).2, HT1.out, HSA.out]⟩, by omega, hW.1, ?_⟩
                have h2' := hW.2
                have h3' := HLD.out
                rw [show out ++ (s ++ s.take 1) = out ++ s ++ [x0] from by rw [HT1.out, List.append_assoc]] at h2'
                rw [h3'] at h2'
                omega
              have HF := Lib.hid HFIN
              clear HFIN hX hW htd hTl hNN hnn eg
              by_cases hs6 : n + 1 + early = 2 ^ W
              · have d6 : ((n : Int) + 1 == wrap64 (wrap64 ((2 : Int) ^ W) - (early : Int))) = true := by rw [beq_w hw.2 he]; simpa using hs6
                by_cases hW12 : W < 12
                · have HWS : Hid (W + 1 = wM early (n + 1)) := Lib.hid (by rw [hws, if_pos ⟨hs6, hW12⟩])
                  clear hs6 hws hWn
                  go_wp2_with fail
                  go_roundg (8 * b.length - q)
                  case measure => omega
                  case rel => exact HF.out (W + 1) HWS.out
                · have HWS : Hid (W = wM early (n + 1)) := Lib.hid (by rw [hws, if_neg (fun h => hW12 h.2)])
                  clear hs6 hws hWn
                  go_wp2_with fail
                  go_roundg (8 * b.length - q)
                  case measure => omega
                  case rel => exact HF.out W HWS.out
              · have d6 : ((n : Int) + 1 == wrap64 (wrap64 ((2 : Int) ^ W) - (early : Int))) = false := by rw [beq_w hw.2 he]; simpa using hs6
                have HWS : Hid (W = wM early (n + 1)) := Lib.hid (by rw [hws, if_neg (fun h => hs6 h.1)])
                clear hs6 hws hWn
                go_wp2_with fail
                go_roundg (8 * b.length - q)
                case measure => omega
                case rel => exact HF.out W HWS.out
        have d5 : ((code : Int) == (n : Int)) = false := by simp; omega
        have HGf : Hid (GoodC clear T.length code) := Lib.hid (by have := HN.out; by_cases h : code < clear; exact .inl h; exact .inr (by omega))
        have HSM : Hid (strM clear T a code = some (strC clear T code)) := Lib.hid (by
          have := HN.out
          unfold strM
          by_cases h : code < clear
          · rw [if_pos h, strC_lo h]
          · rw [if_neg h, if_neg hane, if_pos (by omega), strC_hi (by omega) (by omega), List.getElem?_eq_getElem (by omega)])
        have HAN := Lib.hid hane
        clear c1 c2 hane

        obtain ⟨s, hs⟩ : ∃ s, strC clear T code = s := ⟨_, rfl⟩
        have hsl : s.length ≤ 4097 ∧ 1 ≤ s.length := by
          have h1 := strC_pos HTb.out HGf.out
          rw [hs] at h1
          refine ⟨?_, h1⟩
          rcases HGf.out with h | h
          · rw [strC_lo h] at hs; rw [← hs]; simp
          · rw [strC_hi h.1 (by omega)] at hs
            rw [← hs]
            have := HLn.out.1 _ (List.getElem_mem (l := T) (n := code - clear - 2) (by omega))
            omega
        rw [hs] at HSM
        have HSZ := Lib.hid (size_any w4 clear code Aa ah.length ca Al la.length cl As sz.length cs HTb.out rfl (Vs.of_own HM4.out.rs) HGf.out h2 (by omega))
        have HTX := Lib.hid (fun (w' : World) (hb' : Below w4.heap.size w4 w') => text_any w' clear code Aa ah.length ca Al la.length cl As sz.length cs HTb.out rfl (Vs.of_own (HM4.out.fresh hb').rs) rfl (Vs.of_own (HM4.out.fresh hb').ra) rfl (Bs.of_own (HM4.out.fresh hb').rl) HGf.out h2 (by omega) (by rw [hs]; omega))
        rw [hs] at HSZ HTX
        have HSs := Lib.hid hs
        clear hs

        have t0 : w4.cell? ⟨gT, 0, none⟩ = some (.int .i64 (clear : Int)) := by rw [HM4.out.tb.cell]; rfl
        have t1 : w4.cell? ⟨gT, 1, none⟩ = some (.slice Aa ah.length ca) := by rw [HM4.out.tb.cell]; rfl
        have t2 : w4.cell? ⟨gT, 2, none⟩ = some (.slice Al la.length cl) := by rw [HM4.out.tb.cell]; rfl
        have t3 : w4.cell? ⟨gT, 3, none⟩ = some (.slice As sz.length cs) := by rw [HM4.out.tb.cell]; rfl

        go_wp2_with fail
        refine HSZ.out.mono ?_
        rintro e w5 ⟨rfl, hb5⟩
        have HM5 := Lib.hid (HM4.out.fresh hb5)
        have HT5 := Lib.hid (HTX.out w5 hb5)
        clear hb5 HSZ HTX HM4 t0 t1 t2 t3
        obtain ⟨L, hLd⟩ : ∃ L, out.length = L := ⟨_, rfl⟩
        rw [hLd] at hL hout
        have hL' := hL
        by_cases hlong : M < L + s.length
        · have HXe : Hid (X = .error 3) := Lib.hid (by
            rw [← HXm.out]; unfold writeM; rw [HSM.out]
            show (match (if M < out.length + (s).length then .error 3 else .ok (growM clear T a (s), s, out ++ (s)) : Except Nat (List (List UInt8) × List UInt8 × List UInt8)) with | .error e => .error e | .ok (T', a', out') => runM b high clear early M (8 * b.length - p) q T' a' out' : Except Nat (List UInt8)) = .error 3
            rw [if_pos (by rw [hLd]; omega)])
          have hlong1 : (M : Int) - (L : Int) < (s.length : Int) := by omega
          rw [hLd]
          clear HXm hLd hlong
          go_wp2_with fail
          go_ret2
          rw [HXe.out]
          exact ⟨rfl, HM5.out.below⟩
        have hlong1 : ¬ (M : Int) - (L : Int) < (s.length : Int) := by omega
        have HXo : Hid (runM b high clear early M (8 * b.length + 1 - q) q (growM clear T a (s)) (s) (out ++ (s)) = X) := Lib.hid (by
          have e : writeM clear M T a out code = .ok (growM clear T a (s), s, out ++ (s)) := by
            unfold writeM; rw [HSM.out]
            show (if M < out.length + (s).length then .error 3 else .ok (growM clear T a (s), s, out ++ (s)) : Except Nat (List (List UInt8) × List UInt8 × List UInt8)) = _
            rw [if_neg (by rw [hLd]; omega)]
          rw [← HXm.out, e]; exact runM_fuel _ _ _ _ _ _ _ _ _ _ _ (by omega) (by omega))
        have HWL : Hid (Len (growM clear T a (s)) (s) ∧ (out ++ (s)).length ≤ out.length + 4096) := Lib.hid (write_len (clear := clear) (most := M) (T := T) (a := a) (out := out) (code := code) (by
            unfold writeM; rw [HSM.out]
            show (if M < out.length + (s).length then .error 3 else .ok (growM clear T a (s), s, out ++ (s)) : Except Nat (List (List UInt8) × List UInt8 × List UInt8)) = _
            rw [if_neg (by rw [hLd]; omega)]) HLn.out hroom)
        have HLD := Lib.hid hLd
        rw [hLd]
        clear HXm hLd hlong HSM

        have t0 : w5.cell? ⟨gT, 0, none⟩ = some (.int .i64 (clear : Int)) := by rw [HM5.out.tb.cell]; rfl
        have t1 : w5.cell? ⟨gT, 1, none⟩ = some (.slice Aa ah.length ca) := by rw [HM5.out.tb.cell]; rfl
        have t2 : w5.cell? ⟨gT, 2, none⟩ = some (.slice Al la.length cl) := by rw [HM5.out.tb.cell]; rfl
        have t3 : w5.cell? ⟨gT, 3, none⟩ = some (.slice As sz.length cs) := by rw [HM5.out.tb.cell]; rfl

        obtain ⟨i0, hi, hz0, hz1, hz2⟩ := info_parts info_u8
        go_upto_region 28 with fail
        refine HT5.out.mono ?_
        rintro e w6 ⟨A3, c3, rfl, o3, hb6⟩
        have HM6 := Lib.hid (HM5.out.news hb6 rfl o3)
        clear o3 hb6 HT5 HM5 t0 t1 t2 t3
        go_upto_region 28 with fail
        have HB6 := Lib.hid (Bs.of_own HM6.out.r3)
        have hO6 := HM6.out.ro
        have hsz6 := HM6.out.below.size
        rw [HLD.out] at hO6

        go_upto_if 128 with (at_builtin; refine wpList_append_bs _ rfl (.tmp 119) (.tmp 120) _ rfl w.heap.size 5 i0 Try.underlying22 hi hz0 hz1 hz2 (.slice Ao L co) L (bytesV out) rfl hO6 w6.heap.size A3 c3 s rfl HB6.out (by omega) hsz6 ?_; intro A7 c7 w7 o7 hg7 hat7)
        have HM7 := Lib.hid (HM6.out.growO (A2 := A7) (c2 := c7) (n := L + s.length) (out2 := out ++ s) (by rw [List.length_append, HLD.out]) (by rw [bytesV_append]; exact o7) (by rw [HLD.out]; exact hg7) (by rw [HLD.out]; exact hat7))
        clear o7 hg7 hat7 HM6 HB6 hO6 hsz6

        go_upto_if 140 with fail
        by_cases c5 : n < 4096
        · obtain ⟨j0, hj, hy0, hy1, hy2⟩ := info_parts info_intD
          obtain ⟨gs, rfl, _, _, _, _⟩ := row_form HM7.out.r3 (by omega)
          have hs0 : (bytesV s)[0]? = some (.int .u8 (s[0].toNat : Int)) := bytesV_get s 0 (by omega)
          have HT1 : Hid (s.take 1 = [s[0]]) := Lib.hid (take_one (by omega))
          obtain ⟨x0, hx0⟩ : ∃ x0, s[0] = x0 := ⟨_, rfl⟩
          rw [hx0] at hs0 HT1
          have HS0 := Lib.hid hs0
          clear hs0 hx0
          have hs00 : 0 < s.length := by omega
          have hxb := byte_lt x0
          have t1 : w7.cell? ⟨gT, 1, none⟩ = some (.slice Aa ah.length ca) := by rw [HM7.out.tb.cell]; rfl
          have k1 := HM7.out.tb.frozen 1
          have hlt7 := HM7.out.tb.lt
          have HD := Lib.hid (HM7.out.fresh ((Below.refl _ _).alloc (Nat.le_refl _) (.cells #[.int .i64 (c0 : Int)] 3)))
          have hOa := HD.out.ra
          have hsz7 := HD.out.below.size
          go_upto_region 33 with (at_builtin; refine wpList_append_vs (w7.alloc (.cells #[.int .i64 (c0 : Int)] 3)) rfl (.tmp 142) (.tmp 144) _ rfl w.heap.size 3 j0 (.int .i64 0) 8 Try.underlying72 hj hy0 hy1 hy2 rfl (.slice Aa ah.length ca) ah.length (ntV ah) rfl hOa (w7.heap.size + 1) (some ⟨w7.heap.size, 0, none⟩) 1 1 [.int .i64 (c0 : Int)] rfl rfl (vs_lit w7 3 [.int .i64 (c0 : Int)] (w7.heap.size + 1) (by simp)) (by simp [Value.oneCell']) (by unfold maxLen; omega) (by omega) hsz7 ?_; intro A8 c8 w8 o8 hg8 hat8; have tb8 := HD.out.tb.upd (Upd.of_grown hg8) (fun e => own_blk_ne HD.out.ra HD.out.tb (by decide) e.symm); have e8 : w8.cell? ⟨gT, 1, none⟩ = some (.slice Aa ah.length ca) := (tb8.cell 1).trans rfl; have f8 := tb8.frozen 1)
          have HM9 := Lib.hid (HD.out.growA (A2 := A8) (c2 := c8) (n := ah.length + 1) (ah2 := ah ++ [c0]) (by simp) (by rw [ntV_append]; exact o8) hg8 hat8)
          clear t1 k1 hlt7 HD hOa hsz7 o8 hg8 hat8 tb8 e8 f8 HM7
          generalize w8.setCell ⟨gT, 1, none⟩ (.slice A8 (ah.length + 1) c8) = w9 at *
          have t2 : w9.cell? ⟨gT, 2, none⟩ = some (.slice Al la.length cl) := by rw [HM9.out.tb.cell]; rfl
          have k2 := HM9.out.tb.frozen 2
          have u0 : w9.cell? ⟨gs, 0, none⟩ = some (.int .u8 (x0.toNat : Int)) := (HM9.out.r3.cellAt 0 (by omega)).trans HS0.out
          have HD9 := Lib.hid (HM9.out.drew.fresh ((Below.refl _ _).alloc (Nat.le_refl _) (.cells #[.int .u8 (x0.toNat : Int)] 5)))
          have hOl := HD9.out.rl
          have hsz9 := HD9.out.below.size
          have hlal : la.length ≤ 4096 := by rw [HTb.out.la_]; omega
          have hcA : (w9.alloc (.cells #[.int .u8 (x0.toNat : Int)] 5)).cell? ⟨gT, 2, none⟩ = some (.slice Al la.length cl) := by rw [(HM9.out.fresh ((Below.refl _ _).alloc (Nat.le_refl _) (.cells #[.int .u8 (x0.toNat : Int)] 5))).tb.cell]; rfl
          go_cut [] (fun wx => ∃ A10 c10, Hid (DMem w wx gR gT clear A c b high q A8 c8 (ah ++ [c0]) A10 c10 (la ++ [x0]) As cs sz A7 c7 (out ++ s) (some ⟨gs, 0, none⟩) c3 s))
          case first => as_aux_lemma =>
            go_region_law (refine step_append_vs (w9.drew.alloc (.cells #[.int .u8 (x0.toNat : Int)] 5)) rfl (.tmp 148) (.tmp 152) _ rfl w.heap.size 5 i0 (.int .u8 0) 1 Try.underlying22 hi hz0 hz1 hz2 rfl (.slice Al la.length cl) la.length (bytesV la) (by simp [Act.eval]) hOl (w9.heap.size + 1) (some ⟨w9.heap.size, 0, none⟩) 1 1 [.int .u8 (x0.toNat : Int)] rfl (by simp [Act.eval]) (vs_lit w9.drew 5 [.int .u8 (x0.toNat : Int)] (w9.heap.size + 1) (by simp)) (by simp [Value.oneCell']) (by unfold maxLen; omega) (by omega) hsz9 ?_; intro A10 c10 w10 o10 hg10 hat10; have tb10 := HD9.out.tb.upd (Upd.of_grown hg10) (fun e => own_blk_ne HD9.out.rl HD9.out.tb (by decide) e.symm); have e10 : w10.cell? ⟨gT, 2, none⟩ = some (.slice Al la.length cl) := (tb10.cell 2).trans rfl; have f10 := tb10.frozen 2)
            all_goals
              have HM11 := Lib.hid (HD9.out.growL (A2 := A10) (c2 := c10) (n := la.length + 1) (la2 := la ++ [x0]) (by simp) (by rw [bytesV_append]; exact o10) hg10 hat10)
              clear t2 k2 u0 hcA o10 hg10 hat10 tb10 e10 f10
              go_wp2_with fail
              go_meet
              exact ⟨A10, c10, HM11⟩
          case rest => as_aux_lemma =>
            obtain ⟨A10, c10, HM11⟩ := hcut
            clear t2 k2 u0 HD9 hOl hsz9 hcA HM9
            have HSZ := Lib.hid (fun (w' : World) (hb' : Below wc.heap.size wc w') => size_any w' clear c0 A8 (ah.length + 1) c8 A10 (la.length + 1) c10 As sz.length cs HTb.out rfl (Vs.of_own (HM11.out.fresh hb').rs) HG0.out.1 h2 (by omega))
            rw [HG0.out.2] at HSZ
            have hala : a.length ≤ 4096 := by have := HLn.out.2; omega
            have t0 : wc.cell? ⟨gT, 0, none⟩ = some (.int .i64 (clear : Int)) := by rw [HM11.out.tb.cell]; rfl
            have t1 : wc.cell? ⟨gT, 1, none⟩ = some (.slice A8 (ah.length + 1) c8) := by rw [HM11.out.tb.cell]; simp
            have t2 : wc.cell? ⟨gT, 2, none⟩ = some (.slice A10 (la.length + 1) c10) := by rw [HM11.out.tb.cell]; simp
            have t3 : wc.cell? ⟨gT, 3, none⟩ = some (.slice As sz.length cs) := by rw [HM11.out.tb.cell]; rfl
            have s1 : IntKind.i64.wrap ((a.length : Int) + 1) = (a.length : Int) + 1 := IntWalk.i64_in _ (by omega)
            have hszl : sz.length ≤ 4096 := by rw [HTb.out.sz_]; omega
            go_upto_region 34 with fail
            go_cut [] (fun wx => ∃ A12 c12, Hid (DMem w wx gR gT clear A c b high q A8 c8 (ah ++ [c0]) A10 c10 (la ++ [x0]) A12 c12 (sz ++ [a.length + 1]) A7 c7 (out ++ s) (some ⟨gs, 0, none⟩) c3 s))
            case first => as_aux_lemma =>
              go_region_law ((first
                | (go_simp; go_at_call 43; refine (HSZ.out _ (by first | exact Below.refl _ _ | exact (Below.refl _ _).drew)).mono ?_; rintro e w12 ⟨rfl, hb12⟩; have hbw12 : Below wc.heap.size wc w12 := belowStep (by first | exact Below.refl _ _ | exact (Below.refl _ _).drew) hb12; have HM12 := Lib.hid (HM11.out.fresh hbw12); have t3' : w12.cell? ⟨gT, 3, none⟩ = some (.slice As sz.length cs) := (by rw [HM12.out.tb.cell]; rfl); have hlt12 := HM12.out.tb.lt; have HD12 := Lib.hid (HM12.out.fresh ((Below.refl _ _).alloc (Nat.le_refl _) (.cells #[.int .i64 ((a.length : Int) + 1)] 3))); have hOs := HD12.out.rs; have hsz12 := HD12.out.below.size)
                | (refine step_append_vs (w12.alloc (.cells #[.int .i64 ((a.length : Int) + 1)] 3)) rfl (.tmp 156) (.tmp 161) _ rfl w.heap.size 3 j0 (.int .i64 0) 8 Try.underlying72 hj hy0 hy1 hy2 rfl (.slice As sz.length cs) sz.length (ntV sz) (by simp [Act.eval]) hOs (w12.heap.size + 1) (some ⟨w12.heap.size, 0, none⟩) 1 1 [.int .i64 ((a.length : Int) + 1)] rfl (by simp [Act.eval]) (vs_lit w12 3 [.int .i64 ((a.length : Int) + 1)] (w12.heap.size + 1) (by simp)) (by simp [Value.oneCell']) (by unfold maxLen; omega) (by omega) hsz12 ?_; intro A13 c13 w13 o13 hg13 hat13; have tb13 := HD12.out.tb.upd (Upd.of_grown hg13) (fun e => own_blk_ne HD12.out.rs HD12.out.tb (by decide) e.symm); have e13 : w13.cell? ⟨gT, 3, none⟩ = some (.slice As sz.length cs) := (tb13.cell 3).trans rfl; have f13 := tb13.frozen 3)))
              all_goals
                have HM14 := Lib.hid (HD12.out.growS (A2 := A13) (c2 := c13) (n := sz.length + 1) (sz2 := sz ++ [a.length + 1]) (by simp) (by rw [ntV_append]; simpa [ntV] using o13) hg13 hat13)
                clear t0 t1 t2 t3 t3' hlt12 o13 hg13 hat13 tb13 e13 f13
                go_wp2_with fail
                go_meet
                exact ⟨A13, c13, HM14⟩
            case rest => as_aux_lemma =>
              obtain ⟨A12, c12, HM13⟩ := hcut
              clear t0 t1 t2 t3 s1 HSZ HM11
              have eg : growM clear T a s = T ++ [a ++ [x0]] := by
                unfold growM; rw [if_neg HAN.out, if_pos (by have := HN.out; omega), HT1.out]
              have hX := HXo.out
              have hW := HWL.out
              rw [eg] at hX hW
              have htd := HTb.out.grow (x := x0) HG0.out.1
              rw [HG0.out.2] at htd
              have hTl : (T ++ [a ++ [x0]]).length = T.length + 1 := by simp
              have hws := wM_step early n he (by omega) (by omega)
              have hWn : W = wM early n := by rw [HWw.out, HN.out]
              rw [← hWn] at hws
              have hNN := HN.out
              have hnn : clear + 2 + (T ++ [a ++ [x0]]).length = n + 1 := by omega
              have HFIN : ∀ W' : Nat, W' = wM early (n + 1) → ∃ (p : Nat) (T' : List (List UInt8)) (a' out' : List UInt8) (W2 : Nat), 8 * b.length - q = 8 * b.length - p ∧ p ≤ 8 * b.length ∧ Value.int .i64 (W' : Int) = .int .i64 (W2 : Int) ∧ Hid (W2 = wM early (clear + 2 + T'.length)) ∧ Hid (DAt w wc gR gT clear A c b high p T' a' out' (.slice A7 (L + s.length) c7) (.int .i64 (code : Int))) ∧ Hid (runM b high clear early M (8 * b.length + 1 - p) p T' a' out' = X) := fun W' hW' => by
                refine ⟨q, T ++ [a ++ [x0]], s, out ++ s, W', rfl, by omega, rfl, Lib.hid (by rw [hW', hnn]), Lib.hid ?_, Lib.hid hX⟩
                rw [show out ++ s = out ++ s from rfl]
                refine ⟨A8, c8, ah ++ [c0], A10, c10, la ++ [x0], A12, c12, sz ++ [a.length + 1], A7, c7, (code : Int), by rw [List.length_append, HLD.out], rfl, HM13.out.noS, htd, .inr ⟨fun e => by rw [e] at hsl; simp at hsl, code, rfl, HGf.out.mono (by simp), by rw [strC_more HGf.out]; exact HSs.out⟩, by omega, hW.1, ?_⟩
                have h2' := hW.2
                have h3' := HLD.out
                rw [show out ++ s = out ++ s from rfl] at h2'
                rw [h3'] at h2'
                omega
              have HF := Lib.hid HFIN
              clear HFIN hX hW htd hTl hNN hnn eg
              by_cases hs6 : n + 1 + early = 2 ^ W
              · have d6 : ((n : Int) + 1 == wrap64 (wrap64 ((2 : Int) ^ W) - (early : Int))) = true := by rw [beq_w hw.2 he]; simpa using hs6
                by_cases hW12 : W < 12
                · have HWS : Hid (W + 1 = wM early (n + 1)) := Lib.hid (by rw [hws, if_pos ⟨hs6, hW12⟩])
                  clear hs6 hws hWn
                  go_wp2_with fail
                  go_roundg (8 * b.length - q)
                  case measure => omega
                  case rel => exact HF.out (W + 1) HWS.out
                · have HWS : Hid (W = wM early (n + 1)) := Lib.hid (by rw [hws, if_neg (fun h => hW12 h.2)])
                  clear hs6 hws hWn
                  go_wp2_with fail
                  go_roundg (8 * b.length - q)
                  case measure => omega
                  case rel => exact HF.out W HWS.out
              · have d6 : ((n : Int) + 1 == wrap64 (wrap64 ((2 : Int) ^ W) - (early : Int))) = false := by rw [beq_w hw.2 he]; simpa using hs6
                have HWS : Hid (W = wM early (n + 1)) := Lib.hid (by rw [hws, if_neg (fun h => hs6 h.1)])
                clear hs6 hws hWn
                go_wp2_with fail
                go_roundg (8 * b.length - q)
                case measure => omega
                case rel => exact HF.out W HWS.out
        · have eg : growM clear T a s = T := by
            unfold growM; rw [if_neg HAN.out, if_neg (by have := HN.out; omega)]
          have hX := HXo.out
          have hW := HWL.out
          rw [eg] at hX hW
          have hsn : s ≠ [] := fun e => by rw [e] at hsl; simp at hsl
          have HR : Hid (DAt w w7 gR gT clear A c b high q T s (out ++ s) (.slice A7 (L + s.length) c7) (.int .i64 (code : Int))) := Lib.hid (by
            refine ⟨_, _, _, _, _, _, _, _, _, _, _, (code : Int), by rw [List.length_append, HLD.out], rfl, HM7.out.noS, HTb.out, .inr ⟨hsn, code, rfl, HGf.out, HSs.out⟩, by omega, hW.1, ?_⟩
            have h2' := hW.2
            rw [HLD.out] at h2'
            omega)
          have HX2 := Lib.hid hX
          clear eg hX hW hsn
          go_wp2_with fail
          go_roundg (8 * b.length - q)
          case measure => omega
          case rel => exact ⟨q, T, s, out ++ s, W, rfl, by omega, rfl, HWw, HR, HX2⟩
      · have htk : takeO b high p W = .error 5 := by unfold takeO; rw [if_neg hq]
        have hpb := HM.out
        have HTk := Lib.hid (refTake_end A b.length c high p (W : Int) wr (by omega) (by omega) (by omega) (by omega) (by omega))
        have HXs : Hid (X = .error 5) := Lib.hid (by
          have e := HXr.out
          rw [show 8 * b.length + 1 - p = 8 * b.length - p + 1 by omega, runM, ← HWw.out, htk] at e
          exact e.symm)
        clear HXr htk hpb
        go_wp2_with fail
        refine HTk.out.mono ?_
        rintro e w2 ⟨rfl, hb2⟩
        have HM2 := Lib.hid (HM.out.fresh (belowAlloc hb2 (.cells #[.slice A b.length c, .bool high, .int .i64 (p : Int)] 71)))
        clear hb2 HTk HM r0 r1 r2
        go_wp2_with fail
        go_ret2
        rw [HXs.out]
        exact ⟨rfl, HM2.out.below⟩
end Go.Proofs.Ythnfnfaiicfenaa
