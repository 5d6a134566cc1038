/- Rows come one by one, as they are when they come, and no more than are asked for: for every size, every list of cells and every number to stop at. -/
import Derived.Test.YtfjnlbjlapbilaaGl
import Derived.Test.YtfjnlbjlapbilaaGp
import Derived.Deep.CondSized
namespace Go.Proofs.Ytfjnlbjlapbilaa
open Go.ChangeShapes Go.WideShapes Go.ChangeAt Go.RowKit Go.Shelf
attribute [local go_sem] Oper.semAt_some
namespace GridRows

set_option maxHeartbeats 4000000 in
set_option maxRecDepth 100000 in
theorem walk (x y : Int) (A : Option Addr) (c : Nat) (l : List Int) (s : Int) (w : World) (hx : -9223372036854775808 ≤ x ∧ x ≤ 9223372036854775807) (hy : -9223372036854775808 ≤ y ∧ y ≤ 9223372036854775807) (hbs : Is w w.heap.size A l) (_ : ∀ x ∈ l, -9223372036854775808 ≤ x ∧ x ≤ 9223372036854775807) (hcp : l.length ≤ c ∧ c ≤ maxLen) (hl : l.length ≤ 17592186043904)
    (_ : -9223372036854775808 ≤ s ∧ s ≤ 9223372036854775807) :
    Calls Try.prog 5 #[.agg #[.int .i64 x, .int .i64 y, .slice A l.length c], .int .i64 s] w fun e w' => e = .returned (.bool true) ∧ Below w.heap.size w w' := by
  obtain ⟨n, hn⟩ : ∃ n, l.length = n := ⟨_, rfl⟩
  rw [hn] at hl hcp ⊢
  obtain ⟨hcp1, hcp2⟩ := hcp
  refine (callsIn_wide (n := 3)).1 ?_
  refine callsIn_of_wp_marks Try.func5 rfl trivial ?_ rfl
  simp only [Try.ntmps5, List.size_toArray, List.length_cons, List.length_nil, Nat.reduceAdd, Nat.reduceSub, Array.replicate_succ, Array.replicate_zero, List.push_toArray, List.append_toArray, List.nil_append, List.cons_append]
  refine wpIn_wide.2 ?_
  go_wp2_with fail
  have HC0 := Lib.hid (LSt.new (x := x) (y := y) (c := c) (n := n) (s := s) hbs)
  generalize ((w.alloc (.cells #[.int .i64 x, .int .i64 y, .slice A n c] 24)).alloc (.cells #[.int .i64 s] 3)).alloc (.cells #[.bool false] 4) = W0 at *
  refine (wakes_any W0).mono ?_
  rintro e w1 ⟨rfl, hb1⟩
  have hc1 := HC0.out.next hb1
  have k0 := hc1.cst.c0; have k1 := hc1.cst.c1; have k2 := hc1.cst.c2
  have HC1 := Lib.hid hc1
  clear hb1 HC0 hc1 hbs
  go_wp2_with fail
  refine (both_any x y A c n l hn (by omega) w.heap.size w1 HC1.out.cst.is_ (by have := HC1.out.lt; omega)).mono ?_
  intro e w2 hB
  unfold BothR at hB
  by_cases hg : Good x y n
  case neg =>
    rw [if_neg hg] at hB
    obtain ⟨rfl, hb2⟩ := hB
    have hc2 := HC1.out.next hb2
    have hc3 := hc2.next ((Below.refl _ w2).alloc (Nat.le_refl _) (.cells #[.int .i64 x, .int .i64 y, .slice A n c] 27))
    have fr := hc3.fr
    have cr := hc3.cr
    have hc4 := hc3.say true
    have kr := hc4.cr
    have HC4 := Lib.hid hc4
    clear hb2 k0 k1 k2 hg hc2 hc3 hc4
    go_wp2_with fail
    exact ⟨.bool true, by simp [results, Try.results5, go_sem, kr], rfl, HC4.out.cst.bel⟩
  rw [if_pos hg] at hB
  obtain ⟨g, r, c', rfl, hga, hrg, hb2⟩ := hB
  obtain ⟨hm, hnm⟩ := hg
  obtain ⟨b1, b2, b3, b4, b5⟩ := mayB_bd hm
  obtain ⟨X, rfl⟩ : ∃ X : Nat, x = (X : Int) := ⟨x.toNat, by omega⟩
  obtain ⟨Y, rfl⟩ : ∃ Y : Nat, y = (Y : Int) := ⟨y.toNat, by omega⟩
  simp only [Int.toNat_natCast] at hga
  have HNM : Hid (X * Y = n) := Lib.hid (by rw [← Int.natCast_mul] at hnm; omega)
  have HC2 := Lib.hid (HC1.out.next hb2)
  have HGA := Lib.hid hga
  have hs1 := HC1.out.lt
  have hb2s := hb2.size
  clear hm hnm b5 hga hb2 k0 k1 k2 HC1
  go_wp2_with fail
  refine (rows_any _ _).mono ?_
  rintro e w3 ⟨rfl, rfl⟩
  go_wp2_with fail
  obtain ⟨hbx, hsx, q1, q2, q3⟩ := boxes3 w2 #[.int .i64 (X : Int), .int .i64 (Y : Int), .slice A n c] #[.int .i64 0] #[.pointer (some ⟨g, 0, none⟩)] 27 3 26
  have HC3 := Lib.hid (HC2.out.next hbx)
  have HG3 := Lib.hid (HGA.out.below hbx)
  have hgf := HGA.out.fresh
  have hgl := HGA.out.blk.lt
  have hgr := HGA.out.form
  clear HC2 HGA
  have HGR := Lib.hid hgr
  clear hgr
  generalize ((w2.alloc (.cells #[.int .i64 (X : Int), .int .i64 (Y : Int), .slice A n c] 27)).alloc (.cells #[.int .i64 0] 3)).alloc (.cells #[.pointer (some ⟨g, 0, none⟩)] 26) = w5 at *
  have Q1 := Lib.hid q1; have Q2 := Lib.hid q2; have Q3 := Lib.hid q3
  clear q1 q2 q3 hbx
  obtain ⟨nb, hnb⟩ : ∃ nb, w2.heap.size + 1 = nb := ⟨_, rfl⟩
  rw [hnb] at hsx Q2 Q3 ⊢
  have hn0 : 0 < n := by rw [← HNM.out]; exact Nat.mul_pos (by omega) (by omega)
  obtain ⟨ad, rfl, hadl, h00⟩ := Is.at_ HC3.out.cst.is_ (k := 0) (by omega)
  clear h00
  refine wpIn_wide.1 (wpIn_range_stop (α := RowX) (F := Fence.wide) (n := 3) rfl (by omega) (gf := 46) (lb := #[.pointer (some ⟨nb + 1, 0, none⟩)]) rfl trivial (enters_of Try.func46 (by kernel_rfl) rfl) (rowEnc X) Y
    (fun k V => Blk V nb 3 #[.int .i64 (k : Int)] ∧ Upd (· = nb) w5 V)
    (fun k x V => RowEn w5.heap.size X l k x V)
    (fun j V => j = .exit 0 ∧ Blk V nb 3 #[.int .i64 s] ∧ Upd (· = nb) w5 V)
    ?seq (fun _ => rfl) ?ia ?ip ?ep ?xp ?start ?a1 ?assign ?body ?done ?stop)
  case seq =>
    intro ll R Jx V hRb hY h0 hR
    refine rows1_in (3 - 1) (by omega) ll (nb + 1) g r c' X Y w1.heap.size w5.heap.size l _ R Jx ?_ ?_ hRb hY V h0 hR
    · rintro k V ⟨_, hu⟩
      have h3 := Q3.out.upd hu (by omega)
      exact ⟨by rw [h3.cell]; rfl, HG3.out.upd hu (by omega) (by have := HGR.out; omega), hu.size⟩
    · rintro k V V' ⟨hb, hu⟩ hbb
      exact ⟨hb.upd (Upd.of_fresh hbb) id, hu.trans ((Upd.of_fresh hbb).mono (fun _ _ h => absurd h id))⟩
  case ia => rintro k V o ⟨hb, hu⟩; exact ⟨hb.alloc o, hu.alloc o⟩
  case ip => rintro k V ll o o' hll _ _ ⟨hb, hu⟩; exact ⟨hb.upd (upd_putObj (S := (· = ll)) V ll o' rfl) (by omega), hu.then (upd_putObj (S := fun i => w5.heap.size ≤ i) V ll o' hll) (fun i hi h => absurd h (by omega))⟩
  case ep => rintro k x V ll o o' hll ho hoc ⟨hx1, hx2⟩; exact ⟨hx1, own_put hx2 ho hoc o'⟩
  case xp => rintro j V ll o o' hll _ _ ⟨hj, hb, hu⟩; exact ⟨hj, hb.upd (upd_putObj (S := (· = ll)) V ll o' rfl) (by omega), hu.then (upd_putObj (S := fun i => w5.heap.size ≤ i) V ll o' hll) (fun i hi h => absurd h (by omega))⟩
  case start => exact ⟨Q2.out, Upd.refl _ _⟩
  case assign =>
    intro ll x V K hK
    dsimp only [rowEnc]
    gi_wp2
    exact hK
  case body =>
    rintro ll k ⟨yv, r', cr'⟩ V hk ⟨hb, hu⟩ ⟨hyk, hrow⟩
    dsimp only at hyk hrow
    subst hyk
    have HCV := Lib.hid (HC3.out.upd hu (fun i hi e => by omega))
    have hq1 := Q1.out.upd hu (by omega)
    have kn : V.cell? ⟨nb, 0, none⟩ = some (.int .i64 (k : Int)) := by rw [hb.cell]; rfl
    have kfn := hb.frozen 0
    have k0 := HCV.out.cst.c0; have k1 := HCV.out.cst.c1; have ks := HCV.out.cs
    have m2 : V.cell? ⟨w2.heap.size, 2, none⟩ = some (.slice (some ad) n c) := by rw [hq1.cell]; rfl
    obtain ⟨F, G, hFF, r1, r3, r2, hFG, hGn, hXG, hFn⟩ := row_arith hk HNM.out (by have := HG3.out.few; rw [HNM.out] at this; exact this) HG3.out.w1 HG3.out.h2
    have HV1 := Lib.hid (Vs.of_own hrow)
    have HV2 := Lib.hid ((is_part (F := F) (P := X) HCV.out.cst.is_ (by rw [hn]; exact hFn)).more (Nat.le_of_lt (Nat.lt_trans (by omega) HCV.out.lt)))
    rw [hFF] at hrow HV1
    have HLn : Hid (((l.drop F).take X).length = X) := Lib.hid (by rw [List.length_take, List.length_drop, hn]; exact Nat.min_eq_left (Nat.le_sub_of_add_le (by rw [Nat.add_comm]; exact hFn)))
    have hru : w5.heap.size ≤ r' ∧ r' < V.heap.size := row_lt hrow r' rfl
    obtain ⟨rl, hrl⟩ : ∃ rl, (l.drop F).take X = rl := ⟨_, rfl⟩
    rw [hrl] at HV1 HV2 HLn hrow
    have HRow := Lib.hid hrow
    have HB := Lib.hid hb; have HU := Lib.hid hu
    have hX2 : X ≤ 4096 := HG3.out.w2
    have HXG := Lib.hid hXG; have HFF := Lib.hid hFF
    have d2 : decide (Y ≤ k) = false := decide_eq_false (Nat.not_le.2 hk)
    have HS := Lib.hid (And.intro hsx (And.intro hs1 (And.intro hb2s (And.intro hnb (And.intro hgf (And.intro hgl (And.intro hrg (And.intro hru (And.intro hk (And.intro b1 (And.intro b2 (And.intro b3 b4))))))))))))
    obtain ⟨K1, hK1⟩ : ∃ K1, k + 1 = K1 := ⟨_, rfl⟩
    rw [hK1] at r2 r3
    have HK1 := Lib.hid hK1
    clear hrow hb hu hq1 hXG hFF hFn hrl hK1 hsx hs1 hb2s hnb hgf hgl hrg hru hadl hx hy hk b1 b2 b3 b4
    have i1 : (F : Int) ≤ (G : Int) := Int.ofNat_le.2 (Nat.le_of_lt hFG)
    have i2 : (G : Int) ≤ (c : Int) := Int.ofNat_le.2 (Nat.le_trans hGn hcp1)
    have i3 : ¬ c = F := fun e => by subst e; exact absurd (Nat.le_trans hGn hcp1) (Nat.not_le.2 hFG)
    have HFG := Lib.hid hFG; have HGN := Lib.hid hGn
    clear hFG hGn
    gi_wp2_with fail
    refine ⟨trivial, ?_⟩
    rw [HXG.out]
    refine (CallsIn.inRound ll (callsIn_wide.2 (sameInts_true (some ⟨r', 0, none⟩) (some (ad.add F)) X cr' (c - F) rl HLn.out V.heap.size V HV1.out HV2.out (by unfold maxLen; omega)))).mono ?_
    rintro e V1 ⟨rfl, hb1⟩
    have HB1 := Lib.hid hb1
    clear hb1 kn kfn k0 k1 ks m2 i1 i2 i3 r1 r2 r3 d2
    gi_wp2_with fail
    gi_loopw [57] (fun i wr => ∃ j : Nat, j ≤ X ∧ i = .int .i64 (j : Int) ∧ Hid (∃ l', wr.ownsRow w5.heap.size 3 1 (.slice (some ⟨r', 0, none⟩) X cr') X (intsV l')) ∧ Hid (KeepsOthers V wr ∧ Upd (fun i => i = r' ∨ V.heap.size ≤ i) V wr)) (fun i _ => X - (intOf i).toNat)
    case atStart => exact ⟨0, Nat.zero_le _, rfl, Lib.hid ⟨rl, own_upd HRow.out (Upd.of_fresh HB1.out) (fun _ _ => id)⟩, Lib.hid ⟨keeps_of_fresh HB1.out, (Upd.of_fresh HB1.out).mono (fun _ _ h => absurd h id)⟩⟩
    case round =>
      obtain ⟨j, hj, rfl, HO, HU2⟩ := hrel
      by_cases hlt : j < X
      · obtain ⟨l', ho⟩ := HO.out
        have hl' : l'.length = X := by have := own_len ho; rwa [intsV_length] at this
        have q1 := row_at ho j (by omega)
        have q2 : wr.frozen? ⟨r', j, none⟩ = false := ho.frozenAt _
        have HO2 := Lib.hid (row_set ho j (wrap64 (l'[j] + 1)))
        generalize l'[j] = u at q1 HO2
        clear ho HO hl'
        gi_wp2_with fail
        go_roundw
        case rel => exact ⟨j + 1, by omega, by go_num, Lib.hid ⟨_, HO2.out⟩, Lib.hid ⟨HU2.out.1.trans (KeepsOthers.setCell _ _ _), HU2.out.2.setCell (p := ⟨r', j, none⟩) (fun _ => .inl rfl) _⟩⟩
        case measure => simp [intOf]; omega
      · obtain rfl : j = X := by omega
        obtain ⟨hsx, hs1, hb2s, hnb, hgf, hgl, hrg, hru, hk, b1, b2, b3, b4⟩ := HS.out
        have hbw := HB.out.upd HU2.out.2 (by have := HB.out.lt; rintro (h | h) <;> omega)
        have kn : wr.cell? ⟨nb, 0, none⟩ = some (.int .i64 (k : Int)) := by rw [hbw.cell]; rfl
        have kfn := hbw.frozen 0
        have ks := (HCV.out.upd HU2.out.2 (by have := HCV.out.lt; rintro i hi (h | h) <;> omega)).cs
        have HE := Lib.hid (round_end HB.out HU.out HU2.out.2 hru.1 (by omega) (.int .i64 ((k + 1 : Nat) : Int)))
        have HK := Lib.hid (HU2.out.1.trans (KeepsOthers.setCell wr ⟨nb, 0, none⟩ (.int .i64 ((k + 1 : Nat) : Int))))
        have hk2 : k ≤ 4096 := by omega
        have hne1 : ¬ w.heap.size + 1 = nb := by omega
        have hne2 : ¬ nb = w.heap.size + 1 := by omega
        clear hsx hs1 hb2s hnb hgf hgl hrg hru b1 b2 b3 b4 HO hbw hk
        rw [Int.natCast_add, Int.natCast_one] at HE HK
        by_cases hst : (k : Int) + 1 = s
        · subst hst
          gi_wp2_with fail
          exact ⟨HK.out, rfl, HE.out.1, HE.out.2⟩
        · have d3 : (((k : Int) + 1) == s) = false := by simpa using hst
          gi_wp2_with fail
          exact ⟨HK.out, by rw [Int.natCast_add]; exact HE.out.1, HE.out.2⟩
  case done =>
    rintro D V hD ⟨hb, hu⟩ hK
    have HCV := Lib.hid (HC3.out.upd hu (fun i hi e => by omega))
    have hq1 := Q1.out.upd hu (by omega)
    have HGV := Lib.hid (HG3.out.upd hu (by omega) (by have := HGR.out; omega))
    have hx1 := blk3 hq1 (Below.refl _ _)
    have m0 := hx1.2.1; have m1 := hx1.2.2.1; have m2 := hx1.2.2.2
    have HB := Lib.hid hb; have HK := Lib.hid hK
    have HS := Lib.hid (And.intro hsx (And.intro hs1 (And.intro hb2s (And.intro hnb hD))))
    clear hb hu hx1 hq1 hK hsx hs1 hb2s hnb hgf hgl hrg hadl hx hy hD
    go_wp2_with fail
    refine (same_true HGV.out (some ad) c n HNM.out w.heap.size HCV.out.cst.is_ (by have := HCV.out.lt; omega) (X : Int) (Y : Int) rfl rfl).mono ?_
    rintro e V2 ⟨rfl, hb2⟩
    have hc2 := HCV.out.next hb2
    have hbn := HB.out.upd (Upd.of_fresh hb2) id
    have kn : V2.cell? ⟨nb, 0, none⟩ = some (.int .i64 (Y : Int)) := by rw [hbn.cell]; rfl
    have ks := hc2.cs; have k1 := hc2.cst.c1; have kr := hc2.cr; have kf := hc2.fr
    have HC2 := Lib.hid (hc2.say true)
    have HK2 := Lib.hid ((hb2.block D (Array.getElem?_eq_some_iff.1 HK.out).1).trans HK.out)
    clear hc2 hbn hb2 m0 m1 m2
    have hfin : ∀ W, W = V2.setCell ⟨w.heap.size + 1 + 1, 0, none⟩ (.bool true) → W.heap[D]? = some (.deferred (some [])) ∧ LSt w (W.putObj D (.deferred none)) (X : Int) (Y : Int) (some ad) c n l s true := by
      rintro W rfl
      obtain ⟨hsx, hs1, hb2s, hnb, hD⟩ := HS.out
      exact ⟨(KeepsOthers.setCell V2 ⟨w.heap.size + 1 + 1, 0, none⟩ (.bool true)).same _ _ HK2.out rfl, HC2.out.upd (upd_putObj (S := (· = D)) _ D _ rfl) (fun i hi e => by omega)⟩
    have HFIN := Lib.hid hfin
    clear hfin
    by_cases hst : (Y : Int) = s
    all_goals
      first
        | (have d3 : ((Y : Int) == s) = true := by simpa using hst)
        | (have d3 : ((Y : Int) == s) = false := by simpa using hst)
      have HST := Lib.hid hst
      clear hst
      go_wp2_with fail
      obtain ⟨f1, f2⟩ := HFIN.out _ rfl
      have f3 := f2.cr
      refine ⟨by simp, .inl ⟨_, _, rfl, run_takeDeferred f1, ?_⟩⟩
      exact ⟨.bool true, by simp [results, Try.results5, go_sem, f3], rfl, f2.cst.bel⟩
  case stop =>
    rintro D j V hD ⟨rfl, hb, hu⟩ hK
    have HCV := Lib.hid (HC3.out.upd hu (fun i hi e => by omega))
    have hq1 := Q1.out.upd hu (by omega)
    have HGV := Lib.hid (HG3.out.upd hu (by omega) (by have := HGR.out; omega))
    have hx1 := blk3 hq1 (Below.refl _ _)
    have m0 := hx1.2.1; have m1 := hx1.2.2.1; have m2 := hx1.2.2.2
    have HB := Lib.hid hb; have HK := Lib.hid hK
    have HS := Lib.hid (And.intro hsx (And.intro hs1 (And.intro hb2s (And.intro hnb hD))))
    clear hb hu hx1 hq1 hK hsx hs1 hb2s hnb hgf hgl hrg hadl hx hy hD
    refine wpIn_wide.2 ?_
    go_wp2_with fail
    refine (same_true HGV.out (some ad) c n HNM.out w.heap.size HCV.out.cst.is_ (by have := HCV.out.lt; omega) (X : Int) (Y : Int) rfl rfl).mono ?_
    rintro e V2 ⟨rfl, hb2⟩
    have hc2 := HCV.out.next hb2
    have hbn := HB.out.upd (Upd.of_fresh hb2) id
    have kn : V2.cell? ⟨nb, 0, none⟩ = some (.int .i64 s) := by rw [hbn.cell]; rfl
    have ks := hc2.cs; have k1 := hc2.cst.c1; have kr := hc2.cr; have kf := hc2.fr
    have HC2 := Lib.hid (hc2.say true)
    have HK2 := Lib.hid ((hb2.block D (Array.getElem?_eq_some_iff.1 HK.out).1).trans HK.out)
    clear hc2 hbn hb2 m0 m1 m2
    have hfin : ∀ W, W = V2.setCell ⟨w.heap.size + 1 + 1, 0, none⟩ (.bool true) → W.heap[D]? = some (.deferred (some [])) ∧ LSt w (W.putObj D (.deferred none)) (X : Int) (Y : Int) (some ad) c n l s true := by
      rintro W rfl
      obtain ⟨hsx, hs1, hb2s, hnb, hD⟩ := HS.out
      exact ⟨(KeepsOthers.setCell V2 ⟨w.heap.size + 1 + 1, 0, none⟩ (.bool true)).same _ _ HK2.out rfl, HC2.out.upd (upd_putObj (S := (· = D)) _ D _ rfl) (fun i hi e => by omega)⟩
    have HFIN := Lib.hid hfin
    clear hfin
    go_wp2_with fail
    obtain ⟨f1, f2⟩ := HFIN.out _ rfl
    have f3 := f2.cr
    refine ⟨by simp, .inl ⟨_, _, rfl, run_takeDeferred f1, ?_⟩⟩
    exact ⟨.bool true, by simp [results, Try.results5, go_sem, f3], rfl, f2.cst.bel⟩
set_option maxRecDepth 100000 in
theorem lifted (os : Os) (started : os.Started) (H : Type) (enc : TypeId × Value → H) :
    ReturnsInHanded {} Try.checked os 5 .any (Rows.gridRowsSpec.pre6 enc Try.prog Try.f5 Rows.gridRowsRow.domain false) (Rows.gridRowsSpec.post enc Try.prog Try.f5 false true false false) := by
  refine returnsInHanded_of_change_sized (C := Try.checked) prog_own started (by kernel_rfl) Try.func5
    (ChangeSpec.witness6 (enc := enc) (C := Try.checked) false ⟨#[], #[.agg #[.int .i64 0, .int .i64 0, .slice none 0 0], .int .i64 0], []⟩ 8 (by kernel_rfl) (by kernel_rfl) (by kernel_rfl) (by kernel_rfl)) ?_
  intro W base args ds gs before hval0 hW hcnd hsz _
  have hval : ∀ (j : Nat) t v, Try.f5.params[j]? = some t → args[j]? = some v → Value.okWide Try.prog W .any base t v := hval0
  have hW' := hW
  obtain ⟨p, q, hA0, hV, rfl, hfz, hnd⟩ := hW
  have hA : DataW.TrodAll enc Try.prog W 0 (fun _ => true) true Try.f5.params.toList args.toList ds p := hA0
  rw [Try.params5] at hA hval
  obtain ⟨v0, vs0, d0, ds0, p0, q0, hargs, rfl, rfl, h0, r0⟩ := trodAll_cons hA
  obtain ⟨v1, vs1, d1, ds1, p1, q1, rfl, rfl, rfl, h1, r1⟩ := trodAll_cons r0
  obtain ⟨rfl, rfl, rfl⟩ := trodAll_nil r1
  obtain rfl : args = #[v0, v1] := by cases args; simp_all
  obtain ⟨rfl, rfl⟩ := trodVars_none hV
  obtain ⟨x0, y0, A0, l0, c0, rfl, bx0, by0, hb0, hk0, hcp0, hd0⟩ := open_cells_c (hval 0 24 v0 rfl rfl) h0
  obtain ⟨a1, rfl, rfl, rfl, w1⟩ := open_int Try.underlying3 (hval 1 3 v1 rfl rfl) h1
  have hl0 : l0.length ≤ 17592186043904 := by
    obtain ⟨_, _, _, rfl, hdd⟩ := hd0
    rcases hdd with ⟨_, rfl⟩ | ⟨e, s, rfl, hle⟩
    · simp
    · have hpz := sized_part hsz (j := 0) (t := 24) rfl rfl Try.underlying24
      have this : (e.length + s.length) * Try.prog.bytesOf 3 ≤ reachBytes := sized_slice hpz (j := 2) (t := 22) (e := 3) rfl rfl Try.underlying22
      rw [bytes_int] at this
      unfold reachBytes at this
      omega
  have lt0 : ∀ x ∈ p0, x.block < W.heap.size := by obtain ⟨m, hm⟩ := h0; exact DataW.trod_lt m _ _ _ hm
  clear hA0 hval0
  refine (walk x0 y0 A0 c0 l0 a1 W bx0 by0 hb0 hk0 hcp0 hl0 (bounds_i64 w1)).mono fun e W' ⟨he, bel⟩ => ?_
  subst he
  exact ⟨_, rfl, _, _, _, [], _, [], hW', trodAll_mk1 (shut_bool Try.underlying4 _), (trodAll_cons_mk (Below.trod prog_laid (by kernel_rfl) (of_decide_eq_true (by kernel_rfl)) h0 bel lt0) (trodAll_cons_mk (shut_int Try.underlying3 w1) trodAll_mk0)), rfl, bel.frame _, fun h => by cases h⟩

theorem over : Rows.gridRowsRow.holds Try.pinned (OpenSpec.ofChange Rows.gridRowsSpec) :=
  OpenClaim.holds_of_wide 5 Try.f5 rfl rfl rfl rfl rfl rfl rfl ⟨rfl, rfl, rfl, rfl, rfl⟩ rfl rfl rfl rfl rfl (by kernel_rfl) Try.func5 (by kernel_rfl)
    (of_decide_eq_true (by kernel_rfl)) (by unfold Func.isWrapper; first | (rw [if_pos (by decide +kernel)]; kernel_rfl) | (rw [if_neg (by decide +kernel)]; exact ⟨rfl, rfl⟩))
    (fun os started H enc _ => lifted os started H enc)
end GridRows

theorem gridRows_holds : Rows.GridRowsSaid := GridRows.over
#print axioms gridRows_holds
end Go.Proofs.Ytfjnlbjlapbilaa
