/- All cells come in order, with their places; what is set on the way is seen behind: for every size, every list of cells and every number to stop at. -/
import Derived.Test.YtfjnlbjlapbilaaGam
import Derived.Test.YtfjnlbjlapbilaaGp
import Derived.Deep.CondSized
namespace Go.Proofs.Ytfjnlbjlapbilaa
open Go.ChangeShapes Go.WideShapes Go.ChangeAt Go.RowKit Go.Shelf
attribute [local go_sem] Oper.semAt_some
namespace GridAll

set_option maxHeartbeats 4000000 in
set_option maxRecDepth 100000 in
theorem walk (x y : Int) (A : Option Addr) (c : Nat) (l : List Int) (s : Int) (w : World) (hx : -9223372036854775808 ≤ x ∧ x ≤ 9223372036854775807) (hy : -9223372036854775808 ≤ y ∧ y ≤ 9223372036854775807) (hbs : Is w w.heap.size A l) (_ : ∀ x ∈ l, -9223372036854775808 ≤ x ∧ x ≤ 9223372036854775807) (hcp : l.length ≤ c ∧ c ≤ maxLen) (hl : l.length ≤ 17592186043904)
    (_ : -9223372036854775808 ≤ s ∧ s ≤ 9223372036854775807) :
    Calls Try.prog 6 #[.agg #[.int .i64 x, .int .i64 y, .slice A l.length c], .int .i64 s] w fun e w' => e = .returned (.bool true) ∧ Below w.heap.size w w' := by
  obtain ⟨n, hn⟩ : ∃ n, l.length = n := ⟨_, rfl⟩
  rw [hn] at hl hcp ⊢
  obtain ⟨hcp1, hcp2⟩ := hcp
  refine (callsIn_wide (n := 3)).1 ?_
  refine callsIn_of_wp_marks Try.func6 rfl trivial ?_ rfl
  simp only [Try.ntmps6, List.size_toArray, List.length_cons, List.length_nil, Nat.reduceAdd, Nat.reduceSub, Array.replicate_succ, Array.replicate_zero, List.push_toArray, List.append_toArray, List.nil_append, List.cons_append]
  refine wpIn_wide.2 ?_
  go_wp2_with fail
  have HC0 := Lib.hid (LSt.new (x := x) (y := y) (c := c) (n := n) (s := s) hbs)
  generalize ((w.alloc (.cells #[.int .i64 x, .int .i64 y, .slice A n c] 24)).alloc (.cells #[.int .i64 s] 3)).alloc (.cells #[.bool false] 4) = W0 at *
  refine (wakes_any W0).mono ?_
  rintro e w1 ⟨rfl, hb1⟩
  have hc1 := HC0.out.next hb1
  have k0 := hc1.cst.c0; have k1 := hc1.cst.c1; have k2 := hc1.cst.c2
  have HC1 := Lib.hid hc1
  clear hb1 HC0 hc1 hbs
  go_wp2_with fail
  refine (both_any x y A c n l hn (by omega) w.heap.size w1 HC1.out.cst.is_ (by have := HC1.out.lt; omega)).mono ?_
  intro e w2 hB
  unfold BothR at hB
  by_cases hg : Good x y n
  case neg =>
    rw [if_neg hg] at hB
    obtain ⟨rfl, hb2⟩ := hB
    have hc2 := HC1.out.next hb2
    have hc3 := hc2.next (((Below.refl _ w2).alloc (Nat.le_refl _) (.cells #[.pointer none] 26)).alloc (by simp) (.cells #[.int .i64 x, .int .i64 y, .slice A n c] 27))
    have fr := hc3.fr
    have cr := hc3.cr
    have hc4 := hc3.say true
    have kr := hc4.cr
    have HC4 := Lib.hid hc4
    clear hb2 k0 k1 k2 hg hc2 hc3 hc4
    go_wp2_with fail
    exact ⟨.bool true, by simp [results, Try.results6, go_sem, kr], rfl, HC4.out.cst.bel⟩
  rw [if_pos hg] at hB
  obtain ⟨g, r, c', rfl, hga, hrg, hb2⟩ := hB
  obtain ⟨hm, hnm⟩ := hg
  obtain ⟨b1, b2, b3, b4, b5⟩ := mayB_bd hm
  obtain ⟨X, rfl⟩ : ∃ X : Nat, x = (X : Int) := ⟨x.toNat, by omega⟩
  obtain ⟨Y, rfl⟩ : ∃ Y : Nat, y = (Y : Int) := ⟨y.toNat, by omega⟩
  simp only [Int.toNat_natCast] at hga
  have HNM : Hid (X * Y = n) := Lib.hid (by rw [← Int.natCast_mul] at hnm; omega)
  have HC2 := Lib.hid (HC1.out.next hb2)
  have HGA := Lib.hid hga
  have hs1 := HC1.out.lt
  have hb2s := hb2.size
  clear hm hnm b5 hga hb2 k0 k1 k2 HC1
  go_wp2_with fail
  refine (all_any _ _).mono ?_
  rintro e w3 ⟨rfl, rfl⟩
  go_wp2_with fail
  obtain ⟨hbx, hsx, q0, q1, q2, q3⟩ := boxes4 w2 #[.pointer (some ⟨g, 0, none⟩)] #[.int .i64 (X : Int), .int .i64 (Y : Int), .slice A n c] #[.int .i64 0] #[.pointer (some ⟨g, 0, none⟩)] 26 27 3 26
  have HC3 := Lib.hid (HC2.out.next hbx)
  have HG3 := Lib.hid (HGA.out.below hbx)
  have hgf := HGA.out.fresh
  have hgl := HGA.out.blk.lt
  have HGR := Lib.hid HGA.out.form
  clear HC2 HGA
  obtain ⟨w5, hw5⟩ : ∃ w5 : World, (((w2.alloc (.cells #[.pointer (some ⟨g, 0, none⟩)] 26)).alloc (.cells #[.int .i64 (X : Int), .int .i64 (Y : Int), .slice A n c] 27)).alloc (.cells #[.int .i64 0] 3)).alloc (.cells #[.pointer (some ⟨g, 0, none⟩)] 26) = w5 := ⟨_, rfl⟩
  rw [hw5] at hsx q0 q1 q2 q3 HC3 HG3 ⊢
  clear hw5
  have Q0 := Lib.hid q0; have Q1 := Lib.hid q1; have Q2 := Lib.hid q2; have Q3 := Lib.hid q3
  clear q0 q1 q2 q3 hbx
  obtain ⟨nb, hnb⟩ : ∃ nb, w2.heap.size + 1 + 1 = nb := ⟨_, rfl⟩
  rw [hnb] at hsx Q2 Q3 ⊢
  have hn0 : 0 < n := by rw [← HNM.out]; exact Nat.mul_pos (by omega) (by omega)
  have hnw : n ≤ 65536 := by have := HG3.out.few; rw [HNM.out] at this; exact this
  obtain ⟨ad, rfl, hadl, h00⟩ := Is.at_ HC3.out.cst.is_ (k := 0) (by omega)
  clear h00
  have hmix : Try.prog.follows .mixedOrders = true := by kernel_rfl
  have hrn : r < w2.heap.size := HGR.out.2.2.2
  have hrg' : r ≠ g := by omega
  have hrb : w1.heap.size ≤ r := HGR.out.2.2.1
  refine wpIn_wide.1 (wpIn_range_box1 (α := CellX) (F := Fence.wide) (n := 3) rfl (by omega) (gf := 48) (lb := #[.pointer (some ⟨nb + 1, 0, none⟩)]) rfl trivial (enters_of Try.func48 (by kernel_rfl) rfl) cellEnc (X * Y)
    (fun k V => Blk V nb 3 #[.int .i64 (k : Int)] ∧ GridAt V w1.heap.size 87 3 g r c' X Y (intsV (negs l k)) ∧ Upd (fun i => i = nb ∨ i = r) w5 V)
    (fun k x _ => x = cellX X (fun k => l.getD k 0) k)
    (fun j V => j = .exit 0 ∧ ∃ k : Nat, k ≤ n ∧ (k : Int) = s ∧ Blk V nb 3 #[.int .i64 (k : Int)] ∧ GridAt V w1.heap.size 87 3 g r c' X Y (intsV (negs l k)) ∧ Upd (fun i => i = nb ∨ i = r) w5 V)
    ?seq (fun _ => rfl) ?ia ?ip (fun _ _ _ _ h => h) (fun _ _ _ _ _ _ _ _ _ h => h) ?xp ?start (fun k V h => h.2.2.size) 55 (fun x => #[.int .i64 x.1, .int .i64 x.2.1]) ?Fa ?assign ?body ?done ?stop)
  case seq =>
    intro ll R Jx V hRb hY h0 hR
    refine all1_in (3 - 1) (by omega) ll (nb + 1) g r c' X Y w1.heap.size (fun k => l.getD k 0) _ R Jx ?_ (fun k x V hk hI hR hx => hY k x V hk hI hR hx) V h0 hR
    rintro k V ⟨_, hgk, hu⟩
    have h3 := Q3.out.upd hu (by omega)
    exact ⟨by rw [h3.cell]; rfl, _, hgk, fun hk => negs_at l k hk⟩
  case ia => rintro k V o ⟨hb, hg, hu⟩; exact ⟨hb.alloc o, hg.below ((Below.refl _ V).alloc (Nat.le_refl _) o), hu.alloc o⟩
  case ip => rintro k V ll o o' hll _ _ ⟨hb, hg, hu⟩; exact ⟨hb.upd (upd_putObj (S := (· = ll)) V ll o' rfl) (by omega), hg.upd (upd_putObj (S := (· = ll)) V ll o' rfl) (by omega) (by omega), hu.then (upd_putObj (S := fun i => w5.heap.size ≤ i) V ll o' hll) (fun i hi h => absurd h (by omega))⟩
  case xp => rintro j V ll o o' hll _ _ ⟨hj, k, hk, hks, hb, hg, hu⟩; exact ⟨hj, k, hk, hks, hb.upd (upd_putObj (S := (· = ll)) V ll o' rfl) (by omega), hg.upd (upd_putObj (S := (· = ll)) V ll o' rfl) (by omega) (by omega), hu.then (upd_putObj (S := fun i => w5.heap.size ≤ i) V ll o' hll) (fun i hi h => absurd h (by omega))⟩
  case start => exact ⟨Q2.out, by rw [negs_zero]; exact HG3.out, Upd.refl _ _⟩
  case assign =>
    intro ll x V Bx K hBx hK
    dsimp only [cellEnc]
    have HK := Lib.hid hK
    clear hK
    gi_wp2
    exact HK.out
  case body =>
    rintro ll k ⟨xp, yp, vp⟩ V Bx hk ⟨hb, hg, hu⟩ hx hBx hbx
    obtain ⟨rfl, rfl, rfl⟩ : xp = ((k % X : Nat) : Int) ∧ yp = ((k / X : Nat) : Int) ∧ vp = l.getD k 0 := by unfold cellX at hx; simpa using hx
    clear hx
    dsimp only at hbx ⊢
    have hkn : k < n := by rw [← HNM.out]; exact hk
    have hkl : k < l.length := by rw [hn]; exact hkn
    have hcst := HC3.out.upd hu (by rintro i hi (h | h) <;> omega)
    have hq0 := Q0.out.upd hu (by rintro (h | h) <;> omega)
    have hq1 := Q1.out.upd hu (by rintro (h | h) <;> omega)
    obtain ⟨p1, p2, p3⟩ := place_div (k := k) (X := X) (by omega)
    have HSET := Lib.hid (fun (W : World) (h : GridAt W w1.heap.size 87 3 g r c' X Y (intsV (negs l k))) => set_k h hk (wrap64 (-(l.getD k 0))))
    have HEND := Lib.hid (fun (W : World) (v' : Value) (hb : Blk W nb 3 #[.int .i64 (k : Int)]) (hg : GridAt W w1.heap.size 87 3 g r c' X Y (intsV (negs l k))) (hu : Upd (fun i => i = nb ∨ i = r) w5 W) => all_end (v' := v') hb hg hu hkl (by omega) (by omega) hrg')
    obtain ⟨ad', e1, _, hcl⟩ := Is.at_ hcst.cst.is_ hkl
    injection e1 with e1
    subst e1
    have hgd : l.getD k 0 = l[k] := by simp [List.getD, List.getElem?_eq_getElem hkl]
    rw [← hgd] at hcl
    have kn : V.cell? ⟨nb, 0, none⟩ = some (.int .i64 (k : Int)) := by rw [hb.cell]; rfl
    have k0 := hcst.cst.c0
    have kg : V.cell? ⟨w2.heap.size, 0, none⟩ = some (.pointer (some ⟨g, 0, none⟩)) := by rw [hq0.cell]; rfl
    have m2 : V.cell? ⟨w2.heap.size + 1, 2, none⟩ = some (.slice (some ad) n c) := by rw [hq1.cell]; rfl
    have z0 : V.cell? ⟨Bx, 0, none⟩ = some (.int .i64 ((k % X : Nat) : Int)) := by rw [hbx.cell]; rfl
    have z1 : V.cell? ⟨Bx, 1, none⟩ = some (.int .i64 ((k / X : Nat) : Int)) := by rw [hbx.cell]; rfl
    have hX0 : ¬ (X : Int) = 0 := by omega
    have d2 : decide (n ≤ k) = false := decide_eq_false (Nat.not_le.2 hkn)
    have d2' : decide ((n : Int) ≤ (k : Int)) = false := decide_eq_false (by omega)
    generalize (k % X) = P at p1 z0 HSET ⊢
    generalize (k / X) = Q at p2 p3 z1 HSET ⊢
    generalize l.getD k 0 = v at hcl HSET HEND ⊢
    have HB := Lib.hid hb; have HGG := Lib.hid hg; have HU := Lib.hid hu; have HCS := Lib.hid hcst
    have HS := Lib.hid (And.intro hsx (And.intro hs1 (And.intro hb2s (And.intro hnb (And.intro hgf (And.intro hgl (And.intro hrg (And.intro hrn hrb))))))))
    clear hb hg hu hcst hq0 hq1 hbx hkl hgd hsx hs1 hb2s hnb hgf hgl hrg hrn hrg' hrb hadl hBx hk hx hy
    gi_wp2_with fail
    refine wpRound_region_still hmix (by kernel_rfl) (by kernel_rfl) ?_
    repeat (go_big_quiet_step (fail))
    refine wpQuiet_nil ?_
    clear kn k0 m2 p1 p2 p3 hcl hX0 d2 d2'
    gi_wp2_with fail
    refine ⟨trivial, ?_⟩
    refine (CallsIn.inRound ll (callsIn_wide.2 (HSET.out _ HGG.out.drew))).mono ?_
    rintro e V2 ⟨rfl, V1, hV1, hV2⟩
    have huV : Upd No V V1 := ((Upd.refl No V).drew).trans (Upd.of_fresh hV1)
    have hKV := (KeepsOthers.drew V).trans (keeps_of_fresh hV1)
    have hbd := HB.out.upd huV id
    have hgd1 := HGG.out.upd huV id id
    have HEN := Lib.hid (HEND.out V1 (.int .i64 ((k : Int) + 1)) hbd hgd1 (HU.out.then huV (fun _ _ h => h.elim)))
    rw [← hV2] at HEN
    obtain ⟨hsx, hs1, hb2s, hnb, hgf, hgl, hrg, hrn, hrb⟩ := HS.out
    have u2 := set1_upd V1 r k (.int .i64 (wrap64 (-v)))
    rw [← hV2] at u2
    have hb2 := hbd.upd u2 (by omega)
    have kn : V2.cell? ⟨nb, 0, none⟩ = some (.int .i64 (k : Int)) := by rw [hb2.cell]; rfl
    have kfn := hb2.frozen 0
    have ks := ((HCS.out.upd huV (fun _ _ => id)).upd u2 (by intro i hi e; omega)).cs
    have hne1 : ¬ w.heap.size + 1 = nb := by omega
    have hne2 : ¬ nb = w.heap.size + 1 := by omega
    have hk2 : k ≤ 65536 := by omega
    clear hsx hs1 hb2s hnb hgf hgl hrg hrn hrb kg z0 z1 hbd u2 hb2 hV2 hgd1 huV hV1
    by_cases hst : (k : Int) + 1 = s
    · subst hst
      gi_wp2_with fail
      exact ⟨hKV.trans HEN.out.1, rfl, k + 1, hkn, by omega, by rw [Int.natCast_add]; exact HEN.out.2.1, HEN.out.2.2.1, HEN.out.2.2.2⟩
    · have d3 : (((k : Int) + 1) == s) = false := by simpa using hst
      gi_wp2_with fail
      exact ⟨hKV.trans HEN.out.1, by rw [Int.natCast_add]; exact HEN.out.2.1, HEN.out.2.2.1, HEN.out.2.2.2⟩
  case' done =>
    rintro D V hD ⟨hb, hg, hu⟩ hK
    obtain ⟨k, hk⟩ : ∃ k, X * Y = k := ⟨_, rfl⟩
    rw [hk] at hb hg
    have hkn : k ≤ n := by rw [← HNM.out, hk]; exact Nat.le_refl _
    have hfin : k = n ∨ (k : Int) = s := .inl (by rw [← hk]; exact HNM.out)
    clear hk
  case' stop =>
    rintro D j V hD ⟨rfl, k, hkn, hks, hb, hg, hu⟩ hK
    have hfin : k = n ∨ (k : Int) = s := .inr hks
    clear hks
    refine wpIn_wide.2 ?_
  all_goals
    have hcst := HC3.out.upd hu (by rintro i hi (h | h) <;> omega)
    have hq0 := Q0.out.upd hu (by rintro (h | h) <;> omega)
    have hq1 := Q1.out.upd hu (by rintro (h | h) <;> omega)
    have hs5 := hu.size
    have hlt := hcst.lt
    have HCS := Lib.hid hcst; have HQ0 := Lib.hid hq0; have HQ1 := Lib.hid hq1
    have HB := Lib.hid hb; have HGG := Lib.hid hg; have HK := Lib.hid hK; have HFI := Lib.hid hfin
    have m2 : V.cell? ⟨w2.heap.size + 1, 2, none⟩ = some (.slice (some ad) n c) := by rw [hq1.cell]; rfl
    clear hcst hq0 hq1 hb hg hu hK hfin
    go_wp2_with fail
    refine (own_n (some ad) c n l hn w.heap.size V HCS.out.cst.is_ (by omega) (by omega)).mono ?_
    rintro e V2 ⟨A7, c7, rfl, o7, hb7⟩
    obtain ⟨r7, rfl, h71, h72, h73, h74⟩ := row_form o7 (by omega)
    have hc7 := HCS.out.next hb7
    have hq17 := HQ1.out.upd (Upd.of_fresh hb7) id
    have f2 := hq17.frozen 2
    have q2 : V2.cell? ⟨w2.heap.size + 1, 2, none⟩ = some (.slice (some ad) n c) := by rw [hq17.cell]; rfl
    have hu8 := set1_upd V2 (w2.heap.size + 1) 2 (.slice (some ⟨r7, 0, none⟩) n c7)
    have HQ8 : Hid (Blk (V2.setCell ⟨w2.heap.size + 1, 2, none⟩ (.slice (some ⟨r7, 0, none⟩) n c7)) (w2.heap.size + 1) 27 #[.int .i64 (X : Int), .int .i64 (Y : Int), .slice (some ⟨r7, 0, none⟩) n c7]) := Lib.hid (by simpa using hq17.set_ 2 (.slice (some ⟨r7, 0, none⟩) n c7))
    have HC8 := Lib.hid (hc7.upd hu8 (fun i hi e => by omega))
    have HG8 := Lib.hid ((HGG.out.below hb7).upd hu8 (by omega) (by omega))
    have HB8 := Lib.hid ((HB.out.upd (Upd.of_fresh hb7) id).upd hu8 (by omega))
    have HQ08 := Lib.hid ((HQ0.out.upd (Upd.of_fresh hb7) id).upd hu8 (by omega))
    have HO8 := Lib.hid (own_upd o7 hu8 (fun i hi e => by simp [Value.ownBlock] at hi; omega))
    have HK8 := Lib.hid ((KeepsOthers.setCell V2 ⟨w2.heap.size + 1, 2, none⟩ (.slice (some ⟨r7, 0, none⟩) n c7)).same _ _ ((keeps_of_fresh hb7).same _ _ HK.out rfl) rfl)
    have hs8 : (V2.setCell ⟨w2.heap.size + 1, 2, none⟩ (.slice (some ⟨r7, 0, none⟩) n c7)).heap.size = V2.heap.size := by simp
    have hs7 := hb7.size
    clear hc7 hq17 hu8 hb7 o7 m2 HCS HQ0 HQ1 HB HGG HK
    go_wp2_with fail
    obtain ⟨V3, hV3⟩ : ∃ V3 : World, V2.setCell ⟨w2.heap.size + 1, 2, none⟩ (.slice (some ⟨r7, 0, none⟩) n c7) = V3 := ⟨_, rfl⟩
    rw [hV3] at HQ8 HC8 HG8 HB8 HQ08 HO8 HK8 hs8 ⊢
    clear hV3 q2 f2
    go_loopw [12] (fun i wr => ∃ m : Nat, m ≤ k ∧ i = .int .i64 (m : Int) ∧ Hid (wr.ownsRow V.heap.size 3 1 (.slice (some ⟨r7, 0, none⟩) n c7) n (intsV (negs l m))) ∧ Hid (Upd (· = r7) V3 wr)) (fun i _ => k - (intOf i).toNat)
    case atStart => exact ⟨0, Nat.zero_le _, rfl, by rw [negs_zero]; exact HO8, Lib.hid (Upd.refl _ _)⟩
    case round =>
      obtain ⟨m, hm, rfl, HO, HU⟩ := hrel
      have hbw := HB8.out.upd HU.out (by omega)
      have kn : wr.cell? ⟨nb, 0, none⟩ = some (.int .i64 (k : Int)) := by rw [hbw.cell]; rfl
      have hqw := HQ8.out.upd HU.out (by omega)
      have m2 : wr.cell? ⟨w2.heap.size + 1, 2, none⟩ = some (.slice (some ⟨r7, 0, none⟩) n c7) := by rw [hqw.cell]; rfl
      by_cases hlt : m < k
      · have hml : m < (negs l m).length := by rw [negs_length, hn]; omega
        have hod := own_upd HO.out ((Upd.refl No wr).drew) (fun _ _ => id)
        have q1 := row_at hod m hml
        rw [negs_at] at q1
        have q2 : wr.drew.frozen? ⟨r7, m, none⟩ = false := hod.frozenAt _
        have ho := row_set hod m (wrap64 (-(l.getD m 0)))
        rw [negs_set l m (by rw [hn]; omega)] at ho
        have hu2 := (HU.out.drew).then (set1_upd wr.drew r7 m (.int .i64 (wrap64 (-(l.getD m 0))))) (fun i _ e => e)
        generalize l.getD m 0 = v at q1 ho hu2
        have HO2 := Lib.hid ho; have HU2 := Lib.hid hu2
        have hmn : m < n := by omega
        clear ho hu2 hod hbw hqw hml
        have HS := Lib.hid (And.intro hsx (And.intro hs1 (And.intro hb2s (And.intro hnb (And.intro hgf (And.intro hgl (And.intro hrg (And.intro hrn (And.intro hrb (And.intro hs5 (And.intro hlt (And.intro hs8 (And.intro hs7 (And.intro hD (And.intro h73 h74)))))))))))))))
        clear hsx hs1 hb2s hnb hgf hgl hrg hrn hrg' hrb hs5 hs8 hs7 hD h73 h74 hadl hx hy
        go_wp2_with fail
        refine wp_region_tail 10 hmix (by kernel_rfl) ?_
        simp only [List.take_succ_cons, List.take_zero, List.drop_succ_cons, List.drop_zero]
        repeat (go_big_quiet_step (fail))
        refine wpQuiet_nil ?_
        go_wp2_with fail
        go_roundw
        case rel => exact ⟨m + 1, by omega, by go_num, HO2, HU2⟩
        case measure => simp [intOf]; omega
      · obtain rfl : m = k := by omega
        have hcw := HC8.out.upd HU.out (by intro i hi e; omega)
        have hq0 := HQ08.out.upd HU.out (by omega)
        have HGW := Lib.hid (HG8.out.upd HU.out (by omega) (by omega))
        have kg : wr.cell? ⟨w2.heap.size, 0, none⟩ = some (.pointer (some ⟨g, 0, none⟩)) := by rw [hq0.cell]; rfl
        have m0 : wr.cell? ⟨w2.heap.size + 1, 0, none⟩ = some (.int .i64 (X : Int)) := by rw [hqw.cell]; rfl
        have m1 : wr.cell? ⟨w2.heap.size + 1, 1, none⟩ = some (.int .i64 (Y : Int)) := by rw [hqw.cell]; rfl
        have HV := Lib.hid (Vs.of_own HO.out)
        have HB := Lib.hid hbw; have HCW := Lib.hid hcw
        have hDl := (Array.getElem?_eq_some_iff.1 HK8.out).1
        have hsw := HU.out.size
        have HK := Lib.hid ((HU.out.block D hDl (by rintro rfl; exact own_dead HO8.out HK8.out)).trans HK8.out)
        have HS := Lib.hid (And.intro hs1 (And.intro hb2s (And.intro hD hs5)))
        have r9 : wrap64 ((X : Int) * (Y : Int)) = (n : Int) := by rw [← Int.natCast_mul, HNM.out]; exact IntWalk.wrap64_in _ (by omega)
        clear hcw hq0 hbw hqw hsx hs1 hb2s hnb hgf hgl hrg hrn hrg' hrb hs5 hs8 hs7 hD h73 h74 hadl hx hy hDl hsw
        go_wp2_with fail
        refine (same_true HGW.out (some ⟨r7, 0, none⟩) c7 n HNM.out wr.heap.size HV.out (Nat.le_refl _) (X : Int) (Y : Int) rfl rfl).mono ?_
        rintro e V4 ⟨rfl, hb4⟩
        have hc4 := HCW.out.next hb4
        have hbn := HB.out.upd (Upd.of_fresh hb4) id
        have kn4 : V4.cell? ⟨nb, 0, none⟩ = some (.int .i64 (m : Int)) := by rw [hbn.cell]; rfl
        have ks := hc4.cs; have k0 := hc4.cst.c0; have k1 := hc4.cst.c1; have kr := hc4.cr; have kf := hc4.fr
        have HC4 := Lib.hid (hc4.say true)
        have HK4 := Lib.hid ((keeps_of_fresh hb4).same _ _ HK.out rfl)
        clear hc4 hbn hb4 m0 m1 m2 kn kg
        have hend : ∀ W, W = V4.setCell ⟨w.heap.size + 1 + 1, 0, none⟩ (.bool true) → W.heap[D]? = some (.deferred (some [])) ∧ LSt w (W.putObj D (.deferred none)) (X : Int) (Y : Int) (some ad) c n l s true := by
          rintro W rfl
          obtain ⟨hs1, hb2s, hD, hs5⟩ := HS.out
          have hlt := HC3.out.lt
          exact ⟨(KeepsOthers.setCell V4 ⟨w.heap.size + 1 + 1, 0, none⟩ (.bool true)).same _ _ HK4.out rfl, HC4.out.upd (upd_putObj (S := (· = D)) _ D _ rfl) (fun i hi e => by omega)⟩
        have HEND := Lib.hid hend
        clear hend
        by_cases hst : (m : Int) = s
        · have d3 : ((m : Int) == s) = true := by simpa using hst
          have HST := Lib.hid hst
          clear hst
          go_wp2_with fail
          obtain ⟨f1, f2⟩ := HEND.out _ rfl
          have f3 := f2.cr
          refine ⟨by simp, .inl ⟨_, _, rfl, run_takeDeferred f1, ?_⟩⟩
          exact ⟨.bool true, by simp [results, Try.results6, go_sem, f3], rfl, f2.cst.bel⟩
        · have d3 : ((m : Int) == s) = false := by simpa using hst
          obtain rfl : m = n := HFI.out.resolve_right hst
          have HST := Lib.hid hst
          clear hst
          go_wp2_with fail
          obtain ⟨f1, f2⟩ := HEND.out _ rfl
          have f3 := f2.cr
          refine ⟨by simp, .inl ⟨_, _, rfl, run_takeDeferred f1, ?_⟩⟩
          exact ⟨.bool true, by simp [results, Try.results6, go_sem, f3], rfl, f2.cst.bel⟩
set_option maxRecDepth 100000 in
theorem lifted (os : Os) (started : os.Started) (H : Type) (enc : TypeId × Value → H) :
    ReturnsInHanded {} Try.checked os 6 .any (Rows.gridAllSpec.pre6 enc Try.prog Try.f6 Rows.gridAllRow.domain false) (Rows.gridAllSpec.post enc Try.prog Try.f6 false true false false) := by
  refine returnsInHanded_of_change_sized (C := Try.checked) prog_own started (by kernel_rfl) Try.func6
    (ChangeSpec.witness6 (enc := enc) (C := Try.checked) false ⟨#[], #[.agg #[.int .i64 0, .int .i64 0, .slice none 0 0], .int .i64 0], []⟩ 8 (by kernel_rfl) (by kernel_rfl) (by kernel_rfl) (by kernel_rfl)) ?_
  intro W base args ds gs before hval0 hW hcnd hsz _
  have hval : ∀ (j : Nat) t v, Try.f6.params[j]? = some t → args[j]? = some v → Value.okWide Try.prog W .any base t v := hval0
  have hW' := hW
  obtain ⟨p, q, hA0, hV, rfl, hfz, hnd⟩ := hW
  have hA : DataW.TrodAll enc Try.prog W 0 (fun _ => true) true Try.f6.params.toList args.toList ds p := hA0
  rw [Try.params6] at hA hval
  obtain ⟨v0, vs0, d0, ds0, p0, q0, hargs, rfl, rfl, h0, r0⟩ := trodAll_cons hA
  obtain ⟨v1, vs1, d1, ds1, p1, q1, rfl, rfl, rfl, h1, r1⟩ := trodAll_cons r0
  obtain ⟨rfl, rfl, rfl⟩ := trodAll_nil r1
  obtain rfl : args = #[v0, v1] := by cases args; simp_all
  obtain ⟨rfl, rfl⟩ := trodVars_none hV
  obtain ⟨x0, y0, A0, l0, c0, rfl, bx0, by0, hb0, hk0, hcp0, hd0⟩ := open_cells_c (hval 0 24 v0 rfl rfl) h0
  obtain ⟨a1, rfl, rfl, rfl, w1⟩ := open_int Try.underlying3 (hval 1 3 v1 rfl rfl) h1
  have hl0 : l0.length ≤ 17592186043904 := by
    obtain ⟨_, _, _, rfl, hdd⟩ := hd0
    rcases hdd with ⟨_, rfl⟩ | ⟨e, s, rfl, hle⟩
    · simp
    · have hpz := sized_part hsz (j := 0) (t := 24) rfl rfl Try.underlying24
      have this : (e.length + s.length) * Try.prog.bytesOf 3 ≤ reachBytes := sized_slice hpz (j := 2) (t := 22) (e := 3) rfl rfl Try.underlying22
      rw [bytes_int] at this
      unfold reachBytes at this
      omega
  have lt0 : ∀ x ∈ p0, x.block < W.heap.size := by obtain ⟨m, hm⟩ := h0; exact DataW.trod_lt m _ _ _ hm
  clear hA0 hval0
  refine (walk x0 y0 A0 c0 l0 a1 W bx0 by0 hb0 hk0 hcp0 hl0 (bounds_i64 w1)).mono fun e W' ⟨he, bel⟩ => ?_
  subst he
  exact ⟨_, rfl, _, _, _, [], _, [], hW', trodAll_mk1 (shut_bool Try.underlying4 _), (trodAll_cons_mk (Below.trod prog_laid (by kernel_rfl) (of_decide_eq_true (by kernel_rfl)) h0 bel lt0) (trodAll_cons_mk (shut_int Try.underlying3 w1) trodAll_mk0)), rfl, bel.frame _, fun h => by cases h⟩

theorem over : Rows.gridAllRow.holds Try.pinned (OpenSpec.ofChange Rows.gridAllSpec) :=
  OpenClaim.holds_of_wide 6 Try.f6 rfl rfl rfl rfl rfl rfl rfl ⟨rfl, rfl, rfl, rfl, rfl⟩ rfl rfl rfl rfl rfl (by kernel_rfl) Try.func6 (by kernel_rfl)
    (of_decide_eq_true (by kernel_rfl)) (by unfold Func.isWrapper; first | (rw [if_pos (by decide +kernel)]; kernel_rfl) | (rw [if_neg (by decide +kernel)]; exact ⟨rfl, rfl⟩))
    (fun os started H enc _ => lifted os started H enc)
end GridAll

theorem gridAll_holds : Rows.GridAllSaid := GridAll.over
#print axioms gridAll_holds
end Go.Proofs.Ytfjnlbjlapbilaa
