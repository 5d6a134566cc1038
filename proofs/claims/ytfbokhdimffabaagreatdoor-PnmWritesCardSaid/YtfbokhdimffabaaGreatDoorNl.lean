/- Joined texts (a claim has at most 60 files): Di Tmx Nl. -/
import Derived.Test.YtfbokhdimffabaaGreatDoorDh
import Derived.Test.YtfbokhdimffabaaGreatDoorAs
import Derived.Test.YtfbokhdimffabaaGreatDoorTma
import Derived.Lib.Hide
import Derived.Lib.Walk
import Derived.WalkKit
import Derived.WalkLawsBesides
import Derived.Handy
import Derived.Outline
import Derived.Test.YtfbokhdimffabaaGreatDoorSl
/- The program's Decode of a file of digits, walked. -/
set_option linter.unusedVariables false
set_option linter.unusedSimpArgs false
namespace Go.Proofs.YtfbokhdimffabaaGreatDoor
open Go.ChangeShapes Go.WideShapes Go.ChangeAt Go.RowKit Go.Shelf
attribute [local go_sem] Oper.semAt_some

theorem tooGreat_ok (W H M : Nat) (most : Int) (hm : mayB (W : Int) (H : Int) = true) (hM : W * H = M) (hl : (M : Int) ≤ most) (w : World) : Calls Tryz.prog 16 #[.int .i64 (W : Nat), .int .i64 (H : Nat), .int .i64 most] w fun e w' => e = .returned (.bool false) ∧ w' = w := by
  obtain ⟨_, _, _, _, b5⟩ := mayB_bd hm
  have e : (W : Int) * (H : Int) = (M : Int) := by rw [← Int.natCast_mul, hM]
  rw [e] at b5
  have HW : Hid (wrap64 ((W : Int) * (H : Int)) = (M : Int)) := Lib.hid (by rw [e]; exact IntWalk.wrap64_in _ (by omega))
  have HMY := Lib.hid (mayBe_any (W : Int) (H : Int) w)
  rw [hm] at HMY
  have i1 : ¬ (M : Int) > most := by omega
  have m1 := HW.out
  clear hm hM e b5
  go_enter Tryz.func16, Tryz.ntmps16
  go_wp2_with fail
  refine HMY.out.mono ?_
  rintro e w2 ⟨rfl, rfl⟩
  go_wp2_with fail
  go_ret
  refine ⟨?_, rfl⟩
  show Ending.returned (.bool (decide (most < (M : Int)))) = Ending.returned (.bool false)
  rw [decide_eq_false (by omega)]
/-- What a file of digits comes to. -/
def DecQ (w : World) (k tv W H N : Nat) (vals : Nat → Nat) (e : Ending) (w' : World) : Prop :=
  Below w.heap.size w w' ∧ ((¬ goodT k tv W H N vals ∧ e = .returned (.tuple #[imgV 0 0 none 0 0, .int .i64 9])) ∨
    (goodT k tv W H N vals ∧ ∃ A c, e = .returned (.tuple #[imgV W H A (pixP k tv vals N).length c, .int .i64 0]) ∧ w'.ownsRow w.heap.size 42 1 (.slice A (pixP k tv vals N).length c) (pixP k tv vals N).length (usV (pixP k tv vals N))))
set_option maxRecDepth 100000 in
set_option maxHeartbeats 8000000 in
theorem decode_text (A : Option Addr) (n c : Nat) (lf lb : List UInt8) (vs : List Nat) (most : Int) (k W H M N tv : Nat) (hn : lf.length = n) (hnc : n ≤ c) (hnm : n ≤ 4194304) (hng : noRem (manyM (kindM lf)) (behM lf)) (hhd : headM lf = some (vs, lb)) (hk : kindM lf = k) (hkt : kTx k = true) (hvW : vs.getD 0 0 = W) (hvH : vs.getD 1 0 = H) (hvt : vs.getD 2 1 = tv) (hv1 : 1 ≤ tv) (hv2 : tv ≤ 65535) (hmay : mayB (W : Int) (H : Int) = true) (hmost : ((W * H : Nat) : Int) ≤ most)
    (hM : H * W * plN k = M) (hN : N ≤ M) (hvb : ∀ j, valT (kGr k) lb j ≤ 9223372036854775807) (hgap : (gapM false lb).1 = true ∨ N = 0) (hok : ∀ j, j < N → okT (kGr k) lb j = true) (hend : N = M ∨ ((gapM false lb).1 = true → okT (kGr k) lb N = false)) (hr0 : st1 (gapM false lb).2 35 35 = false) (hrk : ∀ j, j < N → st1 (curT (kGr k) lb (j + 1)) 35 35 = false)
    (B : Nat) (w : World) (h : Bs w B A lf) (hB : B ≤ w.heap.size) :
    Calls Tryz.prog 7 #[.slice A n c, .int .i64 most] w (DecQ w k tv W H N (valT (kGr k) lb)) := by
  obtain ⟨b1, b2, b3, b4, b5⟩ := mayB_bd hmay
  have hW : W ≤ 4096 := by omega
  have hH : H ≤ 4096 := by omega
  have hWH : H * W ≤ 65536 := by rw [Nat.mul_comm]; have := b5; rw [← Int.natCast_mul] at this; omega
  have hmix : Tryz.prog.follows .mixedOrders = true := by kernel_rfl
  have HHD := Lib.hid (fun sb V (hV : Sc V B sb lf) => head_any B sb lf hng V hV)
  have HIM := Lib.hid (fun xb yb sb V hT hBV => image_any k W H M N tv xb yb sb B lb #[.bool (kTx k), .bool (kCo k), .bool (kGr k), .int .i64 (W : Nat), .int .i64 (H : Nat), .int .i64 (tv : Nat)] rfl hW hH hWH hM hN hv1 hv2 hvb hgap hok hend hr0 hrk V hT hBV)
  have HTG := Lib.hid (fun V => tooGreat_ok W H (W * H) most hmay rfl hmost V)
  have HVV := Lib.hid (And.intro hvW (And.intro hvH hvt))
  have HK := Lib.hid (And.intro hk hkt)
  have HSM := Lib.hid hhd
  have k0 := Blk.new w 26 #[.int .i64 0, .int .i64 0, .slice none 0 0]
  have u1 := (Upd.refl No w).alloc (.cells #[.int .i64 0, .int .i64 0, .slice none 0 0] 26)
  have hs1 : (w.alloc (.cells #[.int .i64 0, .int .i64 0, .slice none 0 0] 26)).heap.size = w.heap.size + 1 := World.size_alloc _ _
  have HA1 := Lib.hid (And.intro k0 (And.intro u1 (h.below (u1.fresh.mono hB))))
  have HN := Lib.hid hn
  have d1 : ¬ ((4194304 : Int) < (n : Int)) := by omega
  clear k0 u1 hng hhd hk hkt hvW hvH hvt hvb hgap hok hend hr0 hrk hmay hmost b1 b2 b3 b4 b5 hn h
  go_enter Tryz.func7, Tryz.ntmps7
  go_upto_region 3 with (fail)
  generalize w.alloc (.cells #[.int .i64 0, .int .i64 0, .slice none 0 0] 26) = w1 at *
  go_upto_region 4 with (fail)
  have u2 := (Upd.refl No w1).alloc (.cells #[.slice A n c] 46)
  have ks := Blk.new w1 46 #[.slice A n c]
  rw [hs1] at ks
  have hs2 : (w1.alloc (.cells #[.slice A n c] 46)).heap.size = w.heap.size + 2 := by rw [World.size_alloc, hs1]
  have HA2 : Hid (Blk (w1.alloc (.cells #[.slice A n c] 46)) w.heap.size 26 #[.int .i64 0, .int .i64 0, .slice none 0 0] ∧ Upd No w (w1.alloc (.cells #[.slice A n c] 46)) ∧ Sc (w1.alloc (.cells #[.slice A n c] 46)) B (w.heap.size + 1) lf) := Lib.hid ⟨HA1.out.1.upd u2 id, HA1.out.2.1.trans u2, ⟨A, c, by rw [HN.out]; exact ks, HA1.out.2.2.below (u2.fresh.mono (by omega)), by rw [HN.out]; exact hnc, by omega⟩⟩
  clear u2 ks HA1 hs1
  generalize w1.alloc (.cells #[.slice A n c] 46) = w2 at *
  go_wp2_with fail
  refine (HHD.out (w.heap.size + 1) w2 HA2.out.2.2).mono ?_
  rintro e w3 ⟨u3, (⟨hno, rfl⟩ | ⟨vs', L', hsm, rfl, sc3⟩)⟩
  · rw [HSM.out] at hno; cases hno
  rw [HSM.out] at hsm
  injection hsm with hsm
  injection hsm with hsm1 hsm2
  subst hsm1
  subst hsm2
  have hhv : hdV (kindM lf) vs = #[.bool (kTx k), .bool (kCo k), .bool (kGr k), .int .i64 (W : Nat), .int .i64 (H : Nat), .int .i64 (tv : Nat)] := by unfold hdV; rw [HK.out.1, HVV.out.1, HVV.out.2.1, HVV.out.2.2]
  have hdt : decide (vs.getD 2 1 ≤ 65535) = true := by rw [HVV.out.2.2]; exact decide_eq_true hv2
  rw [hhv, hdt, HK.out.2]
  have hs3 := u3.size
  have u4 := (Upd.refl No w3).alloc (.cells #[.bool true, .bool (kCo k), .bool (kGr k), .int .i64 (W : Nat), .int .i64 (H : Nat), .int .i64 (tv : Nat)] 50)
  have kh := Blk.new w3 50 #[.bool true, .bool (kCo k), .bool (kGr k), .int .i64 (W : Nat), .int .i64 (H : Nat), .int .i64 (tv : Nat)]
  have hs4 : (w3.alloc (.cells #[.bool true, .bool (kCo k), .bool (kGr k), .int .i64 (W : Nat), .int .i64 (H : Nat), .int .i64 (tv : Nat)] 50)).heap.size = w3.heap.size + 1 := World.size_alloc _ _
  obtain ⟨hv, hhvv⟩ : ∃ hv, w3.heap.size = hv := ⟨_, rfl⟩
  have HA4 : Hid (Upd (· = w.heap.size + 1) w (w3.alloc (.cells #[.bool true, .bool (kCo k), .bool (kGr k), .int .i64 (W : Nat), .int .i64 (H : Nat), .int .i64 (tv : Nat)] 50)) ∧ Blk (w3.alloc (.cells #[.bool true, .bool (kCo k), .bool (kGr k), .int .i64 (W : Nat), .int .i64 (H : Nat), .int .i64 (tv : Nat)] 50)) w.heap.size 26 #[.int .i64 0, .int .i64 0, .slice none 0 0] ∧ Blk (w3.alloc (.cells #[.bool true, .bool (kCo k), .bool (kGr k), .int .i64 (W : Nat), .int .i64 (H : Nat), .int .i64 (tv : Nat)] 50)) hv 50 #[.bool true, .bool (kCo k), .bool (kGr k), .int .i64 (W : Nat), .int .i64 (H : Nat), .int .i64 (tv : Nat)] ∧ Sc (w3.alloc (.cells #[.bool true, .bool (kCo k), .bool (kGr k), .int .i64 (W : Nat), .int .i64 (H : Nat), .int .i64 (tv : Nat)] 50)) B (w.heap.size + 1) lb ∧ w.heap.size + 1 < hv) := Lib.hid
    ⟨((HA2.out.2.1.mono (fun _ _ h => absurd h id)).trans u3).trans (u4.mono (fun _ _ h => absurd h id)), (HA2.out.1.upd u3 (by omega)).upd u4 id, by rw [← hhvv]; exact kh, sc3.upd u4 id (fun _ _ => id), by have := sc3.lt; omega⟩
  go_upto_region 5 with (fail)
  try rw [hhvv]
  clear u3 u4 kh sc3 HA2 HHD hs3 hhv hdt hhvv hs4
  generalize w3.alloc (.cells #[.bool true, .bool (kCo k), .bool (kGr k), .int .i64 (W : Nat), .int .i64 (H : Nat), .int .i64 (tv : Nat)] 50) = w4 at *
  have z0 : w4.cell? ⟨hv, 0, none⟩ = some (.bool true) := HA4.out.2.2.1.cell 0
  have z3 : w4.cell? ⟨hv, 3, none⟩ = some (.int .i64 (W : Nat)) := HA4.out.2.2.1.cell 3
  have z4 : w4.cell? ⟨hv, 4, none⟩ = some (.int .i64 (H : Nat)) := HA4.out.2.2.1.cell 4
  go_wp2_with fail
  refine (HTG.out w4).mono ?_
  rintro e w5 ⟨rfl, rfl⟩
  go_upto_region 10 with (fail)
  have HS0 : Hid (Blk w5.drew hv 50 #[.bool true, .bool (kCo k), .bool (kGr k), .int .i64 (W : Nat), .int .i64 (H : Nat), .int .i64 (tv : Nat)]) := Lib.hid HA4.out.2.2.1
  have HTX := Lib.hid (text_any (w.heap.size + 1) #[.bool true, .bool (kCo k), .bool (kGr k), .int .i64 (W : Nat), .int .i64 (H : Nat), .int .i64 (tv : Nat)] true (kCo k) (kGr k) (W : Nat) (H : Nat) (tv : Nat) rfl w5.drew)
  have HIMG : Hid (∀ w7, w7 = (w5.drew.alloc (.cells #[.pointer (some ⟨w.heap.size + 1, 0, none⟩)] 44)).alloc (.cells #[.bool true, .bool (kCo k), .bool (kGr k), .int .i64 (W : Nat), .int .i64 (H : Nat), .int .i64 (tv : Nat)] 50) → Blk w7 hv 50 #[.bool true, .bool (kCo k), .bool (kGr k), .int .i64 (W : Nat), .int .i64 (H : Nat), .int .i64 (tv : Nat)] ∧ Calls Tryz.prog 17 #[.agg #[.bool true, .bool (kCo k), .bool (kGr k), .int .i64 (W : Nat), .int .i64 (H : Nat), .int .i64 (tv : Nat)], .func (.func 41) #[] #[.pointer (some ⟨w5.heap.size, 0, none⟩), .pointer (some ⟨w5.heap.size + 1, 0, none⟩)]] w7 fun e w8 => ∃ a b As ns cs er, e = .returned (.tuple #[.agg #[.int .i64 a, .int .i64 b, .slice As ns cs], .int .i64 er]) ∧ Blk w8 hv 50 #[.bool true, .bool (kCo k), .bool (kGr k), .int .i64 (W : Nat), .int .i64 (H : Nat), .int .i64 (tv : Nat)] ∧ Blk w8 w.heap.size 26 #[.int .i64 0, .int .i64 0, .slice none 0 0] ∧
      (∀ w9, Upd (· = w.heap.size) w8 w9 → DecQ w k tv W H N (valT (kGr k) lb) (.returned (.tuple #[.agg #[.int .i64 a, .int .i64 b, .slice As ns cs], .int .i64 er])) w9)) := Lib.hid (by
    intro w7 h7
    obtain ⟨a1, a2, a3, a4, a5⟩ := HA4.out
    have ud : Upd No w5 w5.drew := (Upd.refl No w5).drew
    have u7 : Upd No w5 w7 := by rw [h7]; exact (ud.alloc _).alloc _
    have x7 : Blk w7 w5.heap.size 44 #[.pointer (some ⟨w.heap.size + 1, 0, none⟩)] := by rw [h7]; exact (Blk.new w5.drew _ _).alloc _
    have y7 : Blk w7 (w5.heap.size + 1) 50 #[.bool true, .bool (kCo k), .bool (kGr k), .int .i64 (W : Nat), .int .i64 (H : Nat), .int .i64 (tv : Nat)] := by
      have := Blk.new (w5.drew.alloc (.cells #[.pointer (some ⟨w.heap.size + 1, 0, none⟩)] 44)) 50 #[.bool true, .bool (kCo k), .bool (kGr k), .int .i64 (W : Nat), .int .i64 (H : Nat), .int .i64 (tv : Nat)]
      rw [World.size_alloc] at this
      rw [h7]; exact this
    have hsl := a4.lt
    have huw : w.heap.size ≤ w7.heap.size := Nat.le_trans a1.size u7.size
    refine ⟨a3.upd u7 id, ?_⟩
    have hI := HIM.out w5.heap.size (w5.heap.size + 1) (w.heap.size + 1) w7 ⟨x7, by rw [HK.out.2]; exact y7, a4.upd u7 id (fun _ _ => id), trivial⟩ (Nat.le_trans hB huw)
    rw [HK.out.2] at hI
    refine hI.mono ?_
    rintro e w8 ⟨u8, hq⟩
    have u78 : Upd (· = w.heap.size + 1) w w8 := (a1.trans (u7.mono (fun _ _ h => absurd h id))).trans u8
    have hk8 := (a3.upd u7 id).upd u8 (by omega)
    have hr8 := (a2.upd u7 id).upd u8 (by omega)
    have hbel : ∀ w9, Upd (· = w.heap.size) w8 w9 → Below w.heap.size w w9 := fun w9 u9 => (u78.below (Nat.le_refl _) (fun j hj e => by omega)).trans (u9.below u78.size (fun j hj e => by omega))
    rcases hq with ⟨hg, rfl⟩ | ⟨hg, A', c', rfl, ho⟩
    · exact ⟨0, 0, none, 0, 0, 9, rfl, hk8, hr8, fun w9 u9 => ⟨hbel w9 u9, .inl ⟨hg, rfl⟩⟩⟩
    · exact ⟨W, H, A', _, c', 0, rfl, hk8, hr8, fun w9 u9 => ⟨hbel w9 u9, .inr ⟨hg, A', c', rfl, own_low (own_upd ho u9 (fun g hg e => by have := ho.lt g hg; have := u7.size; omega)) huw⟩⟩⟩)
  clear z0 z3 z4 HA4 HIM HTG HVV
  refine wp_region_held_drew (S := fun V => Blk V hv 50 #[.bool true, .bool (kCo k), .bool (kGr k), .int .i64 (W : Nat), .int .i64 (H : Nat), .int .i64 (tv : Nat)]) hmix HS0.out (fun _ => ?_)
  refine' wpAnyH_take (i := 0) (oi := _) (v := .agg #[.bool true, .bool (kCo k), .bool (kGr k), .int .i64 (W : Nat), .int .i64 (H : Nat), .int .i64 (tv : Nat)]) ?hiq0 ?hsq0 ?hfq0 ?hrq0 ?hQq0 (Or.inl ⟨?hwq0, ?hyq0⟩) HS0.out ?restq0
  case hiq0 => (simp only [List.getElem?_toArray, List.getElem?_cons_succ, List.getElem?_cons_zero]; rfl)
  case hsq0 => kernel_rfl
  case hfq0 => kernel_rfl
  case hrq0 => kernel_rfl
  case hQq0 => (intro _ _ _ h; exact h)
  case hwq0 => rfl
  case hyq0 =>
    intro wz z
    have y0 := z.cell 0
    have y1 := z.cell 1
    have y2 := z.cell 2
    have y3 := z.cell 3
    have y4 := z.cell 4
    have y5 := z.cell 5
    go_simp
  (try simp only [Act.put, List.setIfInBounds_toArray, List.set_cons_zero, List.set_cons_succ])
  refine' wpAnyH_take (i := 1) (oi := _) (v := .pointer (some ⟨w.heap.size + 1, 0, none⟩)) ?hiq1 ?hsq1 ?hfq1 ?hrq1 ?hQq1 (Or.inl ⟨?hwq1, ?hyq1⟩) HS0.out ?restq1
  case hiq1 => (simp only [List.getElem?_toArray, List.getElem?_cons_succ, List.getElem?_cons_zero]; rfl)
  case hsq1 => kernel_rfl
  case hfq1 => kernel_rfl
  case hrq1 => kernel_rfl
  case hQq1 => (intro _ _ _ h; exact h)
  case hwq1 => rfl
  case hyq1 =>
    intro wz z
    go_simp
  (try simp only [Act.put, List.setIfInBounds_toArray, List.set_cons_zero, List.set_cons_succ])
  refine' wpAnyH_take (i := 2) (oi := _) (v := .agg #[.bool true, .bool (kCo k), .bool (kGr k), .int .i64 (W : Nat), .int .i64 (H : Nat), .int .i64 (tv : Nat)]) ?hiq2 ?hsq2 ?hfq2 ?hrq2 ?hQq2 (Or.inl ⟨?hwq2, ?hyq2⟩) HS0.out ?restq2
  case hiq2 => (simp only [List.getElem?_toArray, List.getElem?_cons_succ, List.getElem?_cons_zero]; rfl)
  case hsq2 => kernel_rfl
  case hfq2 => kernel_rfl
  case hrq2 => kernel_rfl
  case hQq2 => (intro _ _ _ h; exact h)
  case hwq2 => rfl
  case hyq2 =>
    intro wz z
    have y0 := z.cell 0
    have y1 := z.cell 1
    have y2 := z.cell 2
    have y3 := z.cell 3
    have y4 := z.cell 4
    have y5 := z.cell 5
    go_simp
  (try simp only [Act.put, List.setIfInBounds_toArray, List.set_cons_zero, List.set_cons_succ])
  refine wpAnyH_ready (rs := [3]) (by kernel_rfl) (by simp) ?_
  refine' AllReadyH.cons (o := _) ?ho3q (fun K hK => ?s3q) ?m3q
  case ho3q => (simp only [List.getElem?_toArray, List.getElem?_cons_succ, List.getElem?_cons_zero]; rfl)
  case m3q => exact AllReadyH.nil
  case s3q =>
  go_simp
  refine HTX.out.mono ?_
  rintro e w7 ⟨rfl, h7⟩
  obtain ⟨hS7, hI7⟩ := HIMG.out w7 h7
  have HS7 := Lib.hid hS7
  have HI7 := Lib.hid hI7
  clear hS7 hI7 h7 HTX HIMG
  try go_simp
  refine hK.out _ _ HS7.out (fun _ => ?_)
  clear hK K
  (try simp only [Act.put, List.setIfInBounds_toArray, List.set_cons_zero, List.set_cons_succ])
  refine wpAnyH_ready (rs := [4]) (by kernel_rfl) (by simp) ?_
  refine' AllReadyH.cons (o := _) ?ho4q (fun K hK => ?s4q) ?m4q
  case ho4q => (simp only [List.getElem?_toArray, List.getElem?_cons_succ, List.getElem?_cons_zero]; rfl)
  case m4q => exact AllReadyH.nil
  case s4q =>
  go_simp
  refine HI7.out.mono ?_
  rintro e w8 ⟨a, b, As, ns, cs, er, rfl, hS8, hr8, hq8⟩
  have HS8 := Lib.hid hS8
  have HR8 := Lib.hid hr8
  have HQ8 := Lib.hid hq8
  clear hS8 hr8 hq8 HI7 HS7
  try go_simp
  refine hK.out _ _ HS8.out (fun _ => ?_)
  clear hK K
  (try simp only [Act.put, List.setIfInBounds_toArray, List.set_cons_zero, List.set_cons_succ])
  refine' wpAnyH_take (i := 5) (oi := _) (v := .agg #[.int .i64 a, .int .i64 b, .slice As ns cs]) ?hiq5 ?hsq5 ?hfq5 ?hrq5 ?hQq5 (Or.inl ⟨?hwq5, ?hyq5⟩) HS8.out ?restq5
  case hiq5 => (simp only [List.getElem?_toArray, List.getElem?_cons_succ, List.getElem?_cons_zero]; rfl)
  case hsq5 => kernel_rfl
  case hfq5 => kernel_rfl
  case hrq5 => kernel_rfl
  case hQq5 => (intro _ _ _ h; exact h)
  case hwq5 => rfl
  case hyq5 =>
    intro wz z
    go_simp
  (try simp only [Act.put, List.setIfInBounds_toArray, List.set_cons_zero, List.set_cons_succ])
  refine' wpAnyH_take (i := 6) (oi := _) (v := .int .i64 er) ?hiq6 ?hsq6 ?hfq6 ?hrq6 ?hQq6 (Or.inl ⟨?hwq6, ?hyq6⟩) HS8.out ?restq6
  case hiq6 => (simp only [List.getElem?_toArray, List.getElem?_cons_succ, List.getElem?_cons_zero]; rfl)
  case hsq6 => kernel_rfl
  case hfq6 => kernel_rfl
  case hrq6 => kernel_rfl
  case hQq6 => (intro _ _ _ h; exact h)
  case hwq6 => rfl
  case hyq6 =>
    intro wz z
    go_simp
  (try simp only [Act.put, List.setIfInBounds_toArray, List.set_cons_zero, List.set_cons_succ])
  refine wpAnyH_ready (rs := [7]) (by kernel_rfl) (by simp) ?_
  refine' AllReadyH.cons (o := _) ?ho7q (fun K hK => ?s7q) ?m7q
  case ho7q => (simp only [List.getElem?_toArray, List.getElem?_cons_succ, List.getElem?_cons_zero]; rfl)
  case m7q => exact AllReadyH.nil
  case s7q =>
  have x0 := HR8.out.cell 0; have x1 := HR8.out.cell 1; have x2 := HR8.out.cell 2
  have f0 := HR8.out.frozen 0; have f1 := HR8.out.frozen 1; have f2 := HR8.out.frozen 2
  go_simp
  obtain ⟨i1, _, i3⟩ := (IB.of HR8.out).put (.int .i64 a) (.int .i64 b) (.slice As ns cs) w.heap.size (Nat.le_refl _)
  have hS9 : Blk (((w8.setCell ⟨w.heap.size, 0, none⟩ (.int .i64 a)).setCell ⟨w.heap.size, 1, none⟩ (.int .i64 b)).setCell ⟨w.heap.size, 2, none⟩ (.slice As ns cs)) hv 50 #[.bool true, .bool (kCo k), .bool (kGr k), .int .i64 (W : Nat), .int .i64 (H : Nat), .int .i64 (tv : Nat)] := HS8.out.upd i3 (fun e => (HS8.out.ne_ HR8.out (by decide)) e)
  have HS9 := Lib.hid hS9
  have HF9 := Lib.hid (And.intro i1.blk (HQ8.out _ i3))
  clear i1 i3 hS9 HQ8 HR8 HS8 x0 x1 x2 f0 f1 f2
  generalize ((w8.setCell ⟨w.heap.size, 0, none⟩ (.int .i64 a)).setCell ⟨w.heap.size, 1, none⟩ (.int .i64 b)).setCell ⟨w.heap.size, 2, none⟩ (.slice As ns cs) = w9 at *
  refine hK.out _ _ HS9.out (fun _ => ?_)
  clear hK K
  (try simp only [Act.put, List.setIfInBounds_toArray, List.set_cons_zero, List.set_cons_succ])
  refine' wpAnyH_take (i := 8) (oi := _) (v := .int .i64 er) ?hiq8 ?hsq8 ?hfq8 ?hrq8 ?hQq8 (Or.inl ⟨?hwq8, ?hyq8⟩) HS9.out ?restq8
  case hiq8 => (simp only [List.getElem?_toArray, List.getElem?_cons_succ, List.getElem?_cons_zero]; rfl)
  case hsq8 => kernel_rfl
  case hfq8 => kernel_rfl
  case hrq8 => kernel_rfl
  case hQq8 => (intro _ _ _ h; exact h)
  case hwq8 => rfl
  case hyq8 =>
    intro wz z
    go_simp
  (try simp only [Act.put, List.setIfInBounds_toArray, List.set_cons_zero, List.set_cons_succ])
  refine wpAnyH_done (by kernel_rfl) ?_ _
  go_wp2_with fail
  have x0 := HF9.out.1.cell 0; have x1 := HF9.out.1.cell 1; have x2 := HF9.out.1.cell 2
  refine bodyPost_ret (v := .tuple #[.agg #[.int .i64 a, .int .i64 b, .slice As ns cs], .int .i64 er]) (by simp [results, Tryz.results7, go_sem, x0, x1, x2]) rfl HF9.out.2
end Go.Proofs.YtfbokhdimffabaaGreatDoor

/- The weights' sums of the program, walked. -/
namespace Go.Proofs.YtfbokhdimffabaaGreatDoor
open Go.ChangeShapes Go.WideShapes Go.ChangeAt Go.RowKit

set_option maxRecDepth 100000 in
set_option maxHeartbeats 1000000 in
theorem mix0_any (a b c : Int) (ha : -65535 ≤ a ∧ a ≤ 65535) (hb : -65535 ≤ b ∧ b ≤ 65535) (hc : -65535 ≤ c ∧ c ≤ 65535) (w : World) :
    Calls Tryz.prog 109 #[.int .i64 0, .int .i64 a, .int .i64 b, .int .i64 c] w fun e w' => ∃ z, e = .returned (.int .i64 z) ∧ z = (19595 * a + 38470 * b + 7471 * c + 32768) / 65536 ∧ Below w.heap.size w w' := by
  go_enter Tryz.func109, Tryz.ntmps109
  go_wp2_with fail
  go_ret
  exact ⟨_, rfl, by omega, ((Below.refl _ w).alloc (Nat.le_refl _) _).alloc (by simp) _⟩
end Go.Proofs.YtfbokhdimffabaaGreatDoor

/- Greys: the program's and the document's (as tones Tmc, without the rest). -/
set_option linter.unusedVariables false
set_option linter.unusedSimpArgs false
namespace Go.Proofs.YtfbokhdimffabaaGreatDoor
open Go.ChangeShapes Go.WideShapes Go.ChangeAt Go.RowKit

set_option maxRecDepth 100000 in
theorem luma_any (r g b a : Int) (hr : 0 ≤ r ∧ r ≤ 65535) (hg : 0 ≤ g ∧ g ≤ 65535) (hb : 0 ≤ b ∧ b ≤ 65535) (w : World) :
    Calls Tryz.prog 97 #[.agg #[.int .u16 r, .int .u16 g, .int .u16 b, .int .u16 a]] w fun e w' => e = .returned (.int .u16 (lumS r g b)) ∧ Below w.heap.size w w' := by
  go_enter Tryz.func97, Tryz.ntmps97
  go_wp2_with fail
  have hb0 := (Below.refl w.heap.size w).alloc (Nat.le_refl _) (.cells #[.int .u16 r, .int .u16 g, .int .u16 b, .int .u16 a] 70)
  generalize w.alloc (.cells #[.int .u16 r, .int .u16 g, .int .u16 b, .int .u16 a] 70) = W0 at *
  refine (mix0_any r g b (by omega) (by omega) (by omega) W0).mono ?_
  rintro e w1 ⟨z, rfl, hz, hb1⟩
  have hz2 : 0 ≤ z ∧ z ≤ 65535 := by omega
  have HZ : Hid (lumS r g b = z) := Lib.hid (by unfold lumS; exact hz.symm)
  have HB := Lib.hid (hb0.trans (hb1.mono hb0.size))
  clear hz hb0 hb1
  go_wp2_with fail
  go_ret
  exact ⟨by rw [HZ.out]; rfl, HB.out⟩
set_option maxRecDepth 100000 in
theorem refLuma_any (r g b a : Int) (hr : 0 ≤ r ∧ r ≤ 65535) (hg : 0 ≤ g ∧ g ≤ 65535) (hb : 0 ≤ b ∧ b ≤ 65535) (w : World) :
    Calls Tryz.prog 86 #[.agg #[.int .u16 r, .int .u16 g, .int .u16 b, .int .u16 a]] w fun e w' => e = .returned (.int .u16 (lumS r g b)) ∧ Below w.heap.size w w' := by
  go_enter Tryz.func86, Tryz.ntmps86
  have e1 : (19595 * r + 38470 * g + 7471 * b + 32768).tdiv 65536 = (19595 * r + 38470 * g + 7471 * b + 32768) / 65536 := Int.tdiv_eq_ediv_of_nonneg (by omega)
  go_wp2_with fail
  go_ret
  exact ⟨rfl, (Below.refl _ _).alloc (Nat.le_refl _) _⟩
end Go.Proofs.YtfbokhdimffabaaGreatDoor
