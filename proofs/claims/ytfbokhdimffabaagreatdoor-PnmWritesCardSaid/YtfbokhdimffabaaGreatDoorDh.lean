/- The program's image of samples in digits, walked. -/
import Derived.Test.YtfbokhdimffabaaGreatDoorDg
set_option linter.unusedVariables false
set_option linter.unusedSimpArgs false
namespace Go.Proofs.YtfbokhdimffabaaGreatDoor
open Go.ChangeShapes Go.WideShapes Go.ChangeAt Go.RowKit Go.Shelf
attribute [local go_sem] Oper.semAt_some

/-- Whether samples make an image. -/
def goodT (k tv W H N : Nat) (vals : Nat → Nat) : Prop := (∀ j, j < N → vals j ≤ tv) ∧ 4 * W * H ≤ (pixP k tv vals N).length
def ImgQ (w : World) (sb k tv W H N : Nat) (vals : Nat → Nat) (e : Ending) (w' : World) : Prop :=
  Upd (· = sb) w w' ∧ ((¬ goodT k tv W H N vals ∧ e = .returned (.tuple #[imgV 0 0 none 0 0, .int .i64 9])) ∨
    (goodT k tv W H N vals ∧ ∃ A c, e = .returned (.tuple #[imgV W H A (pixP k tv vals N).length c, .int .i64 0]) ∧ w'.ownsRow w.heap.size 42 1 (.slice A (pixP k tv vals N).length c) (pixP k tv vals N).length (usV (pixP k tv vals N))))
theorem TxI.put {xb yb sb B : Nat} {hd : Array Value} {C C' : World → Prop} {L : List UInt8} {V : World} (h : TxI xb yb sb B hd C L V) {ll : Nat} {o : Obj} (hll : B ≤ ll) (ho : V.heap[ll]? = some o) (hoc : o.isCells = false) (o' : Obj) (hC : C' (V.putObj ll o')) : TxI xb yb sb B hd C' L (V.putObj ll o') := by
  have u := upd_putObj (S := (· = ll)) V ll o' rfl
  obtain ⟨_, _, ks, _⟩ := h.sc
  exact ⟨h.xk.upd u (blk_ne_obj h.xk ho hoc), h.yk.upd u (blk_ne_obj h.yk ho hoc), h.sc.upd u (blk_ne_obj ks ho hoc) (fun k hk e => by omega), hC⟩
theorem TxI.more {xb yb sb B b0 : Nat} {hd : Array Value} {C C' : World → Prop} {L : List UInt8} {V V' : World} (h : TxI xb yb sb B hd C L V) (hx : xb < b0) (hy : yb < b0) (hs : sb < b0) (hB : B ≤ b0) (u : Upd (fun k => b0 ≤ k) V V') (hC : C' V') : TxI xb yb sb B hd C' L V' :=
  ⟨h.xk.upd u (by omega), h.yk.upd u (by omega), h.sc.upd u (by omega) (fun k hk => by omega), hC⟩
set_option maxRecDepth 100000 in
set_option maxHeartbeats 8000000 in
theorem image_any (k W H M N tv xb yb sb B : Nat) (lb : List UInt8) (hd : Array Value) (hhd : hd = #[.bool (kTx k), .bool (kCo k), .bool (kGr k), .int .i64 (W : Nat), .int .i64 (H : Nat), .int .i64 (tv : Nat)]) (hW : W ≤ 4096) (hH : H ≤ 4096) (hWH : H * W ≤ 65536) (hM : H * W * plN k = M) (hN : N ≤ M) (hv1 : 1 ≤ tv) (hv2 : tv ≤ 65535) (hvb : ∀ j, valT (kGr k) lb j ≤ 9223372036854775807)
    (hgap : (gapM false lb).1 = true ∨ N = 0) (hok : ∀ j, j < N → okT (kGr k) lb j = true) (hend : N = M ∨ ((gapM false lb).1 = true → okT (kGr k) lb N = false)) (hr0 : st1 (gapM false lb).2 35 35 = false) (hrk : ∀ j, j < N → st1 (curT (kGr k) lb (j + 1)) 35 35 = false)
    (w : World) (h : TxI xb yb sb B hd (fun _ => True) lb w) (hB : B ≤ w.heap.size) :
    Calls Tryz.prog 17 #[.agg hd, .func (.func 41) #[] #[.pointer (some ⟨xb, 0, none⟩), .pointer (some ⟨yb, 0, none⟩)]] w (ImgQ w sb k tv W H N (valT (kGr k) lb)) := by
  have hxl := h.xk.lt
  have hyl := h.yk.lt
  have hsl := h.sc.lt
  obtain ⟨bel, hsz, k0, k1, k2⟩ := boxes3 w hd #[.int .i64 0, .int .i64 0, .slice none 0 0] #[.int .i64 0] 50 26 27
  have hmix : Tryz.prog.follows .mixedOrders = true := by kernel_rfl
  have h1 : TxI xb yb sb B hd (fun _ => True) lb (((w.alloc (.cells hd 50)).alloc (.cells #[.int .i64 0, .int .i64 0, .slice none 0 0] 26)).alloc (.cells #[.int .i64 0] 27)) := h.more hxl hyl hsl hB (Upd.of_below bel) trivial
  have HHD := Lib.hid hhd
  clear hhd
  refine (callsIn_wide (n := 3)).1 ?_
  refine callsIn_of_wp_marks Tryz.func17 rfl trivial ?_ rfl
  simp only [Tryz.ntmps17, List.size_toArray, List.length_cons, List.length_nil, Nat.reduceAdd, Nat.reduceSub, Array.replicate_succ, Array.replicate_zero, List.push_toArray, List.append_toArray, List.nil_append, List.cons_append]
  refine wpIn_wide.2 ?_
  go_upto_region 1 with (fail)
  have HK := Lib.hid (And.intro k0 (And.intro k1 (And.intro k2 (And.intro h1 bel))))
  generalize ((w.alloc (.cells hd 50)).alloc (.cells #[.int .i64 0, .int .i64 0, .slice none 0 0] 26)).alloc (.cells #[.int .i64 0] 27) = w1 at *
  rw [HHD.out] at k0
  have c0 := k0.cell 0; have c1 := k0.cell 1; have c2 := k0.cell 2; have c3 := k0.cell 3; have c4 := k0.cell 4; have c5 := k0.cell 5
  have m1 : IntKind.i64.wrap (4 * (W : Int) * (H : Int)) = ((4 * W * H : Nat) : Int) := by
    rw [show (4 * (W : Int) * (H : Int)) = ((4 * W * H : Nat) : Int) by simp]
    have : 4 * W * H = 4 * (H * W) := by rw [Nat.mul_assoc, Nat.mul_comm W H]
    exact IntWalk.i64_in _ (by omega)
  obtain ⟨Q4, hQ4⟩ : ∃ Q4, 4 * W * H = Q4 := ⟨_, rfl⟩
  have hq9 : Q4 ≤ 262144 := by rw [← hQ4, Nat.mul_assoc, Nat.mul_comm W H]; omega
  rw [hQ4] at m1
  obtain ⟨i0, hi, hz0, hz1, hz2⟩ := info_parts info_u16
  have bel' := bel
  clear k1 k2 h1 bel h
  go_wp2_with (at_make; refine wpList_make_own _ rfl (.const (.int .i64 0)) (.tmp 17) 24 rfl w1.heap.size 42 i0 (.int .u16 0) 1 Tryz.underlying24 hi hz0 hz1 .i64 .i64 _ Q4 rfl rfl rfl (by rw [hz2]; omega) (by unfold maxLen; omega) (Nat.le_refl _) ?_; intro w3 hown3 hg3)
  have HA3 : Hid (TxI xb yb sb B hd (fun _ => True) lb w3 ∧ Blk w3 w.heap.size 50 hd ∧ Blk w3 (w.heap.size + 1) 26 #[.int .i64 0, .int .i64 0, .slice none 0 0] ∧ Blk w3 (w.heap.size + 1 + 1) 27 #[.int .i64 0] ∧ Upd No w w3 ∧ w3.ownsRow w.heap.size 42 1 (.slice (some ⟨w1.heap.size, 0, none⟩) 0 Q4) 0 (usV []) ∧ w.heap.size + 1 + 1 < w3.heap.size) := Lib.hid (by
    obtain ⟨g0, g1, g2, g3, g4⟩ := HK.out
    have u3 : Upd No w1 w3 := (Upd.of_grown hg3).mono (fun _ _ e => by cases e)
    have uw : Upd No w w1 := Upd.of_fresh bel'
    refine ⟨g3.more (b0 := w.heap.size) hxl hyl hsl hB (u3.mono (fun _ _ h => absurd h id)) trivial, g0.upd u3 id, g1.upd u3 id, g2.upd u3 id, uw.trans u3, own_low hown3 (by omega), by have := u3.size; omega⟩)
  obtain ⟨pb, hpb⟩ : ∃ pb, w3.heap.size = pb := ⟨_, rfl⟩
  have HST : Hid (TxI xb yb sb B hd (fun V => ImI w sb hd (w.heap.size + 1) (w.heap.size + 1 + 1) pb [] V) lb (w3.alloc (.cells #[.slice (some ⟨w.heap.size + 1 + 1 + 1, 0, none⟩) 0 Q4] 24)) ∧ w.heap.size + 1 + 1 < pb ∧ (w3.alloc (.cells #[.slice (some ⟨w.heap.size + 1 + 1 + 1, 0, none⟩) 0 Q4] 24)).heap.size = pb + 1) := Lib.hid (by
    obtain ⟨g1, g2, g3, g4, g5, g6, g7⟩ := HA3.out
    rw [hsz] at g6
    have u4 := (Upd.refl No w3).alloc (.cells #[.slice (some ⟨w.heap.size + 1 + 1 + 1, 0, none⟩) 0 Q4] 24)
    refine ⟨g1.more (b0 := w.heap.size) hxl hyl hsl hB (u4.mono (fun _ _ h => absurd h id)) ?_, by omega, by rw [World.size_alloc, hpb]⟩
    exact ⟨(g5.trans u4).mono (fun _ _ h => absurd h id), g2.upd u4 id, g3.upd u4 id, g4.upd u4 id, ⟨_, Q4, by rw [← hpb]; exact Blk.new w3 _ _, own_upd g6 u4 (fun _ _ => id)⟩, by omega, by omega, by omega⟩)
  rw [hpb]
  clear HA3 hown3 hg3 HK hi hz0 hz1 hz2 c0 c1 c2 c3 c4 c5 m1 k0 bel' hpb hsz
  generalize w3.alloc (.cells #[.slice (some ⟨w.heap.size + 1 + 1 + 1, 0, none⟩) 0 Q4] 24) = w4 at *
  obtain ⟨ib, hib⟩ : ∃ ib, w.heap.size + 1 = ib := ⟨_, rfl⟩
  rw [hib] at HST
  rw [hib]
  obtain ⟨eb, heb⟩ : ∃ eb, ib + 1 = eb := ⟨_, rfl⟩
  rw [heb] at HST
  rw [heb]
  obtain ⟨vals, hvals⟩ : ∃ vals, valT (kGr k) lb = vals := ⟨_, rfl⟩
  rw [hvals] at hvb
  rw [hvals]
  have HVL := Lib.hid hvals
  clear hvals
  have hpb9 := HST.out.2.1
  have hw49 := HST.out.2.2
  refine wpIn_wide.1 (wpIn_range_pp (α := Nat) (F := Fence.wide) (n := 3) rfl (by omega) (gf := 41) (lb := #[.pointer (some ⟨xb, 0, none⟩), .pointer (some ⟨yb, 0, none⟩)]) rfl trivial (enters_of Tryz.func41 (by kernel_rfl) rfl) (fun j => #[.int .i64 (vals j : Nat)])
    (fun V => TxI xb yb sb B hd (fun V => ImI w sb hd ib eb pb (pixP k tv vals 0) V ∧ ∀ i, i < 0 → vals i ≤ tv) lb V)
    (fun V => ImI w sb hd ib eb pb (pixP k tv vals N) V ∧ ∀ i, i < N → vals i ≤ tv)
    (fun j V => j < N ∧ TxI xb yb sb B hd (fun V => ImI w sb hd ib eb pb (pixP k tv vals j) V ∧ ∀ i, i < j → vals i ≤ tv) (resT (kGr k) lb j) V)
    (fun j V => j < N ∧ TxI xb yb sb B hd (fun V => ImI w sb hd ib eb pb (pixP k tv vals (j + 1)) V ∧ ∀ i, i < j + 1 → vals i ≤ tv) (resT (kGr k) lb j) V)
    (fun c V => c = .ret ∧ Blk V ib 26 #[.int .i64 0, .int .i64 0, .slice none 0 0] ∧ Blk V eb 27 #[.int .i64 9] ∧ Upd (· = sb) w V ∧ ∃ j, j < N ∧ tv < vals j)
    ?seq (fun _ => rfl) ?ia ?fp ?ep ?pp ?xp ?start ?a1 ?assign ?body ?done ?stop)
  case seq =>
    intro ll R Jx V hRK hY h0 hR
    have := text1_in (3 - 1) (by omega) ll xb yb sb B k W H M N (kTx k) (tv : Nat) lb hW hH hWH hM hN hgap hok hend hr0 hrk (fun j V => ImI w sb hd ib eb pb (pixP k tv vals j) V ∧ ∀ i, i < j → vals i ≤ tv) R Jx
      (fun j V V' hc u => ⟨hc.1.upd hsl u (fun k e => .inl e), hc.2⟩) hRK (fun j V hj hR hT => by
        rw [← HHD.out] at hT ⊢
        rw [HVL.out]
        have := hY j V hR ⟨hj, hT⟩
        obtain ⟨fn, tmps, assign, body, hy, hRd⟩ := this
        refine ⟨fn, tmps, assign, body, hy, hRd.mono ?_⟩
        rintro e V' (⟨rfl, ⟨_, h2⟩, h3⟩ | ⟨rfl, h2⟩)
        · exact .inl ⟨rfl, h2, h3⟩
        · exact .inr ⟨rfl, h2⟩) V (by rw [← HHD.out]; exact h0) hR
    exact this
  case ia => rintro V o h; exact h.more (b0 := w.heap.size) hxl hyl hsl hB (((Upd.refl No V).alloc o).mono (fun _ _ h => absurd h id)) ⟨h.c.1.upd hsl ((Upd.refl No V).alloc o) (fun k e => absurd e id), h.c.2⟩
  case fp => rintro V ll o o' hll ho hoc h; exact ⟨h.1.put hsl (by omega) ho hoc o', h.2⟩
  case ep => rintro j V ll o o' hll ho hoc ⟨hj, h⟩; exact ⟨hj, h.put (by omega) ho hoc o' ⟨h.c.1.put hsl (by omega) ho hoc o', h.c.2⟩⟩
  case pp => rintro j V ll o o' hll ho hoc ⟨hj, h⟩; exact ⟨hj, h.put (by omega) ho hoc o' ⟨h.c.1.put hsl (by omega) ho hoc o', h.c.2⟩⟩
  case xp =>
    rintro c V ll o o' hll ho hoc ⟨h1, h2, h3, h4, h5⟩
    have u := upd_putObj (S := (· = ll)) V ll o' rfl
    exact ⟨h1, h2.upd u (blk_ne_obj h2 ho hoc), h3.upd u (blk_ne_obj h3 ho hoc), h4.then u (fun i hi e => by omega), h5⟩
  case start => exact HST.out.1.more (b0 := w.heap.size) hxl hyl hsl hB ((Upd.refl No w4).mono (fun _ _ h => absurd h id)) ⟨HST.out.1.c, fun i hi => by omega⟩
  case assign =>
    intro ll x V K hK
    have HK := Lib.hid hK
    clear hK
    gi_wp2
    exact HK.out
  case body =>
    rintro ll j V ⟨hj, hT⟩
    have hkk := hT.c.1.hk
    rw [HHD.out] at hkk
    have c0 : V.cell? ⟨w.heap.size, 0, none⟩ = some (.bool (kTx k)) := hkk.cell 0
    have c1 : V.cell? ⟨w.heap.size, 1, none⟩ = some (.bool (kCo k)) := hkk.cell 1
    have c2 : V.cell? ⟨w.heap.size, 2, none⟩ = some (.bool (kGr k)) := hkk.cell 2
    have c5 : V.cell? ⟨w.heap.size, 5, none⟩ = some (.int .i64 (tv : Nat)) := hkk.cell 5
    have y0 := hT.c.1.ik.cell 0; have y1 := hT.c.1.ik.cell 1; have y2 := hT.c.1.ik.cell 2
    have f0 := hT.c.1.ik.frozen 0; have f1 := hT.c.1.ik.frozen 1; have f2 := hT.c.1.ik.frozen 2
    have e0 := hT.c.1.ek.cell 0; have ef := hT.c.1.ek.frozen 0
    have hlo := hT.c.1.lo
    have hvj := hvb j
    have HUP := Lib.hid (up_any (vals j : Nat) (tv : Nat) ⟨by omega, by omega⟩ ⟨by omega, by omega⟩ V)
    obtain ⟨i1, _, i3⟩ := (IB.of hT.c.1.ik).put (.int .i64 0) (.int .i64 0) (.slice none 0 0) w.heap.size (by omega)
    have ek1 := hT.c.1.ek.upd i3 (by omega)
    have x7 : (((V.setCell ⟨ib, 0, none⟩ (.int .i64 0)).setCell ⟨ib, 1, none⟩ (.int .i64 0)).setCell ⟨ib, 2, none⟩ (.slice none 0 0)).cell? ⟨eb, 0, none⟩ = some (.int .i64 0) := ek1.cell 0
    have us : Upd (· = eb) (((V.setCell ⟨ib, 0, none⟩ (.int .i64 0)).setCell ⟨ib, 1, none⟩ (.int .i64 0)).setCell ⟨ib, 2, none⟩ (.slice none 0 0)) ((((V.setCell ⟨ib, 0, none⟩ (.int .i64 0)).setCell ⟨ib, 1, none⟩ (.int .i64 0)).setCell ⟨ib, 2, none⟩ (.slice none 0 0)).setCell ⟨eb, 0, none⟩ (.int .i64 9)) := (Upd.refl (· = eb) _).setCell (fun _ => rfl) _
    have HBAD : Hid (tv < vals j → KeepsOthers V ((((V.setCell ⟨ib, 0, none⟩ (.int .i64 0)).setCell ⟨ib, 1, none⟩ (.int .i64 0)).setCell ⟨ib, 2, none⟩ (.slice none 0 0)).setCell ⟨eb, 0, none⟩ (.int .i64 9)) ∧ (Code.ret = .ret ∧ Blk ((((V.setCell ⟨ib, 0, none⟩ (.int .i64 0)).setCell ⟨ib, 1, none⟩ (.int .i64 0)).setCell ⟨ib, 2, none⟩ (.slice none 0 0)).setCell ⟨eb, 0, none⟩ (.int .i64 9)) ib 26 #[.int .i64 0, .int .i64 0, .slice none 0 0] ∧ Blk ((((V.setCell ⟨ib, 0, none⟩ (.int .i64 0)).setCell ⟨ib, 1, none⟩ (.int .i64 0)).setCell ⟨ib, 2, none⟩ (.slice none 0 0)).setCell ⟨eb, 0, none⟩ (.int .i64 9)) eb 27 #[.int .i64 9] ∧ Upd (· = sb) w ((((V.setCell ⟨ib, 0, none⟩ (.int .i64 0)).setCell ⟨ib, 1, none⟩ (.int .i64 0)).setCell ⟨ib, 2, none⟩ (.slice none 0 0)).setCell ⟨eb, 0, none⟩ (.int .i64 9)) ∧ ∃ j, j < N ∧ tv < vals j)) := Lib.hid (fun hv =>
      ⟨(((KeepsOthers.setCell _ _ _).trans (KeepsOthers.setCell _ _ _)).trans (KeepsOthers.setCell _ _ _)).trans (KeepsOthers.setCell _ _ _), rfl, i1.blk.upd us (by omega), by simpa using ek1.set_ 0 (.int .i64 9), (hT.c.1.u.then i3 (fun i hi e => by omega)).then us (fun i hi e => by omega), j, hj, hv⟩)
    have HT := Lib.hid hT
    clear hT hkk i1 i3 ek1 us hvj
    gi_wp2_with fail
    refine ⟨trivial, (CallsIn.inRound ll (callsIn_wide.2 HUP.out)).mono ?_⟩
    rintro e V1 ⟨rfl, (⟨hok1, rfl⟩ | ⟨hno1, rfl⟩)⟩
    · clear y0 y1 y2 f0 f1 f2 e0 ef x7 HBAD HUP
      obtain ⟨_, _, hu1, hu2⟩ := hok1
      have hub := upN_bd hu1 hu2 (by omega)
      have HPL := Lib.hid (planes_any k (kTx k) (kGr k) V1)
      have HTU := Lib.hid (fun W => turned_any k (kTx k) (kCo k) (upN (vals j : Nat) (tv : Nat)) hub W)
      have HUT : Hid (upT k tv (vals j) = turN k (upN (vals j : Nat) (tv : Nat))) := Lib.hid rfl
      have HNP : Hid (pixP k tv vals (j + 1) = addP (plN k) (upT k tv (vals j)) (pixP k tv vals j)) := Lib.hid rfl
      have HPLN := Lib.hid (pixP_len k tv vals j)
      have hle1 : vals j ≤ tv := by omega
      have hpl : 1 ≤ plN k ∧ plN k ≤ 3 := by unfold plN; split <;> omega
      generalize upN (vals j : Nat) (tv : Nat) = uu at *
      gi_wp2_with fail
      refine ⟨trivial, (CallsIn.inRound ll (callsIn_wide.2 HPL.out)).mono ?_⟩
      rintro e V2 ⟨rfl, hb2⟩
      obtain ⟨pl, hpe⟩ : ∃ pl, plN k = pl := ⟨_, rfl⟩
      rw [hpe] at hpl HNP
      rw [hpe]
      obtain ⟨n3, hn3⟩ : ∃ n3, 3 / pl = n3 := ⟨_, rfl⟩
      have hn39 : n3 ≤ 3 := by rw [← hn3]; exact Nat.div_le_self 3 pl
      have m3 : (3 : Int) / (pl : Int) = (n3 : Int) := by rw [← hn3]; exact (Int.natCast_ediv 3 pl).symm
      obtain ⟨P0, hP0⟩ : ∃ P0, pixP k tv vals j = P0 := ⟨_, rfl⟩
      have HTV : Hid (TxI xb yb sb B hd (fun V => ImI w sb hd ib eb pb P0 V ∧ ∀ i, i < j → vals i ≤ tv) (resT (kGr k) lb j) V1) := Lib.hid (by rw [← hP0]; exact HT.out)
      rw [hP0] at HNP HPLN
      have HN3 := Lib.hid hn3
      have ub2 : Upd (fun k => w.heap.size ≤ k) V1 V2 := (Upd.of_fresh hb2).mono (fun _ _ h => absurd h id)
      have HS1 : Hid (KeepsOthers V1 V2 ∧ Upd (fun k => w.heap.size ≤ k) V1 V2 ∧ ImI w sb hd ib eb pb (P0 ++ List.replicate 0 (turN k uu)) V2) := Lib.hid ⟨keeps_of_fresh hb2, ub2, by rw [List.replicate_zero, List.append_nil]; exact HTV.out.c.1.upd hsl (Upd.of_fresh hb2) (fun k e => absurd e id)⟩
      have HLE := Lib.hid (fun i (hi : i < j + 1) => show vals i ≤ tv from by
        rcases Nat.lt_or_ge i j with h | h
        · exact HTV.out.c.2 i h
        · obtain rfl : i = j := by omega
          exact hle1)
      clear hb2 ub2 hP0 HT HPL hpe hn3 c0 c1 c2 c5 hu1 hu2
      gi_wp2_with fail
      rw [m3]
      clear m3
      gi_loopw [35] (fun iv wr => ∃ i : Nat, i ≤ n3 ∧ iv = .int .i64 (i : Int) ∧ Hid (KeepsOthers V1 wr ∧ Upd (fun k => w.heap.size ≤ k) V1 wr ∧ ImI w sb hd ib eb pb (P0 ++ List.replicate i (turN k uu)) wr)) (fun iv _ => n3 - (intOf iv).toNat)
      case atStart => exact ⟨0, Nat.zero_le _, rfl, HS1⟩
      case round =>
        obtain ⟨i, hi, rfl, HJ⟩ := hrel
        clear HS1
        by_cases hlt : i < n3
        · have hplen : (P0 ++ List.replicate i (turN k uu)).length ≤ 1000000 := by
            have := HPLN.out
            have hjN : j ≤ 200000 := by
              have h3 : H * W * plN k ≤ 65536 * 3 := Nat.mul_le_mul hWH (by unfold plN; split <;> omega)
              omega
            rw [List.length_append, List.length_replicate]
            omega
          obtain ⟨Pi, hPi⟩ : ∃ Pi, P0 ++ List.replicate i (turN k uu) = Pi := ⟨_, rfl⟩
          have hPn : P0 ++ List.replicate (i + 1) (turN k uu) = Pi ++ [turN k uu] := by rw [← hPi, List.append_assoc, List.replicate_succ']
          rw [hPi] at HJ hplen
          have HPN := Lib.hid hPn
          clear hPi hPn
          gi_wp2_with fail
          obtain ⟨A, c, p1, p2⟩ := HJ.out.2.2.pk
          have hkk := HJ.out.2.2.hk
          have hS0 : Blk wr.drew pb 24 #[.slice A Pi.length c] ∧ Blk wr.drew w.heap.size 50 #[.bool (kTx k), .bool (kCo k), .bool (kGr k), .int .i64 (W : Nat), .int .i64 (H : Nat), .int .i64 (tv : Nat)] := ⟨p1, by rw [← HHD.out]; exact hkk⟩
          have HTR := Lib.hid (HTU.out wr.drew)
          have HSt : Hid (∀ wd, Below wr.drew.heap.size wr.drew wd → ∃ A9 c9 w9, (Builtin.append_ #[24, 24] 24 #[.slice A Pi.length c, .slice (some ⟨wd.heap.size, 0, none⟩) 1 1]).run Tryz.prog (wd.alloc (.cells #[.int .u16 (turN k uu)] 42)) = .ok (.slice A9 (Pi.length + 1) c9) w9 ∧
              (Blk wd pb 24 #[.slice A Pi.length c] ∧ Blk wd w.heap.size 50 #[.bool (kTx k), .bool (kCo k), .bool (kGr k), .int .i64 (W : Nat), .int .i64 (H : Nat), .int .i64 (tv : Nat)]) ∧
              (Blk (wd.alloc (.cells #[.int .u16 (turN k uu)] 42)) pb 24 #[.slice A Pi.length c] ∧ Blk (wd.alloc (.cells #[.int .u16 (turN k uu)] 42)) w.heap.size 50 #[.bool (kTx k), .bool (kCo k), .bool (kGr k), .int .i64 (W : Nat), .int .i64 (H : Nat), .int .i64 (tv : Nat)]) ∧
              (Blk w9 pb 24 #[.slice A Pi.length c] ∧ Blk w9 w.heap.size 50 #[.bool (kTx k), .bool (kCo k), .bool (kGr k), .int .i64 (W : Nat), .int .i64 (H : Nat), .int .i64 (tv : Nat)]) ∧
              (KeepsOthers V1 (w9.setCell ⟨pb, 0, none⟩ (.slice A9 (Pi.length + 1) c9)) ∧ Upd (fun k => w.heap.size ≤ k) V1 (w9.setCell ⟨pb, 0, none⟩ (.slice A9 (Pi.length + 1) c9)) ∧ ImI w sb hd ib eb pb (P0 ++ List.replicate (i + 1) (turN k uu)) (w9.setCell ⟨pb, 0, none⟩ (.slice A9 (Pi.length + 1) c9)))) := Lib.hid (by
            intro wd hwd
            have hb : Below wr.heap.size wr wd := of_drew hwd
            have un := Upd.of_fresh hb
            have hIz := HJ.out.2.2.upd hsl un (fun k e => absurd e id)
            obtain ⟨A', c', A9, c9, w9, zc, hrun, z9, zf, hI9, u9, k9⟩ := hIz.add hsl (turN k uu) hplen
            have p1d := p1.upd un id
            have zz := (zc.cell 0).symm.trans (p1d.cell 0)
            have e0 : Value.slice A' Pi.length c' = Value.slice A Pi.length c := by simpa using zz
            injection e0 with zz1 _ zz2
            subst zz1
            subst zz2
            have ua := (Upd.refl No wd).alloc (.cells #[.int .u16 (turN k uu)] 42)
            have hkd : Blk wd w.heap.size 50 #[.bool (kTx k), .bool (kCo k), .bool (kGr k), .int .i64 (W : Nat), .int .i64 (H : Nat), .int .i64 (tv : Nat)] := by rw [← HHD.out]; exact hkk.upd un id
            rw [HHD.out] at zf
            exact ⟨A9, c9, w9, hrun, ⟨p1d, hkd⟩, ⟨p1d.upd ua id, hkd.upd ua id⟩, ⟨z9, zf⟩, (HJ.out.1.trans (keeps_of_fresh hb)).trans k9, (HJ.out.2.1.trans (un.mono (fun _ _ h => absurd h id))).trans u9, by rw [HPN.out]; exact hI9⟩)
          have HS0 := Lib.hid hS0
          clear hS0 p1 p2 hkk HTU
          refine wpRound_region_T (fun W' => Blk W' pb 24 #[.slice A Pi.length c] ∧ Blk W' w.heap.size 50 #[.bool (kTx k), .bool (kCo k), .bool (kGr k), .int .i64 (W : Nat), .int .i64 (H : Nat), .int .i64 (tv : Nat)]) 7 hmix (by kernel_rfl) (by rintro ⟨_, _, h⟩; exact h) 8 rfl ?_
          refine wpAnyT_take (i := 0) (v := .slice A Pi.length c) rfl (by kernel_rfl) (by kernel_rfl) (by kernel_rfl) (by kernel_rfl) (fun _ _ _ h => h) (Or.inl ⟨by rfl, ?_⟩) HS0.out ?_
          · rintro wz ⟨z1, z2⟩
            have y0 : wz.cell? ⟨pb, 0, none⟩ = some (.slice A Pi.length c) := z1.cell 0
            go_simp
          (try simp only [Act.put, List.getElem_toArray, List.getElem_cons_succ, List.getElem_cons_zero, List.setIfInBounds_toArray, List.set_cons_zero, List.set_cons_succ])
          refine wpAnyT_take (i := 1) (v := .pointer (some ⟨w.heap.size, 0, none⟩)) rfl (by kernel_rfl) (by kernel_rfl) (by kernel_rfl) (by kernel_rfl) (fun _ _ _ h => h) (Or.inl ⟨by rfl, ?_⟩) HS0.out ?_
          · rintro wz ⟨z1, z2⟩
            go_simp
          (try simp only [Act.put, List.getElem_toArray, List.getElem_cons_succ, List.getElem_cons_zero, List.setIfInBounds_toArray, List.set_cons_zero, List.set_cons_succ])
          refine wpAnyT_take (i := 2) (v := .agg #[.bool (kTx k), .bool (kCo k), .bool (kGr k)]) rfl (by kernel_rfl) (by kernel_rfl) (by kernel_rfl) (by kernel_rfl) (fun _ _ _ h => h) (Or.inl ⟨by rfl, ?_⟩) HS0.out ?_
          · rintro wz ⟨z1, z2⟩
            have y0 : wz.cell? ⟨w.heap.size, 0, none⟩ = some (.bool (kTx k)) := z2.cell 0
            have y1 : wz.cell? ⟨w.heap.size, 1, none⟩ = some (.bool (kCo k)) := z2.cell 1
            have y2 : wz.cell? ⟨w.heap.size, 2, none⟩ = some (.bool (kGr k)) := z2.cell 2
            go_simp
          (try simp only [Act.put, List.getElem_toArray, List.getElem_cons_succ, List.getElem_cons_zero, List.setIfInBounds_toArray, List.set_cons_zero, List.set_cons_succ])
          refine wpAnyT_take (i := 3) (v := .int .u16 uu) rfl (by kernel_rfl) (by kernel_rfl) (by kernel_rfl) (by kernel_rfl) (fun _ _ _ h => h) (Or.inl ⟨by rfl, ?_⟩) HS0.out ?_
          · rintro wz ⟨z1, z2⟩
            go_simp
          (try simp only [Act.put, List.getElem_toArray, List.getElem_cons_succ, List.getElem_cons_zero, List.setIfInBounds_toArray, List.set_cons_zero, List.set_cons_succ])
          refine wpAnyT_one (i := 4) rfl (by kernel_rfl) (by rfl) ?_
          go_simp
          refine HTR.out.mono ?_
          rintro e wd ⟨rfl, hbd⟩
          obtain ⟨A9, c9, w9, hrun, hS1, hS2, hS9, hK9⟩ := HSt.out wd hbd
          have HRN := Lib.hid hrun; have HS1 := Lib.hid hS1; have HS2 := Lib.hid hS2; have HS9 := Lib.hid hS9; have HK9 := Lib.hid hK9
          clear hbd hrun hS1 hS2 hS9 hK9 HSt HTR
          refine ⟨HS1.out, ?_⟩
          (try simp only [Act.put, List.getElem_toArray, List.getElem_cons_succ, List.getElem_cons_zero, List.setIfInBounds_toArray, List.set_cons_zero, List.set_cons_succ])
          refine wpAnyT_one (i := 5) rfl (by kernel_rfl) (by rfl) ?_
          go_simp
          refine ⟨HS2.out, ?_⟩
          (try simp only [Act.put, List.getElem_toArray, List.getElem_cons_succ, List.getElem_cons_zero, List.setIfInBounds_toArray, List.set_cons_zero, List.set_cons_succ])
          refine wpAnyT_one (i := 6) rfl (by kernel_rfl) (by rfl) ?_
          refine wp_append_run (.tmp 37) (.tmp 42) _ rfl rfl rfl HRN.out ⟨fun _ => HS9.out, ?_⟩
          (try simp only [Act.put, List.getElem_toArray, List.getElem_cons_succ, List.getElem_cons_zero, List.setIfInBounds_toArray, List.set_cons_zero, List.set_cons_succ])
          refine wpAnyT_one (i := 7) rfl (by kernel_rfl) (by rfl) ?_
          have kf := HS9.out.1.frozen 0
          have k9 : w9.cell? ⟨pb, 0, none⟩ = some (.slice A Pi.length c) := HS9.out.1.cell 0
          go_simp
          refine wpAnyT_done (by kernel_rfl) ?_
          clear kf k9
          gi_wp2_with fail
          go_roundw
          case rel => exact ⟨i + 1, by omega, by go_num, HK9⟩
          case measure => simp [intOf]; omega
        · obtain rfl : i = n3 := by omega
          obtain ⟨P1, hP1⟩ : ∃ P1, P0 ++ List.replicate i (turN k uu) = P1 := ⟨_, rfl⟩
          have hP1l : P1.length ≤ 1000000 := by
            have := HPLN.out
            have hjN : j ≤ 200000 := by
              have h3 : H * W * plN k ≤ 65536 * 3 := Nat.mul_le_mul hWH (by unfold plN; split <;> omega)
              omega
            rw [← hP1, List.length_append, List.length_replicate]
            omega
          rw [hP1] at HJ
          have HNQ : Hid (pixP k tv vals (j + 1) = if P1.length % 4 = 3 then P1 ++ [65535] else P1) := Lib.hid (by rw [HNP.out, HUT.out, addP, HN3.out, hP1])
          have HPOST : Hid (∀ V9 p, KeepsOthers V1 V9 → Upd (fun k => w.heap.size ≤ k) V1 V9 → ImI w sb hd ib eb pb p V9 → pixP k tv vals (j + 1) = p → KeepsOthers V1 V9 ∧ (j < N ∧ TxI xb yb sb B hd (fun V => ImI w sb hd ib eb pb (pixP k tv vals (j + 1)) V ∧ ∀ i, i < j + 1 → vals i ≤ tv) (resT (kGr k) lb j) V9)) := Lib.hid (fun V9 p h1 h2 h3 h4 => ⟨h1, hj, HTV.out.more (b0 := w.heap.size) hxl hyl hsl hB h2 ⟨by rw [h4]; exact h3, HLE.out⟩⟩)
          obtain ⟨A, c, A9, c9, w9, zc, hrun, z9, zf, hI9, u9, k9⟩ := HJ.out.2.2.add hsl 65535 hP1l
          have z0 : wr.cell? ⟨pb, 0, none⟩ = some (.slice A P1.length c) := zc.cell 0
          have z5 : w9.cell? ⟨pb, 0, none⟩ = some (.slice A P1.length c) := z9.cell 0
          have zg := z9.frozen 0
          have HRN := Lib.hid hrun
          have HI9 := Lib.hid (And.intro hI9 (And.intro u9 k9))
          clear zc hrun z9 zf hI9 u9 k9 hP1 HPLN
          by_cases h43 : P1.length % 4 = 3
          · have d3 : ((P1.length : Int) % 4) = 3 := by omega
            have hfin := HPOST.out (w9.setCell ⟨pb, 0, none⟩ (.slice A9 (P1.length + 1) c9)) (P1 ++ [65535]) (HJ.out.1.trans HI9.out.2.2) (HJ.out.2.1.trans HI9.out.2.1) HI9.out.1 (by rw [HNQ.out, if_pos h43])
            have HFN := Lib.hid hfin
            clear hfin h43
            gi_wp2_with (gi_at_builtin; refine wpListIn_append_run rfl (.tmp 49) (.tmp 50) _ rfl rfl rfl HRN.out ?_)
            exact HFN.out
          · have d3 : ¬ ((P1.length : Int) % 4) = 3 := by omega
            have hfin := HPOST.out wr P1 HJ.out.1 HJ.out.2.1 HJ.out.2.2 (by rw [HNQ.out, if_neg h43])
            have HFN := Lib.hid hfin
            clear hfin h43
            gi_wp2_with fail
            exact HFN.out
    · have hno2 : tv < vals j := by unfold UpOk at hno1; omega
      have HB9 := Lib.hid (HBAD.out hno2)
      clear hno1 hno2 HBAD
      gi_wp2_with fail
      exact ⟨HB9.out.1, rfl, HB9.out.2.2⟩
  case done =>
    rintro D V hD ⟨hI, hle⟩ hK
    obtain ⟨A, c, p1, p2⟩ := hI.pk
    have z1 : V.cell? ⟨pb, 0, none⟩ = some (.slice A (pixP k tv vals N).length c) := p1.cell 0
    have hkk := hI.hk
    rw [HHD.out] at hkk
    have z3 : V.cell? ⟨w.heap.size, 3, none⟩ = some (.int .i64 (W : Nat)) := hkk.cell 3
    have z4 : V.cell? ⟨w.heap.size, 4, none⟩ = some (.int .i64 (H : Nat)) := hkk.cell 4
    have y0 := hI.ik.cell 0; have y1 := hI.ik.cell 1; have y2 := hI.ik.cell 2
    have f0 := hI.ik.frozen 0; have f1 := hI.ik.frozen 1; have f2 := hI.ik.frozen 2
    have e0 := hI.ek.cell 0; have ef := hI.ek.frozen 0
    have hlo := hI.lo
    have HFIN : Hid (∀ (x y z : Value) (er : Int), ∃ X, X = (((V.setCell ⟨ib, 0, none⟩ x).setCell ⟨ib, 1, none⟩ y).setCell ⟨ib, 2, none⟩ z).setCell ⟨eb, 0, none⟩ (.int .i64 er) ∧ (((V.setCell ⟨ib, 0, none⟩ x).setCell ⟨ib, 1, none⟩ y).setCell ⟨ib, 2, none⟩ z).cell? ⟨eb, 0, none⟩ = some (.int .i64 0) ∧ (X.putObj D (.deferred none)).cell? ⟨ib, 0, none⟩ = some x ∧ (X.putObj D (.deferred none)).cell? ⟨ib, 1, none⟩ = some y ∧ (X.putObj D (.deferred none)).cell? ⟨ib, 2, none⟩ = some z ∧ (X.putObj D (.deferred none)).cell? ⟨eb, 0, none⟩ = some (.int .i64 er) ∧ X.heap[D]? = some (.deferred (some [])) ∧ Upd (· = sb) w (X.putObj D (.deferred none)) ∧ (X.putObj D (.deferred none)).ownsRow w.heap.size 42 1 (.slice A (pixP k tv vals N).length c) (pixP k tv vals N).length (usV (pixP k tv vals N))) := Lib.hid (by
      intro x y z er
      obtain ⟨i1, _, i3⟩ := (IB.of hI.ik).put x y z w.heap.size (by omega)
      have ek1 := hI.ek.upd i3 (by omega)
      have us : Upd (· = eb) (((V.setCell ⟨ib, 0, none⟩ x).setCell ⟨ib, 1, none⟩ y).setCell ⟨ib, 2, none⟩ z) ((((V.setCell ⟨ib, 0, none⟩ x).setCell ⟨ib, 1, none⟩ y).setCell ⟨ib, 2, none⟩ z).setCell ⟨eb, 0, none⟩ (.int .i64 er)) := (Upd.refl (· = eb) _).setCell (fun _ => rfl) _
      have ek2 : Blk ((((V.setCell ⟨ib, 0, none⟩ x).setCell ⟨ib, 1, none⟩ y).setCell ⟨ib, 2, none⟩ z).setCell ⟨eb, 0, none⟩ (.int .i64 er)) eb 27 #[.int .i64 er] := by simpa using ek1.set_ 0 (.int .i64 er)
      have ik2 := i1.blk.upd us (by omega)
      have o1 := own_upd p2 i3 (fun g hg e => own_blk_ne p2 hI.ik (by decide) (by rw [hg, e]))
      have o2 := own_upd o1 us (fun g hg e => own_blk_ne o1 ek1 (by decide) (by rw [hg, e]))
      have hu := (hI.u.then i3 (fun i hi e => by omega)).then us (fun i hi e => by omega)
      refine ⟨_, rfl, ek1.cell 0, ?_⟩
      have hD2 : ((((V.setCell ⟨ib, 0, none⟩ x).setCell ⟨ib, 1, none⟩ y).setCell ⟨ib, 2, none⟩ z).setCell ⟨eb, 0, none⟩ (.int .i64 er)).heap[D]? = some (.deferred (some [])) :=
        (us.block D (by have := (Array.getElem?_eq_some_iff.1 hK).1; have := i3.size; omega) (fun e => blk_ne_obj hI.ek hK rfl e.symm)).trans ((i3.block D (Array.getElem?_eq_some_iff.1 hK).1 (fun e => blk_ne_obj hI.ik hK rfl e.symm)).trans hK)
      generalize (((V.setCell ⟨ib, 0, none⟩ x).setCell ⟨ib, 1, none⟩ y).setCell ⟨ib, 2, none⟩ z).setCell ⟨eb, 0, none⟩ (.int .i64 er) = X at *
      have u := upd_putObj (S := (· = D)) X D (.deferred none) rfl
      have ik3 := ik2.upd u (blk_ne_obj ik2 hD2 rfl)
      have ek3 := ek2.upd u (blk_ne_obj ek2 hD2 rfl)
      exact ⟨ik3.cell 0, ik3.cell 1, ik3.cell 2, ek3.cell 0, hD2, hu.then u (fun i hi e => by omega), own_put o2 hD2 rfl _⟩)
    have HLE := Lib.hid hle
    have HGQ : Hid (Q4 = 4 * W * H) := Lib.hid hQ4.symm
    clear hI p1 p2 hkk hle hK hQ4
    obtain ⟨PN, hPN⟩ : ∃ PN, pixP k tv vals N = PN := ⟨_, rfl⟩
    rw [hPN] at z1 HFIN
    have HPN := Lib.hid hPN
    clear hPN
    by_cases hge : Q4 ≤ PN.length
    · have hgood : goodT k tv W H N vals := ⟨HLE.out, by rw [HPN.out, ← HGQ.out]; exact hge⟩
      obtain ⟨X, hX, x7, x0, x1, x2, x3, hD9, hu, ho⟩ := HFIN.out (.int .i64 (W : Nat)) (.int .i64 (H : Nat)) (.slice A PN.length c) 0
      have HE := Lib.hid (And.intro hX (And.intro x0 (And.intro x1 (And.intro x2 (And.intro x3 (And.intro hD9 (And.intro hu ho)))))))
      have HGD := Lib.hid hgood
      have d1 : ¬ ((PN.length : Int) < (Q4 : Int)) := by omega
      clear hX x0 x1 x2 x3 hD9 hu ho hgood
      go_wp2_with fail
      obtain ⟨hX, x0, x1, x2, x3, hD9, hu, ho⟩ := HE.out
      rw [← hX]
      refine ⟨by simp, .inl ⟨_, _, rfl, run_takeDeferred hD9, ?_⟩⟩
      refine ⟨.tuple #[imgV (W : Nat) (H : Nat) A PN.length c, .int .i64 0], by simp [results, Tryz.results17, go_sem, x0, x1, x2, x3, imgV], hu, .inr ⟨?_, ?_⟩⟩
      · rw [HVL.out]; exact HGD.out
      · rw [HVL.out, HPN.out]
        exact ⟨A, c, rfl, ho⟩
    · have hbad : ¬ goodT k tv W H N vals := fun h => hge (by have := h.2; rw [HPN.out, ← HGQ.out] at this; exact this)
      obtain ⟨X, hX, x7, x0, x1, x2, x3, hD9, hu, ho⟩ := HFIN.out (.int .i64 0) (.int .i64 0) (.slice none 0 0) 9
      have HE := Lib.hid (And.intro hX (And.intro x0 (And.intro x1 (And.intro x2 (And.intro x3 (And.intro hD9 (And.intro hu ho)))))))
      have HGD := Lib.hid hbad
      have d1 : ((PN.length : Int) < (Q4 : Int)) := by omega
      clear hX x0 x1 x2 x3 hD9 hu ho hbad
      go_wp2_with fail
      obtain ⟨hX, x0, x1, x2, x3, hD9, hu, ho⟩ := HE.out
      rw [← hX]
      refine ⟨by simp, .inl ⟨_, _, rfl, run_takeDeferred hD9, ?_⟩⟩
      refine ⟨.tuple #[imgV 0 0 none 0 0, .int .i64 9], by simp [results, Tryz.results17, go_sem, x0, x1, x2, x3, imgV], hu, .inl ⟨?_, rfl⟩⟩
      rw [HVL.out]; exact HGD.out
  case stop =>
    rintro D c V hD ⟨rfl, h1, h2, h3, ⟨j, hj, hv⟩⟩ hK
    refine wpIn_wide.2 ?_
    go_wp2_with fail
    refine ⟨by simp, .inl ⟨_, _, rfl, run_takeDeferred hK, ?_⟩⟩
    have u := upd_putObj (S := (· = D)) V D (.deferred none) rfl
    have k1 := h1.upd u (blk_ne_obj h1 hK rfl)
    have k2 := h2.upd u (blk_ne_obj h2 hK rfl)
    have x0 := k1.cell 0; have x1 := k1.cell 1; have x2 := k1.cell 2; have x3 := k2.cell 0
    refine ⟨.tuple #[imgV 0 0 none 0 0, .int .i64 9], by simp [results, Tryz.results17, go_sem, x0, x1, x2, x3, imgV], h3.then u (fun i hi e => by omega), .inl ⟨fun hg => by have := hg.1 j hj; omega, rfl⟩⟩
end Go.Proofs.YtfbokhdimffabaaGreatDoor
