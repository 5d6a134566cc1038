/- Joined texts (a claim has at most 60 files): Df Rk. -/
import Derived.Test.YtfbokhdimffabaaGreatDoorDe
import Derived.Test.YtfbokhdimffabaaGreatDoorQt
import Derived.Test.YtfbokhdimffabaaGreatDoorCt
import Derived.BigQuiet
import Derived.Test.YtfbokhdimffabaaGreatDoorRo
/- The program's iterator of samples in digits. -/
set_option linter.unusedVariables false
set_option linter.unusedSimpArgs false
namespace Go.Proofs.YtfbokhdimffabaaGreatDoor
open Go.ChangeShapes Go.WideShapes Go.ChangeAt Go.RowKit Go.Shelf
attribute [local go_sem] Oper.semAt_some

/-- A sample: a digit or a number. -/
def sampF (g : Bool) (L : List UInt8) : (Nat × Bool) × List UInt8 := if g then numM 0 0 L else ((if isDg L then digV L else 0, isDg L), if isDg L then L.tail else L)
/-- Where the sample at k begins; what stands behind it. -/
def curT (g : Bool) (L : List UInt8) : Nat → List UInt8
  | 0 => (gapM false L).2
  | k + 1 => (gapM false (sampF g (curT g L k)).2).2
def resT (g : Bool) (L : List UInt8) (k : Nat) : List UInt8 := (sampF g (curT g L k)).2
def valT (g : Bool) (L : List UInt8) (k : Nat) : Nat := (sampF g (curT g L k)).1.1
def okT (g : Bool) (L : List UInt8) (k : Nat) : Bool := (sampF g (curT g L k)).1.2
theorem samp_dig (B sb : Nat) (L : List UInt8) (w : World) (h : Sc w B sb L) : Calls Tryz.prog 42 #[.pointer (some ⟨sb, 0, none⟩)] w fun e w' => e = .returned (.tuple #[.int .i64 ((sampF false L).1.1 : Nat), .bool (sampF false L).1.2]) ∧ Sc w' B sb (sampF false L).2 ∧ Upd (· = sb) w w' := digit_any B sb L w h
theorem samp_num (B sb : Nat) (L : List UInt8) (w : World) (h : Sc w B sb L) : Calls Tryz.prog 36 #[.pointer (some ⟨sb, 0, none⟩)] w fun e w' => e = .returned (.tuple #[.int .i64 ((sampF true L).1.1 : Nat), .bool (sampF true L).1.2]) ∧ Sc w' B sb (sampF true L).2 ∧ Upd (· = sb) w w' := number_any B sb L w h
/-- What stands while the samples come. -/
structure TxI (xb yb sb B : Nat) (hd : Array Value) (C : World → Prop) (L : List UInt8) (V : World) : Prop where
  xk : Blk V xb 44 #[.pointer (some ⟨sb, 0, none⟩)]
  yk : Blk V yb 50 hd
  sc : Sc V B sb L
  c : C V
theorem TxI.scan {xb yb sb B : Nat} {hd : Array Value} {C : World → Prop} {L L' : List UInt8} {V V' : World} (h : TxI xb yb sb B hd C L V) (u : Upd (· = sb) V V') (s : Sc V' B sb L') (hC : C V') : TxI xb yb sb B hd C L' V' := by
  obtain ⟨_, _, ks, _⟩ := h.sc
  exact ⟨h.xk.upd u (h.xk.ne_ ks (by decide)), h.yk.upd u (h.yk.ne_ ks (by decide)), s, hC⟩
theorem keeps_sc {B sb : Nat} {L : List UInt8} {V V' : World} (h : Sc V B sb L) (u : Upd (· = sb) V V') : KeepsOthers V V' := by
  obtain ⟨_, _, ks, _⟩ := h
  refine ⟨u.size, fun k o hk ho => (u.block k (Array.getElem?_eq_some_iff.1 hk).1 (fun e => ?_)).trans hk⟩
  exact blk_ne_obj ks hk ho e.symm
theorem text_any (sb : Nat) (hd : Array Value) (t c g : Bool) (W H top : Int) (hhd : hd = #[.bool t, .bool c, .bool g, .int .i64 W, .int .i64 H, .int .i64 top]) (w : World) : Calls Tryz.prog 18 #[.pointer (some ⟨sb, 0, none⟩), .agg hd] w fun e w' => e = .returned (.func (.func 41) #[] #[.pointer (some ⟨w.heap.size, 0, none⟩), .pointer (some ⟨w.heap.size + 1, 0, none⟩)]) ∧ w' = (w.alloc (.cells #[.pointer (some ⟨sb, 0, none⟩)] 44)).alloc (.cells hd 50) := by
  subst hhd
  go_enter Tryz.func18, Tryz.ntmps18
  go_wp2_with fail
  go_ret
  exact ⟨rfl, rfl⟩
set_option maxRecDepth 100000 in
set_option maxHeartbeats 4000000 in
theorem text1_in (n : Nat) (_ : 1 ≤ n) (l xb yb sb B k W H M N : Nat) (t : Bool) (top : Int) (lb : List UInt8) (hW : W ≤ 4096) (hH : H ≤ 4096) (hWH : H * W ≤ 65536) (hM : H * W * plN k = M) (hN : N ≤ M)
    (hgap : (gapM false lb).1 = true ∨ N = 0) (hok : ∀ j, j < N → okT (kGr k) lb j = true) (hend : N = M ∨ ((gapM false lb).1 = true → okT (kGr k) lb N = false)) (hr0 : st1 (gapM false lb).2 35 35 = false) (hrk : ∀ j, j < N → st1 (curT (kGr k) lb (j + 1)) 35 35 = false)
    (C : Nat → World → Prop) (R Jx : World → Prop) (hCU : ∀ j V V', C j V → Upd (· = sb) V V' → C j V') (hRK : ∀ V V', R V → KeepsOthers V V' → R V')
    (hY : ∀ j V, j < N → R V → TxI xb yb sb B #[.bool t, .bool (kCo k), .bool (kGr k), .int .i64 (W : Nat), .int .i64 (H : Nat), .int .i64 top] (C j) (resT (kGr k) lb j) V →
      YieldAt Fence.wide (n - 1) Tryz.prog l #[.int .i64 (valT (kGr k) lb j : Nat)] V fun e V' => (e = .returned (.bool true) ∧ TxI xb yb sb B #[.bool t, .bool (kCo k), .bool (kGr k), .int .i64 (W : Nat), .int .i64 (H : Nat), .int .i64 top] (C (j + 1)) (resT (kGr k) lb j) V' ∧ R V') ∨ (e = .returned (.bool false) ∧ Jx V'))
    (V : World) (h0 : TxI xb yb sb B #[.bool t, .bool (kCo k), .bool (kGr k), .int .i64 (W : Nat), .int .i64 (H : Nat), .int .i64 top] (C 0) lb V) (hR : R V) :
    CallsIn Fence.wide n Tryz.prog 41 #[.func (.yield l) #[] #[], .pointer (some ⟨xb, 0, none⟩), .pointer (some ⟨yb, 0, none⟩)] V fun e V' => (∃ v, e = .returned v) ∧ ((C N V' ∧ R V') ∨ Jx V') := by
  refine callsIn_of_wp Tryz.func41 rfl trivial ?_ rfl
  simp only [Tryz.ntmps41, List.size_toArray, List.length_cons, List.length_nil, Nat.reduceAdd, Nat.reduceSub, Array.replicate_succ, Array.replicate_zero, List.push_toArray, List.append_toArray, List.nil_append, List.cons_append]
  have hmix : Tryz.prog.follows .mixedOrders = true := by kernel_rfl
  have HPL : Hid (∀ t g V, Calls Tryz.prog 39 #[.agg #[.bool t, .bool (kCo k), .bool g]] V fun e w' => e = .returned (.int .i64 (plN k : Nat)) ∧ Below V.heap.size V w') := Lib.hid (fun t g V => planes_any k t g V)
  have hpl : 1 ≤ plN k ∧ plN k ≤ 3 := by unfold plN; split <;> omega
  have HGA := Lib.hid (fun (L : List UInt8) (hn : st1 (gapM false L).2 35 35 = false) V hV => gap_any B sb L hn V hV)
  have HSD := Lib.hid (fun L V hV => samp_dig B sb L V hV)
  have HSN := Lib.hid (fun L V hV => samp_num B sb L V hV)
  generalize plN k = pl at *
  generalize kCo k = bc at *
  generalize hbg : kGr k = bg at *
  have k0 := h0.xk.cell 0
  have y2 := h0.yk.cell 2
  refine wpIn_wide.2 ?_
  cases bg with
  | false =>
    go_upto_region 3 with (fail)
    go_wp2_with fail
    refine (HGA.out lb hr0 V h0.sc).mono ?_
    rintro e w2 ⟨rfl, h2, u2⟩
    have T2 := h0.scan u2 h2 (hCU 0 _ _ h0.c u2)
    have R2 := hRK _ _ hR (keeps_sc h0.sc u2)
    clear h2 u2 k0 y2 h0 hR
    cases hgf : (gapM false lb).1 with
    | false =>
      have hN0 : N = 0 := by
        rcases hgap with h | h
        · rw [hgf] at h; cases h
        · exact h
      subst hN0
      have HF := Lib.hid (And.intro T2.c R2)
      clear T2 R2 hgf hgap hok hend hr0 hrk hCU hRK hY
      go_wp2_with fail
      refine bodyPost_ret (results_none rfl _ _ _) rfl ?_
      exact ⟨⟨_, rfl⟩, .inl HF.out⟩
    | true =>
      have hfull : Hid (∀ V', Below w2.heap.size w2 V' → (Below w2.heap.size w2 V' ∧ V'.cell? ⟨yb, 0, none⟩ = some (.bool t) ∧ V'.cell? ⟨yb, 1, none⟩ = some (.bool bc) ∧ V'.cell? ⟨yb, 2, none⟩ = some (.bool false) ∧ V'.cell? ⟨yb, 3, none⟩ = some (.int .i64 (W : Nat)) ∧ V'.cell? ⟨yb, 4, none⟩ = some (.int .i64 (H : Nat)))) := Lib.hid (fun V' hb => by
        have h := T2.yk.upd (Upd.of_fresh hb) id
        exact ⟨hb, h.cell 0, h.cell 1, h.cell 2, h.cell 3, h.cell 4⟩)
      have m1 : IntKind.i64.wrap ((H : Int) * (W : Int)) = ((H * W : Nat) : Int) := by rw [← Int.natCast_mul]; exact IntWalk.i64_in _ (by omega)
      have m2 : IntKind.i64.wrap ((H : Int) * (W : Int) * (pl : Int)) = (M : Int) := by
        have hb3 : H * W * pl ≤ 65536 * 3 := Nat.mul_le_mul hWH hpl.2
        rw [← Int.natCast_mul, ← Int.natCast_mul, hM]
        exact IntWalk.i64_in _ (by omega)
      go_upto_region 4 with (fail)
      go_region_held3 (fun V' => Below w2.heap.size w2 V' ∧ V'.cell? ⟨yb, 0, none⟩ = some (.bool t) ∧ V'.cell? ⟨yb, 1, none⟩ = some (.bool bc) ∧ V'.cell? ⟨yb, 2, none⟩ = some (.bool false) ∧ V'.cell? ⟨yb, 3, none⟩ = some (.int .i64 (W : Nat)) ∧ V'.cell? ⟨yb, 4, none⟩ = some (.int .i64 (H : Nat)))
        (first | exact hfull.out _ (Below.drew (Below.refl _ _)) | exact hfull.out _ (Below.refl _ _) | exact hfull.out _ hc2 | exact hfull.out _ (And.left (by assumption)))
        ((go_at_call 39; refine (HPL.out t false _).mono ?_; rintro e w3 ⟨rfl, hb3⟩; have hc2 := (Below.trans (And.left (by assumption)) (hb3.mono (Below.size (And.left (by assumption)))))))
      have T3 : TxI xb yb sb B #[.bool t, .bool bc, .bool false, .int .i64 (W : Nat), .int .i64 (H : Nat), .int .i64 top] (C 0) (gapM false lb).2 w3 := T2.scan ((Upd.of_fresh hc2).mono (fun _ _ h => absurd h id)) (T2.sc.upd (Upd.of_fresh hc2) id (fun _ _ => id)) (hCU 0 _ _ T2.c ((Upd.of_fresh hc2).mono (fun _ _ h => absurd h id)))
      have R3 := hRK _ _ R2 (keeps_of_fresh hc2)
      have hM9 : M ≤ 196608 := by rw [← hM]; exact Nat.mul_le_mul hWH hpl.2
      clear m1 m2 hfull hc2 T2 R2 HPL HSN
      have HSA : Hid (∀ L V, Sc V B sb L → _) := HSD
      go_wp2_with fail
      refine (wpIn_wide (n := n)).1 ?_
      gi_loopw [5, 6, 26] (fun v5 v6 iv wr => ∃ (j : Nat), j ≤ N ∧ iv = .int .i64 (j : Int) ∧ TxI xb yb sb B #[.bool t, .bool bc, .bool false, .int .i64 (W : Nat), .int .i64 (H : Nat), .int .i64 top] (C j) (curT false lb j) wr ∧ R wr) (fun _ _ iv _ => M - (intOf iv).toNat)
      case atStart => exact ⟨0, Nat.zero_le _, rfl, T3, R3⟩
      case round =>
        obtain ⟨j, hj, rfl, TI, RI⟩ := hrel
        have x0 := TI.xk.cell 0
        by_cases hlt : j < M
        · gi_wp2_with fail
          refine ⟨trivial, (callsIn_wide.2 (HSA.out (curT false lb j) wr TI.sc)).mono ?_⟩
          rintro e w4 ⟨rfl, h4, u4⟩
          have T4 := TI.scan u4 h4 (hCU j _ _ TI.c u4)
          have R4 := hRK _ _ RI (keeps_sc TI.sc u4)
          clear h4 u4 TI RI x0
          rw [show (sampF false (curT false lb j)).1.2 = okT false lb j from rfl, show (sampF false (curT false lb j)).1.1 = valT false lb j from rfl]
          rw [show (sampF false (curT false lb j)).2 = resT false lb j from rfl] at T4
          by_cases hjN : j < N
          · rw [hok j hjN]
            obtain ⟨fn, tmps, assign, body, hy, hRd⟩ := hY j w4 hjN R4 T4
            have HYD := Lib.hid (yield_one hRd)
            clear hRd T4 R4
            gi_wp2_with fail
            with_reducible refine RoundIn.mono HYD.out ?_
            rintro e w5 ⟨bb, rfl, hb1, hb2⟩
            cases bb with
            | true =>
              obtain ⟨T5, R5⟩ := hb1 rfl
              have x0 := T5.xk.cell 0
              clear hb1 hb2 hy HYD
              gi_wp2_with fail
              refine ⟨trivial, (callsIn_wide.2 (HGA.out (resT false lb j) (hrk j hjN) w5 T5.sc)).mono ?_⟩
              rintro e w6 ⟨rfl, h6, u6⟩
              have T6 : TxI xb yb sb B #[.bool t, .bool bc, .bool false, .int .i64 (W : Nat), .int .i64 (H : Nat), .int .i64 top] (C (j + 1)) (curT false lb (j + 1)) w6 := T5.scan u6 h6 (hCU (j + 1) _ _ T5.c u6)
              have R6 := hRK _ _ R5 (keeps_sc T5.sc u6)
              clear T5 R5 h6 u6 x0
              gi_wp2_with fail
              go_roundw
              case rel => exact ⟨j + 1, by omega, by go_num, T6, R6⟩
              case measure => simp [intOf]; omega
            | false =>
              have HJ := Lib.hid (hb2 rfl)
              clear hb1 hb2 hy HYD
              gi_wp2_with fail
              refine bodyPost_ret (results_none rfl _ _ _) rfl ?_
              exact ⟨⟨_, rfl⟩, .inr HJ.out⟩
          · obtain rfl : j = N := by omega
            have hko : okT false lb j = false := by
              rcases hend with h | h
              · omega
              · exact h hgf
            rw [hko]
            have HF := Lib.hid (And.intro T4.c R4)
            clear T4 R4
            gi_wp2_with (refine ⟨fun f h => (by cases h), ?_⟩)
            refine bodyPost_ret (results_none rfl _ _ _) rfl ?_
            exact ⟨⟨_, rfl⟩, .inl HF.out⟩
        · obtain rfl : j = M := by omega
          obtain rfl : j = N := by omega
          have HF := Lib.hid (And.intro TI.c RI)
          clear TI RI x0
          gi_wp2_with fail
          go_end0
          exact ⟨⟨_, rfl⟩, .inl HF.out⟩
  | true =>
    go_upto_region 3 with (fail)
    go_wp2_with fail
    refine (HGA.out lb hr0 V h0.sc).mono ?_
    rintro e w2 ⟨rfl, h2, u2⟩
    have T2 := h0.scan u2 h2 (hCU 0 _ _ h0.c u2)
    have R2 := hRK _ _ hR (keeps_sc h0.sc u2)
    clear h2 u2 k0 y2 h0 hR
    cases hgf : (gapM false lb).1 with
    | false =>
      have hN0 : N = 0 := by
        rcases hgap with h | h
        · rw [hgf] at h; cases h
        · exact h
      subst hN0
      have HF := Lib.hid (And.intro T2.c R2)
      clear T2 R2 hgf hgap hok hend hr0 hrk hCU hRK hY
      go_wp2_with fail
      refine bodyPost_ret (results_none rfl _ _ _) rfl ?_
      exact ⟨⟨_, rfl⟩, .inl HF.out⟩
    | true =>
      have hfull : Hid (∀ V', Below w2.heap.size w2 V' → (Below w2.heap.size w2 V' ∧ V'.cell? ⟨yb, 0, none⟩ = some (.bool t) ∧ V'.cell? ⟨yb, 1, none⟩ = some (.bool bc) ∧ V'.cell? ⟨yb, 2, none⟩ = some (.bool true) ∧ V'.cell? ⟨yb, 3, none⟩ = some (.int .i64 (W : Nat)) ∧ V'.cell? ⟨yb, 4, none⟩ = some (.int .i64 (H : Nat)))) := Lib.hid (fun V' hb => by
        have h := T2.yk.upd (Upd.of_fresh hb) id
        exact ⟨hb, h.cell 0, h.cell 1, h.cell 2, h.cell 3, h.cell 4⟩)
      have m1 : IntKind.i64.wrap ((H : Int) * (W : Int)) = ((H * W : Nat) : Int) := by rw [← Int.natCast_mul]; exact IntWalk.i64_in _ (by omega)
      have m2 : IntKind.i64.wrap ((H : Int) * (W : Int) * (pl : Int)) = (M : Int) := by
        have hb3 : H * W * pl ≤ 65536 * 3 := Nat.mul_le_mul hWH hpl.2
        rw [← Int.natCast_mul, ← Int.natCast_mul, hM]
        exact IntWalk.i64_in _ (by omega)
      go_upto_region 4 with (fail)
      go_region_held3 (fun V' => Below w2.heap.size w2 V' ∧ V'.cell? ⟨yb, 0, none⟩ = some (.bool t) ∧ V'.cell? ⟨yb, 1, none⟩ = some (.bool bc) ∧ V'.cell? ⟨yb, 2, none⟩ = some (.bool true) ∧ V'.cell? ⟨yb, 3, none⟩ = some (.int .i64 (W : Nat)) ∧ V'.cell? ⟨yb, 4, none⟩ = some (.int .i64 (H : Nat)))
        (first | exact hfull.out _ (Below.drew (Below.refl _ _)) | exact hfull.out _ (Below.refl _ _) | exact hfull.out _ hc2 | exact hfull.out _ (And.left (by assumption)))
        ((go_at_call 39; refine (HPL.out t true _).mono ?_; rintro e w3 ⟨rfl, hb3⟩; have hc2 := (Below.trans (And.left (by assumption)) (hb3.mono (Below.size (And.left (by assumption)))))))
      have T3 : TxI xb yb sb B #[.bool t, .bool bc, .bool true, .int .i64 (W : Nat), .int .i64 (H : Nat), .int .i64 top] (C 0) (gapM false lb).2 w3 := T2.scan ((Upd.of_fresh hc2).mono (fun _ _ h => absurd h id)) (T2.sc.upd (Upd.of_fresh hc2) id (fun _ _ => id)) (hCU 0 _ _ T2.c ((Upd.of_fresh hc2).mono (fun _ _ h => absurd h id)))
      have R3 := hRK _ _ R2 (keeps_of_fresh hc2)
      have hM9 : M ≤ 196608 := by rw [← hM]; exact Nat.mul_le_mul hWH hpl.2
      clear m1 m2 hfull hc2 T2 R2 HPL HSD
      have HSA : Hid (∀ L V, Sc V B sb L → _) := HSN
      go_wp2_with fail
      refine (wpIn_wide (n := n)).1 ?_
      gi_loopw [5, 6, 26] (fun v5 v6 iv wr => ∃ (j : Nat), j ≤ N ∧ iv = .int .i64 (j : Int) ∧ TxI xb yb sb B #[.bool t, .bool bc, .bool true, .int .i64 (W : Nat), .int .i64 (H : Nat), .int .i64 top] (C j) (curT true lb j) wr ∧ R wr) (fun _ _ iv _ => M - (intOf iv).toNat)
      case atStart => exact ⟨0, Nat.zero_le _, rfl, T3, R3⟩
      case round =>
        obtain ⟨j, hj, rfl, TI, RI⟩ := hrel
        have x0 := TI.xk.cell 0
        by_cases hlt : j < M
        · gi_wp2_with fail
          refine ⟨trivial, (callsIn_wide.2 (HSA.out (curT true lb j) wr TI.sc)).mono ?_⟩
          rintro e w4 ⟨rfl, h4, u4⟩
          have T4 := TI.scan u4 h4 (hCU j _ _ TI.c u4)
          have R4 := hRK _ _ RI (keeps_sc TI.sc u4)
          clear h4 u4 TI RI x0
          rw [show (sampF true (curT true lb j)).1.2 = okT true lb j from rfl, show (sampF true (curT true lb j)).1.1 = valT true lb j from rfl]
          rw [show (sampF true (curT true lb j)).2 = resT true lb j from rfl] at T4
          by_cases hjN : j < N
          · rw [hok j hjN]
            obtain ⟨fn, tmps, assign, body, hy, hRd⟩ := hY j w4 hjN R4 T4
            have HYD := Lib.hid (yield_one hRd)
            clear hRd T4 R4
            gi_wp2_with fail
            with_reducible refine RoundIn.mono HYD.out ?_
            rintro e w5 ⟨bb, rfl, hb1, hb2⟩
            cases bb with
            | true =>
              obtain ⟨T5, R5⟩ := hb1 rfl
              have x0 := T5.xk.cell 0
              clear hb1 hb2 hy HYD
              gi_wp2_with fail
              refine ⟨trivial, (callsIn_wide.2 (HGA.out (resT true lb j) (hrk j hjN) w5 T5.sc)).mono ?_⟩
              rintro e w6 ⟨rfl, h6, u6⟩
              have T6 : TxI xb yb sb B #[.bool t, .bool bc, .bool true, .int .i64 (W : Nat), .int .i64 (H : Nat), .int .i64 top] (C (j + 1)) (curT true lb (j + 1)) w6 := T5.scan u6 h6 (hCU (j + 1) _ _ T5.c u6)
              have R6 := hRK _ _ R5 (keeps_sc T5.sc u6)
              clear T5 R5 h6 u6 x0
              gi_wp2_with fail
              go_roundw
              case rel => exact ⟨j + 1, by omega, by go_num, T6, R6⟩
              case measure => simp [intOf]; omega
            | false =>
              have HJ := Lib.hid (hb2 rfl)
              clear hb1 hb2 hy HYD
              gi_wp2_with fail
              refine bodyPost_ret (results_none rfl _ _ _) rfl ?_
              exact ⟨⟨_, rfl⟩, .inr HJ.out⟩
          · obtain rfl : j = N := by omega
            have hko : okT true lb j = false := by
              rcases hend with h | h
              · omega
              · exact h hgf
            rw [hko]
            have HF := Lib.hid (And.intro T4.c R4)
            clear T4 R4
            gi_wp2_with (refine ⟨fun f h => (by cases h), ?_⟩)
            refine bodyPost_ret (results_none rfl _ _ _) rfl ?_
            exact ⟨⟨_, rfl⟩, .inl HF.out⟩
        · obtain rfl : j = M := by omega
          obtain rfl : j = N := by omega
          have HF := Lib.hid (And.intro TI.c RI)
          clear TI RI x0
          gi_wp2_with fail
          go_end0
          exact ⟨⟨_, rfl⟩, .inl HF.out⟩
end Go.Proofs.YtfbokhdimffabaaGreatDoor

/- A region that draws its order, in a round of a range over a function: its first operations in every world of a class, the others from any one of them (as wp_region_class). No program is named here. -/
set_option linter.unusedVariables false
namespace Go.Proofs.YtfbokhdimffabaaGreatDoor
open Go.RowKit

section
variable {P : Program}
theorem wpRound_region_class {ll n id : Nat} {Q : Exit → Act → World → Prop} {a : Act} {w : World} {l : List Oper} (C : World → Prop) (m : Nat) (hm : P.follows .mixedOrders = true) (hnd : noDefer l.toArray = true) (hLO : ¬ LetsOut Q) (hB : Region.lexTailB .any l.toArray m = true) (hC : C w.drew)
    (h : wpQuiet P l.toArray C (fun a' => ∀ w', C w' → wpList P l.toArray Q (l.drop m) a' w') (l.take m) a) : (Code.region id l.toArray true).wpIn (Fence.wide.inRound ll) n P Q a w := by
  simp only [Region.lexTailB, Bool.and_eq_true, decide_eq_true_eq] at hB
  obtain ⟨⟨⟨⟨hsel, hn⟩, hs⟩, hc⟩, hlex⟩ := hB
  have hm' : m < l.length := by simpa using hn
  have htl : (l.take m).length = m := by rw [List.length_take]; omega
  have hdl : (l.drop m).length = l.toArray.size - m := by simp
  have inv0 : HeadInv .any l.toArray m (Array.replicate l.toArray.size false) :=
    ⟨by simp, fun j oj _ hl => (by rw [getD_replicate_false] at hl; cases hl), fun t _ ht => getD_in (by simpa using ht) (getD_replicate_false _ _)⟩
  have H := HeadsQ.lex (md := .any) (g := l.toArray.size - m) hsel hs hc hn (l.take m) 0 _ a (fun j hj => by
    rw [htl] at hj
    simp [hj]) (by simpa using htl) inv0 (by rw [htl]; exact hlex) h
  refine wpIn_region_any hm (anyRound_of_any hnd hLO _ _ _ _ ?_)
  have A := HeadsQ.any (Q := Q) (g := l.toArray.size - m) (fun listed a' w' hw hL => by
    have := wpAny_of_seq (md := .any) (Q' := Q) (l.drop m) m listed a' w' (fun j => by simp [List.getElem?_drop]) (by rw [hdl]; exact hL.1) (hL.2 w' hw)
    rwa [hdl] at this) _ _ _ w.drew hC H
  rw [htl, show m + (l.toArray.size - m) = l.toArray.size by omega] at A
  exact A
end
end Go.Proofs.YtfbokhdimffabaaGreatDoor
