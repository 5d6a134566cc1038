/- Joined texts (a claim has at most 60 files): Nb Nc. -/
import Derived.Test.YtfbokhdimffabaaGreatDoorSl
import Derived.Test.YtfbokhdimffabaaGreatDoorNl
import Derived.Test.YtfbokhdimffabaaGreatDoorDa
import Derived.BigQuiet
/- A pixel's samples as a file tells them. -/
set_option linter.unusedVariables false
set_option linter.unusedSimpArgs false
namespace Go.Proofs.YtfbokhdimffabaaGreatDoor
open Go.ChangeShapes Go.WideShapes Go.ChangeAt Go.RowKit

def ColK (c : Col) : Prop := (0 ≤ c.r ∧ c.r ≤ 65535) ∧ (0 ≤ c.g ∧ c.g ≤ 65535) ∧ (0 ≤ c.b ∧ c.b ≤ 65535)
/-- What a pixel's samples are made of; the samples. -/
def partM (k : Nat) (x : Col) : List Int := if kCo k then [x.r, x.g, x.b] else [lumS x.r x.g x.b]
theorem partM_length (k : Nat) (x : Col) : (partM k x).length = plN k := by unfold partM plN; split <;> rfl
theorem lum16 {x : Col} (h : ColK x) : 0 ≤ lumS x.r x.g x.b ∧ lumS x.r x.g x.b ≤ 65535 := by
  obtain ⟨h1, h2, h3⟩ := h
  unfold lumS
  omega
theorem partM_bd {k : Nat} {x : Col} (h : ColK x) : ∀ s ∈ partM k x, 0 ≤ s ∧ s ≤ 65535 := by
  intro s hs
  unfold partM at hs
  have h4 := lum16 h
  obtain ⟨h1, h2, h3⟩ := h
  split at hs
  · simp at hs
    rcases hs with rfl | rfl | rfl <;> assumption
  · simp at hs
    subst hs
    exact h4
def sampM (k top : Nat) (s : Int) : Int := downN (turN k s) (topN k top : Nat)
def rowM (k top : Nat) : List Col → List Int
  | [] => []
  | x :: r => (partM k x).map (sampM k top) ++ rowM k top r
theorem rowM_length (k top : Nat) : ∀ l, (rowM k top l).length = plN k * l.length
  | [] => rfl
  | x :: r => by rw [rowM, List.length_append, List.length_map, partM_length, rowM_length k top r, List.length_cons, Nat.mul_succ]; omega
theorem rowM_app (k top : Nat) (x : Col) : ∀ l, rowM k top (l ++ [x]) = rowM k top l ++ (partM k x).map (sampM k top)
  | [] => by simp [rowM]
  | y :: r => by rw [List.cons_append, rowM, rowM_app k top x r, rowM, List.append_assoc]
set_option maxHeartbeats 1000000 in
theorem parts_any (k : Nat) (t g : Bool) (x : Col) (hx : ColK x) (w : World) : Calls Tryz.prog 82 #[.agg #[.bool t, .bool (kCo k), .bool g], .agg #[.int .u16 x.r, .int .u16 x.g, .int .u16 x.b, .int .u16 x.a]] w fun e w' => ∃ b, e = .returned (.slice (some ⟨b, 0, none⟩) (plN k) (plN k)) ∧ Blk w' b 42 (usV (partM k x)).toArray ∧ Below w.heap.size w w' := by
  have HP : Hid (plN k = if kCo k then 3 else 1) := Lib.hid rfl
  have HM : Hid (partM k x = if kCo k then [x.r, x.g, x.b] else [lumS x.r x.g x.b]) := Lib.hid rfl
  have HL := Lib.hid (fun V => luma_any x.r x.g x.b x.a hx.1 hx.2.1 hx.2.2 V)
  generalize kCo k = c at *
  generalize x.r = r at *
  generalize x.g = gg at *
  generalize x.b = bb at *
  generalize x.a = aa at *
  cases c with
  | true =>
    rw [if_pos rfl] at HP HM
    go_enter Tryz.func82, Tryz.ntmps82
    go_wp2_with fail
    go_ret
    rw [HP.out, HM.out]
    have hn := Blk.new ((w.alloc (.cells #[.bool t, .bool true, .bool g] 48)).alloc (.cells #[.int .u16 r, .int .u16 gg, .int .u16 bb, .int .u16 aa] 70)) 42 #[.int .u16 r, .int .u16 gg, .int .u16 bb]
    rw [World.size_alloc, World.size_alloc] at hn
    exact ⟨_, rfl, hn, (((Below.refl w.heap.size w).alloc (Nat.le_refl _) _).alloc (by rw [World.size_alloc]; omega) _).alloc (by rw [World.size_alloc, World.size_alloc]; omega) _⟩
  | false =>
    rw [if_neg (by simp)] at HP HM
    go_enter Tryz.func82, Tryz.ntmps82
    go_wp2_with fail
    have hb := ((Below.refl w.heap.size w).alloc (Nat.le_refl _) (.cells #[.bool t, .bool false, .bool g] 48)).alloc (by rw [World.size_alloc]; omega) (.cells #[.int .u16 r, .int .u16 gg, .int .u16 bb, .int .u16 aa] 70)
    refine (HL.out _).mono ?_
    rintro e w2 ⟨rfl, hb2⟩
    have HB := Lib.hid (hb.trans (hb2.mono hb.size))
    clear hb hb2 HL
    go_wp2_with fail
    go_ret
    rw [HP.out, HM.out]
    exact ⟨_, rfl, Blk.new _ _ _, HB.out.alloc HB.out.size _⟩
theorem info_i64 : (Tryz.prog.info? 3).map (fun i => (i.zero, i.size, i.bytes)) = some (some (.int .i64 0), 1, 8) := by kernel_rfl
theorem int_lit (w : World) (x : Int) : Is (w.alloc (.cells #[.int .i64 x] 3)) (w.heap.size + 1) (some ⟨w.heap.size, 0, none⟩) [x] := vs_lit w 3 [.int .i64 x] (w.heap.size + 1) (Nat.lt_succ_self _)
/-- An int more at the end of a row of the call's own. -/
theorem append_int1 (base : Nat) (w : World) (v : Value) (n : Nat) (xs : List Int) (h : w.ownsRow base 3 1 v n (intsV xs)) (hbase : base ≤ w.heap.size) (x : Int) (hn : n + 1 ≤ 17592186044415) (ty : TypeId) :
    ∃ A' c' w', (Builtin.append_ #[62, 62] ty #[v, .slice (some ⟨w.heap.size, 0, none⟩) 1 1]).run Tryz.prog (w.alloc (.cells #[.int .i64 x] 3)) = .ok (.slice A' (n + 1) c') w' ∧
      w'.ownsRow base 3 1 (.slice A' (n + 1) c') (n + 1) (intsV (xs ++ [x])) ∧ Upd (fun j => some j = v.ownBlock) w w' := by
  obtain ⟨i0, hi, hz0, hz1, hz2⟩ := info_parts info_i64
  have ua := (Upd.refl No w).alloc (.cells #[.int .i64 x] 3)
  obtain ⟨A', c', w', hrun, h2, h3, _⟩ := run_append_vn (P := Tryz.prog) (w.alloc (.cells #[.int .i64 x] 3)) base 62 ty 3 i0 _ 1 8 Tryz.underlying62 hi hz0 hz1 hz2 rfl (by omega) v n (intsV xs) (own_upd h ua (fun _ _ => id)) (w.heap.size + 1) ⟨w.heap.size, 0, none⟩ 1 1 (intsV [x]) rfl (int_lit w x) (intsV_one _) (by unfold maxLen; omega) (by omega) (Nat.le_trans hbase ua.size)
  exact ⟨A', c', w', hrun, by rw [intsV_append]; exact h2, (ua.mono (fun _ _ h => absurd h id)).then (Upd.of_grown h3) (fun j _ e => e)⟩
end Go.Proofs.YtfbokhdimffabaaGreatDoor

/- The samples of a row of pixels. -/
set_option linter.unusedVariables false
set_option linter.unusedSimpArgs false
namespace Go.Proofs.YtfbokhdimffabaaGreatDoor
open Go.ChangeShapes Go.WideShapes Go.ChangeAt Go.RowKit

def hdA (k : Nat) (W H top : Int) : Array Value := #[.bool (kTx k), .bool (kCo k), .bool (kGr k), .int .i64 W, .int .i64 H, .int .i64 top]
theorem down_ok (s : Int) (m : Nat) (hs : 0 ≤ s ∧ s ≤ 65535) (h1 : 1 ≤ m) (h2 : m ≤ 65535) (w : World) : Calls Tryz.prog 83 #[.int .u16 s, .int .i64 (m : Nat)] w fun e w' => e = .returned (.tuple #[.int .i64 (downN s (m : Nat)), .int .i64 0]) ∧ w' = w := by
  refine (down_any s (m : Nat) hs w).mono ?_
  rintro e w' ⟨rfl, ⟨_, rfl⟩ | ⟨h, _⟩⟩
  · exact ⟨rfl, rfl⟩
  · exact absurd ⟨by omega, by omega⟩ h
theorem turN_bd (k : Nat) {s : Int} (h : 0 ≤ s ∧ s ≤ 65535) : 0 ≤ turN k s ∧ turN k s ≤ 65535 := by unfold turN; split <;> omega
set_option maxRecDepth 100000 in
set_option maxHeartbeats 8000000 in
theorem samples_any (k top : Nat) (ht1 : 1 ≤ topN k top) (ht2 : topN k top ≤ 65535) (W H : Int) (A : Option Addr) (n c : Nat) (l : List Col) (hn : l.length = n) (hn9 : n ≤ 65536) (hok : ∀ x ∈ l, ColK x) (B : Nat) (w : World) (h : Cs w B A l) (hB : B ≤ w.heap.size) :
    Calls Tryz.prog 57 #[.agg (hdA k W H (topN k top : Nat)), .slice A n c] w fun e w' => ∃ A' m c', e = .returned (.slice A' m c') ∧ w'.ownsRow w.heap.size 3 1 (.slice A' m c') m (intsV (rowM k top l)) ∧ m = plN k * n ∧ Below w.heap.size w w' := by
  have HN := Lib.hid hn
  have HC := Lib.hid h
  have HOK := Lib.hid hok
  have hp3 : plN k ≤ 3 ∧ 1 ≤ plN k := by unfold plN; split <;> omega
  have HPL := Lib.hid (fun V => planes_any k (kTx k) (kGr k) V)
  have HPA := Lib.hid (fun x hx V => parts_any k (kTx k) (kGr k) x hx V)
  have HTU := Lib.hid (fun s hs V => turned_any k (kTx k) (kCo k) s hs V)
  have HDO := Lib.hid (fun s hs V => down_ok s (topN k top) hs ht1 ht2 V)
  have hmul : plN k * n ≤ 196608 := Nat.le_trans (Nat.mul_le_mul hp3.1 hn9) (by omega)
  have hmulI : (n : Int) * (plN k : Nat) = ((plN k * n : Nat) : Int) := by rw [Nat.mul_comm]; exact (Int.natCast_mul _ _).symm
  have HSM : Hid (∀ s, sampM k top s = downN (turN k s) (topN k top : Nat)) := Lib.hid (fun _ => rfl)
  have HTP := Lib.hid (And.intro ht1 ht2)
  have bel0 := (Below.refl w.heap.size w).alloc (Nat.le_refl _) (.cells #[.bool (kTx k), .bool (kCo k), .bool (kGr k), .int .i64 W, .int .i64 H, .int .i64 (topN k top : Nat)] 50)
  have k0 := Blk.new w 50 #[.bool (kTx k), .bool (kCo k), .bool (kGr k), .int .i64 W, .int .i64 H, .int .i64 (topN k top : Nat)]
  unfold hdA
  generalize topN k top = tp at *
  generalize kTx k = bt at *
  generalize kCo k = bc at *
  generalize kGr k = bg at *
  obtain ⟨i0, hi, hz0, hz1, hz2⟩ := info_parts info_i64
  obtain ⟨pl, hpl⟩ : ∃ pl, plN k = pl := ⟨_, rfl⟩
  rw [hpl] at hp3 HPL HPA hmul hmulI
  have HPLN := Lib.hid hpl
  obtain ⟨M, hM⟩ : ∃ M, pl * n = M := ⟨_, rfl⟩
  rw [hM] at hmul hmulI
  have HM := Lib.hid hM
  clear h hn hok ht1 ht2 hpl hM
  obtain ⟨hb, hhb⟩ : ∃ hb, w.heap.size = hb := ⟨_, rfl⟩
  have hbs0 : (w.alloc (.cells #[.bool bt, .bool bc, .bool bg, .int .i64 W, .int .i64 H, .int .i64 (tp : Nat)] 50)).heap.size = hb + 1 := by rw [World.size_alloc, hhb]
  rw [hhb] at k0 bel0 hB
  rw [hhb]
  have HHB := Lib.hid hhb
  go_enter Tryz.func57, Tryz.ntmps57
  go_upto_region 1 with (fail)
  generalize w.alloc (.cells #[.bool bt, .bool bc, .bool bg, .int .i64 W, .int .i64 H, .int .i64 (tp : Nat)] 50) = w1 at *
  have c0 : w1.cell? ⟨hb, 0, none⟩ = some (.bool bt) := k0.cell 0
  have c1 : w1.cell? ⟨hb, 1, none⟩ = some (.bool bc) := k0.cell 1
  have c2 : w1.cell? ⟨hb, 2, none⟩ = some (.bool bg) := k0.cell 2
  go_wp2_with fail
  refine (HPL.out w1).mono ?_
  rintro e w2 ⟨rfl, hb2⟩
  have hs2 := hb2.size
  have HB2 := Lib.hid (bel0.trans (hb2.mono (by omega)))
  have HK2 := Lib.hid (k0.upd (Upd.of_fresh hb2) id)
  clear hb2 bel0 k0 c0 c1 c2 hhb
  go_wp2_with (at_make; refine wpList_make_own _ rfl (.const (.int .i64 0)) (.tmp 17) 62 rfl (hb + 1) 3 i0 (.int .i64 0) 1 Tryz.underlying62 hi hz0 hz1 .i64 .i64 _ M rfl rfl rfl (by rw [hz2]; omega) (by unfold maxLen; omega) (by omega) ?_; intro w3 hown3 hg3)
  have HS0 : Hid (Blk w3 hb 50 #[.bool bt, .bool bc, .bool bg, .int .i64 W, .int .i64 H, .int .i64 (tp : Nat)] ∧ w3.ownsRow (hb + 1) 3 1 (.slice (some ⟨w2.heap.size, 0, none⟩) 0 M) 0 (intsV (rowM k top (l.take 0))) ∧ Below hb w w3) := Lib.hid ⟨HK2.out.upd (Upd.of_grown hg3) (fun e => by cases e), hown3, HB2.out.grown hg3 (by omega) (by simp)⟩
  clear hown3 hg3 HK2 HB2 hi hz0 hz1 hz2 hs2 hmulI hbs0 HPL
  go_loopw [5, 21] (fun v iv wr => ∃ (i m : Nat) (A' : Option Addr) (c' : Nat), i ≤ n ∧ v = .slice A' m c' ∧ iv = .int .i64 (i : Int) ∧ m = pl * i ∧ Hid (Blk wr hb 50 #[.bool bt, .bool bc, .bool bg, .int .i64 W, .int .i64 H, .int .i64 (tp : Nat)] ∧ wr.ownsRow (hb + 1) 3 1 (.slice A' m c') m (intsV (rowM k top (l.take i))) ∧ Below hb w wr)) (fun _ iv _ => n - (intOf iv).toNat)
  case atStart => exact ⟨0, 0, _, M, Nat.zero_le _, rfl, rfl, rfl, HS0⟩
  case round =>
    obtain ⟨i, m, A', c', hin, rfl, rfl, hmi, HV⟩ := hrel
    clear HS0
    have HMI := Lib.hid hmi
    clear hmi
    have hsr := HV.out.1.lt
    by_cases hlt : i < n
    · have hil : i < l.length := by have := HN.out; omega
      obtain ⟨b, off, rfl, hbB, x0, x1, x2, x3⟩ := (HC.out.below (HV.out.2.2.mono hB)).at_ hil
      have hxk := HOK.out l[i] (List.getElem_mem hil)
      have HTK : Hid (rowM k top (l.take (i + 1)) = rowM k top (l.take i) ++ (partM k l[i]).map (sampM k top)) := Lib.hid (by rw [List.take_succ_eq_append_getElem hil, rowM_app])
      have HPA1 := Lib.hid (fun V => HPA.out l[i] hxk V)
      have HPB := Lib.hid (fun s hs => partM_bd (k := k) hxk s hs)
      have hplen : (partM k l[i]).length = pl := by rw [partM_length]; exact HPLN.out
      generalize partM k l[i] = pm at *
      generalize l[i].r = xr at *
      generalize l[i].g = xg at *
      generalize l[i].b = xb at *
      generalize l[i].a = xa at *
      clear hxk
      have HIL := Lib.hid hil
      clear hil
      go_upto_region 5 with (fail)
      have ua := (Upd.refl No wr).alloc (.cells #[.int .u16 xr, .int .u16 xg, .int .u16 xb, .int .u16 xa] 70)
      have kc := Blk.new wr 70 #[.int .u16 xr, .int .u16 xg, .int .u16 xb, .int .u16 xa]
      have ka := HV.out.1.upd ua id
      have oa := own_upd HV.out.2.1 ua (fun _ _ => id)
      have ba := HV.out.2.2.trans (ua.fresh.mono (by omega))
      have hsa := ua.size
      have hsz : (wr.alloc (.cells #[.int .u16 xr, .int .u16 xg, .int .u16 xb, .int .u16 xa] 70)).heap.size = wr.heap.size + 1 := World.size_alloc _ _
      obtain ⟨cb, hcb⟩ : ∃ cb, wr.heap.size = cb := ⟨_, rfl⟩
      rw [hcb] at kc
      try rw [hcb]
      generalize wr.alloc (.cells #[.int .u16 xr, .int .u16 xg, .int .u16 xb, .int .u16 xa] 70) = wa at *
      have q0 : wa.cell? ⟨cb, 0, none⟩ = some (.int .u16 xr) := kc.cell 0
      have q1 : wa.cell? ⟨cb, 1, none⟩ = some (.int .u16 xg) := kc.cell 1
      have q2 : wa.cell? ⟨cb, 2, none⟩ = some (.int .u16 xb) := kc.cell 2
      have q3 : wa.cell? ⟨cb, 3, none⟩ = some (.int .u16 xa) := kc.cell 3
      have h0 : wa.cell? ⟨hb, 0, none⟩ = some (.bool bt) := ka.cell 0
      have h1 : wa.cell? ⟨hb, 1, none⟩ = some (.bool bc) := ka.cell 1
      have h2 : wa.cell? ⟨hb, 2, none⟩ = some (.bool bg) := ka.cell 2
      clear x0 x1 x2 x3 hcb
      go_wp2_with fail
      refine (HPA1.out wa).mono ?_
      rintro e wp ⟨pb, rfl, kp, hbp⟩
      have hsp := hbp.size
      have HS1 : Hid (Blk wp hb 50 #[.bool bt, .bool bc, .bool bg, .int .i64 W, .int .i64 H, .int .i64 (tp : Nat)] ∧ Blk wp pb 42 (usV pm).toArray ∧ wp.ownsRow (hb + 1) 3 1 (.slice A' m c') m (intsV (rowM k top (l.take i) ++ (pm.map (sampM k top)).take 0)) ∧ Below hb w wp) := Lib.hid ⟨ka.upd (Upd.of_fresh hbp) id, kp, by rw [List.take_zero, List.append_nil]; exact own_upd oa (Upd.of_fresh hbp) (fun _ _ => id), ba.trans (hbp.mono (by omega))⟩
      clear ka oa ba kp hbp kc ua q0 q1 q2 q3 h0 h1 h2 HV
      go_wp2_with fail
      go_loopw [5, 30] (fun v jv wr => ∃ (j mm : Nat) (A2 : Option Addr) (c2 : Nat), j ≤ pl ∧ v = .slice A2 mm c2 ∧ jv = .int .i64 (j : Int) ∧ mm = pl * i + j ∧ Hid (Blk wr hb 50 #[.bool bt, .bool bc, .bool bg, .int .i64 W, .int .i64 H, .int .i64 (tp : Nat)] ∧ Blk wr pb 42 (usV pm).toArray ∧ wr.ownsRow (hb + 1) 3 1 (.slice A2 mm c2) mm (intsV (rowM k top (l.take i) ++ (pm.map (sampM k top)).take j)) ∧ Below hb w wr)) (fun _ jv _ => pl - (intOf jv).toNat)
      case atStart => exact ⟨0, m, A', c', Nat.zero_le _, rfl, rfl, by rw [HMI.out]; rfl, HS1⟩
      case round =>
        obtain ⟨j, mm, A2, c2, hjp, rfl, rfl, hmm, HZ⟩ := hrel
        clear HS1
        have HMM := Lib.hid hmm
        clear hmm
        by_cases hjl : j < pl
        · have hjm : j < pm.length := by omega
          have y0 : wr.cell? ⟨pb, j, none⟩ = some (.int .u16 pm[j]) := by
            rw [HZ.out.2.1.cell]
            simp [usV, hjm]
          have hs := HPB.out pm[j] (List.getElem_mem hjm)
          have HT1 := Lib.hid (fun V => HTU.out pm[j] hs V)
          have HD1 := Lib.hid (fun V => HDO.out (turN k pm[j]) (turN_bd k hs) V)
          have HTJ : Hid ((pm.map (sampM k top)).take (j + 1) = (pm.map (sampM k top)).take j ++ [downN (turN k pm[j]) (tp : Nat)]) := Lib.hid (by rw [List.take_succ_eq_append_getElem (by rw [List.length_map]; exact hjm), List.getElem_map, HSM.out])
          have hsz := HZ.out.1.lt
          have hmm9 : mm ≤ 196608 := by
            have h1 := HMM.out
            have h2 : pl * i + pl ≤ pl * n := by rw [← Nat.mul_succ]; exact Nat.mul_le_mul (Nat.le_refl _) hlt
            rw [HM.out] at h2
            omega
          have z0 : wr.cell? ⟨hb, 0, none⟩ = some (.bool bt) := HZ.out.1.cell 0
          have z1 : wr.cell? ⟨hb, 1, none⟩ = some (.bool bc) := HZ.out.1.cell 1
          have z2 : wr.cell? ⟨hb, 2, none⟩ = some (.bool bg) := HZ.out.1.cell 2
          have z5 : wr.cell? ⟨hb, 5, none⟩ = some (.int .i64 (tp : Nat)) := HZ.out.1.cell 5
          have hfull : Hid (∀ w', Below wr.heap.size wr w' → (Below wr.heap.size wr w' ∧ w'.cell? ⟨hb, 0, none⟩ = some (.bool bt) ∧ w'.cell? ⟨hb, 1, none⟩ = some (.bool bc) ∧ w'.cell? ⟨hb, 2, none⟩ = some (.bool bg) ∧ w'.cell? ⟨hb, 5, none⟩ = some (.int .i64 (tp : Nat)))) :=
            Lib.hid fun w' hx => ⟨hx, (hx.cell (p := ⟨hb, 0, none⟩) hsz).trans z0, (hx.cell (p := ⟨hb, 1, none⟩) hsz).trans z1, (hx.cell (p := ⟨hb, 2, none⟩) hsz).trans z2, (hx.cell (p := ⟨hb, 5, none⟩) hsz).trans z5⟩
          generalize downN (turN k pm[j]) (tp : Nat) = dv at *
          generalize turN k pm[j] = tv at *
          generalize pm[j] = sv at *
          go_upto_region 8 with (fail)
          go_cut [10, 11] from 34 to 43 (fun v u wx => v = .int .i64 dv ∧ u = .int .i64 0 ∧ Hid (Below wr.heap.size wr wx))
          case first =>
            go_region_held3 (fun w' => Below wr.heap.size wr w' ∧ w'.cell? ⟨hb, 0, none⟩ = some (.bool bt) ∧ w'.cell? ⟨hb, 1, none⟩ = some (.bool bc) ∧ w'.cell? ⟨hb, 2, none⟩ = some (.bool bg) ∧ w'.cell? ⟨hb, 5, none⟩ = some (.int .i64 (tp : Nat)))
              (first | exact hfull.out _ hc2 | exact hfull.out _ (Below.refl _ _) | exact hfull.out _ (Below.drew (Below.refl _ _)) | exact hfull.out _ (And.left (by assumption)))
              ((first
                | (go_at_call 40; refine (HT1.out _).mono ?_; rintro e w2 ⟨rfl, hb2⟩; have hc2 : Below wr.heap.size wr w2 := (Below.trans (And.left (by assumption)) (hb2.mono (Below.size (And.left (by assumption))))))
                | (go_at_call 83; refine (HD1.out _).mono ?_; rintro e w3 ⟨rfl, rfl⟩)))
            all_goals
              go_wp2_with fail
              go_meet
              exact ⟨rfl, rfl, Lib.hid hc2⟩
          case rest =>
            obtain ⟨rfl, rfl, HBc⟩ := hcut
            obtain ⟨wd, hwd⟩ : ∃ wd : World, wd = wc := ⟨_, rfl⟩
            rw [← hwd] at HBc ⊢
            clear hwd
            have hsd := HBc.out.size
            have kd := HZ.out.1.upd (Upd.of_fresh HBc.out) id
            have kp := HZ.out.2.1.upd (Upd.of_fresh HBc.out) id
            have od := own_upd HZ.out.2.2.1 (Upd.of_fresh HBc.out) (fun _ _ => id)
            have bd := HZ.out.2.2.2.trans (HBc.out.mono (by omega))
            obtain ⟨A3, c3, w9, hrun, o9, u9⟩ := append_int1 (hb + 1) wd (.slice A2 mm c2) mm _ od (by omega) dv (by omega) 62
            have HRN := Lib.hid hrun
            have HF : Hid (Blk w9 hb 50 #[.bool bt, .bool bc, .bool bg, .int .i64 W, .int .i64 H, .int .i64 (tp : Nat)] ∧ Blk w9 pb 42 (usV pm).toArray ∧ w9.ownsRow (hb + 1) 3 1 (.slice A3 (mm + 1) c3) (mm + 1) (intsV (rowM k top (l.take i) ++ (pm.map (sampM k top)).take (j + 1))) ∧ Below hb w w9) :=
              Lib.hid ⟨kd.upd u9 (fun e => own_blk_ne od kd (by decide) e.symm), kp.upd u9 (fun e => own_blk_ne od kp (by decide) e.symm), by rw [HTJ.out, ← List.append_assoc]; exact o9, bd.trans (u9.below (by omega) (fun q hq e => by have := (od.lt q e.symm).1; omega))⟩
            clear hrun o9 u9 kd kp od bd HZ z0 z1 z2 z5 hfull HT1 HD1 HTJ
            go_wp2_with (at_builtin; refine wpList_append_run rfl (.tmp 44) (.tmp 46) _ rfl rfl rfl HRN.out ?_)
            go_roundw
            case rel => exact ⟨j + 1, mm + 1, A3, c3, by omega, rfl, by go_num, by rw [HMM.out]; omega, HF⟩
            case measure => simp [intOf]; omega
        · obtain rfl : j = pl := by omega
          have HN1 : Hid (Blk wr hb 50 #[.bool bt, .bool bc, .bool bg, .int .i64 W, .int .i64 H, .int .i64 (tp : Nat)] ∧ wr.ownsRow (hb + 1) 3 1 (.slice A2 mm c2) mm (intsV (rowM k top (l.take (i + 1)))) ∧ Below hb w wr) := Lib.hid ⟨HZ.out.1, by have := HZ.out.2.2.1; rw [show (pm.map (sampM k top)).take j = pm.map (sampM k top) from List.take_of_length_le (by rw [List.length_map]; omega), ← HTK.out] at this; exact this, HZ.out.2.2.2⟩
          go_wp2_with fail
          go_roundw
          case rel => exact ⟨i + 1, mm, A2, c2, by omega, rfl, by go_num, by rw [HMM.out, Nat.mul_add, Nat.mul_one], HN1⟩
          case measure => simp [intOf]; omega
    · obtain rfl : i = n := by omega
      go_wp2_with fail
      go_ret
      have h1 := HV.out.2.1
      rw [List.take_of_length_le (by have := HN.out; omega)] at h1
      exact ⟨A', m, c', rfl, own_low h1 (by omega), by rw [HPLN.out]; exact HMI.out, HV.out.2.2⟩
end Go.Proofs.YtfbokhdimffabaaGreatDoor
