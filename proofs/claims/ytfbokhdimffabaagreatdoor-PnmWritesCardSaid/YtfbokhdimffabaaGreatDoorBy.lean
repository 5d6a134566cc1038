/- Joined texts (a claim has at most 60 files): Nh By. -/
import Derived.Test.YtfbokhdimffabaaGreatDoorNg
import Derived.Test.YtfbokhdimffabaaGreatDoorAr
import Derived.Test.YtfbokhdimffabaaGreatDoorRo
import Derived.Test.YtfbokhdimffabaaGreatDoorU
/- The program's inDigits. -/
set_option linter.unusedVariables false
set_option linter.unusedSimpArgs false
namespace Go.Proofs.YtfbokhdimffabaaGreatDoor
open Go.ChangeShapes Go.WideShapes Go.ChangeAt Go.RowKit Go.Sort Go.Shelf
attribute [local go_sem] Oper.semAt_some

section
variable {P : Program} {w w' : World} {ops : Array Oper} {rest : List Oper} {o : Oper} {a : Act} {Q : Exit → Act → World → Prop}
theorem wpListIn_append_two {F : Fence} {n : Nat} (hgd : o.guard = none) (s x : Operand) (t u : TypeId) (ho : o.op = .call { callee := .builtin .append, args := #[s, x], argTypes := #[t, u] }) {v1 v2 v : Value} (hs : a.eval s = v1) (hx : a.eval x = v2)
    (hrun : (Builtin.append_ #[t, u] o.type #[v1, v2]).run P w = .ok v w') (h : wpListIn F n P ops Q rest (a.put o.dst v) w') : wpListIn F n P ops Q (o :: rest) a w := by
  refine wpListIn_plain hgd fun K hK => ?_
  unfold Oper.wpIn
  refine ⟨?_, ?_⟩
  · simp [Oper.about, ho, resolve, Target.leads, Sem.run_pure]
  · rw [Oper.semAt_plain F _ _ (by rw [ho]; intro c hc'; cases hc')]
    simp [execOp, ho, resolve, invoke, builtin, hs, hx, hrun, Result.andThen]
    exact hK _ _ h
end
set_option maxRecDepth 100000 in
set_option maxHeartbeats 8000000 in
theorem inDigits_any (k top : Nat) (ht1 : 1 ≤ topN k top) (ht2 : topN k top ≤ 65535) (base : Nat) (w : World) (g r c W H b0 : Nat) (L : List Col) (hg : CG w b0 g r c W H L) (hok : ∀ x ∈ L, ColK x) (hb : base ≤ w.heap.size) (A : Option Addr) (n cc : Nat) (xs : List Value) (hx : RwG w base (.slice A n cc) n xs) (hn : n ≤ 1000) (hT : Lib.TabBelow Tryz.prog base w "internal/strconv.uint64pow10" .u64 Lib.pow10Tab) :
    Calls Tryz.prog 28 #[.agg (hdA k W H (topN k top : Nat)), .slice A n cc, .pointer (some ⟨g, 0, none⟩)] w fun e w' => ∃ A' n' c', e = .returned (.slice A' n' c') ∧ RwG w' base (.slice A' n' c') n' (xs ++ Lib.byteCells (txtD k top W L H)) ∧ Below base w w' := by
  refine (callsIn_wide (n := 3)).1 ?_
  refine callsIn_of_wp_marks Tryz.func28 rfl trivial ?_ rfl
  simp only [Tryz.ntmps28, List.size_toArray, List.length_cons, List.length_nil, Nat.reduceAdd, Nat.reduceSub, Array.replicate_succ, Array.replicate_zero, List.push_toArray, List.append_toArray, List.nil_append, List.cons_append]
  refine wpIn_wide.2 ?_
  have hmix : Tryz.prog.follows .mixedOrders = true := by kernel_rfl
  unfold hdA
  go_upto_region 1 with (fail)
  obtain ⟨hd, hhd⟩ : ∃ hd : Array Value, #[.bool (kTx k), .bool (kCo k), .bool (kGr k), .int .i64 (W : Nat), .int .i64 (H : Nat), .int .i64 (topN k top : Nat)] = hd := ⟨_, rfl⟩
  have HD := Lib.hid hhd
  have hst0 : Blk ((w.alloc (.cells hd 50)).alloc (.cells #[.slice A n cc] 22)) w.heap.size 50 hd ∧ Blk ((w.alloc (.cells hd 50)).alloc (.cells #[.slice A n cc] 22)) (w.heap.size + 1) 22 #[.slice A n cc] := by
    have h2 := Blk.new (w.alloc (.cells hd 50)) 22 #[.slice A n cc]
    rw [World.size_alloc] at h2
    exact ⟨(Blk.new w 50 hd).alloc _, h2⟩
  have HS0 := Lib.hid hst0
  clear hst0
  have u02 : Upd No w ((w.alloc (.cells hd 50)).alloc (.cells #[.slice A n cc] 22)) := ((Upd.refl No w).alloc _).alloc _
  have s02 : ((w.alloc (.cells hd 50)).alloc (.cells #[.slice A n cc] 22)).heap.size = w.heap.size + 2 := by rw [World.size_alloc, World.size_alloc]
  rw [hhd]
  clear hhd
  generalize (w.alloc (.cells hd 50)).alloc (.cells #[.slice A n cc] 22) = w2 at *
  go_wp2_with fail
  refine (rowsC_any _ _).mono ?_
  rintro e w10 ⟨rfl, rfl⟩
  go_wp2_with fail
  have u10 : Upd No w (w2.alloc (.cells #[.pointer (some ⟨g, 0, none⟩)] 71)) := u02.alloc _
  have ib10 := Blk.new w2 71 #[.pointer (some ⟨g, 0, none⟩)]
  have hs10 : (w2.alloc (.cells #[.pointer (some ⟨g, 0, none⟩)] 71)).heap.size = w.heap.size + 3 := by rw [World.size_alloc, s02]
  rw [s02] at ib10
  try rw [s02]
  obtain ⟨h02, o02⟩ := HS0.out
  have hb10 := h02.upd ((Upd.refl No w2).alloc (.cells #[.pointer (some ⟨g, 0, none⟩)] 71)) id
  have ob10 := o02.upd ((Upd.refl No w2).alloc (.cells #[.pointer (some ⟨g, 0, none⟩)] 71)) id
  clear h02 o02 HS0 u02
  generalize w2.alloc (.cells #[.pointer (some ⟨g, 0, none⟩)] 71) = w10 at *
  have hst : DgI w base w.heap.size (w.heap.size + 1) (w.heap.size + 2) b0 g r c W H hd L xs (txtD k top W L 0) w10 :=
    ⟨hb10, ⟨A, n, cc, ob10, by rw [txtD, Lib.byteCells, List.map_nil, List.append_nil]; exact hx.upd u10 (fun _ _ => id)⟩, ib10, hg.upd u10 id id, u10.below hb (fun _ _ => id)⟩
  have HST := Lib.hid hst
  have hgf := hg.few
  have hw1 := hg.w1; have hw2 := hg.w2; have hh1 := hg.h1; have hh2 := hg.h2
  have HLN : Hid (L.length = W * H) := Lib.hid hg.len
  have HOK := Lib.hid hok
  have HT := Lib.hid hT
  have HXL := Lib.hid hx.len
  clear hst u10 ib10 hb10 ob10 hx hg hok hT s02
  refine wpIn_wide.1 (wpIn_range_stop (α := RowC) (F := Fence.wide) (n := 3) rfl (by omega) (gf := 79) (lb := #[.pointer (some ⟨w.heap.size + 2, 0, none⟩)]) rfl trivial (enters_of Tryz.func79 (by kernel_rfl) rfl) (rowEncC W) H
    (fun i V => DgI w base w.heap.size (w.heap.size + 1) (w.heap.size + 2) b0 g r c W H hd L xs (txtD k top W L i) V ∧ w10.heap.size ≤ V.heap.size)
    (fun i x V => RowEnC w10.heap.size W L i x V) (fun _ _ => False)
    ?seq (fun _ => rfl) ?ia ?ip ?ep ?xp ?start ?a1 ?assign ?body ?done ?stop)
  case seq =>
    intro ll R Jx V hRb hY h0 hR
    exact rows1C_in (3 - 1) (by omega) ll (w.heap.size + 2) g r c W H b0 w10.heap.size L _ R Jx (fun i V h => ⟨h.1.ib.cell 0, h.1.cg, h.2⟩) (fun i V V' h hbb => ⟨h.1.keep hb (Upd.of_fresh hbb), Nat.le_trans h.2 hbb.size⟩) hRb hY V h0 hR
  case ia => rintro i V o ⟨h, hs⟩; exact ⟨h.keep hb ((Upd.refl No V).alloc o), by rw [World.size_alloc]; omega⟩
  case ip =>
    rintro i V ll o o' hll ho hoc ⟨h, hs⟩
    exact ⟨h.put hb (by omega) ho hoc o', by have := (upd_putObj (S := (· = ll)) V ll o' rfl).size; omega⟩
  case ep => rintro i x V ll o o' hll ho hoc ⟨h1, h2⟩; exact ⟨h1, own_put h2 ho hoc o'⟩
  case xp => rintro j V ll o o' _ _ _ h; exact h
  case start => exact ⟨HST.out, Nat.le_refl _⟩
  case assign =>
    intro ll x V K hK
    dsimp only [rowEncC]
    have HK := Lib.hid hK
    clear hK
    gi_wp2
    exact HK.out
  case body =>
    rintro ll i ⟨x1, r3, c3⟩ V hi ⟨hI, hVs⟩ ⟨hx1, hxo⟩
    dsimp only at hx1 hxo
    subst hx1
    have hrl := rowL_length HLN.out hi
    have hokr : ∀ x ∈ rowL W L i, ColK x := fun x hx => HOK.out x (List.mem_of_mem_drop (List.mem_of_mem_take hx))
    have hcs : Cs V V.heap.size (some ⟨r3, 0, none⟩) (rowL W L i) := by
      have h9 : V.ownsRow w10.heap.size 70 4 (.slice (some ⟨r3, 0, none⟩) W c3) W (colsV (rowL W L i) ++ []) := by rw [List.append_nil]; exact hxo
      exact Cs.of_own (w := V) h9 (hxo.lt r3 rfl).2
    have HSA := Lib.hid (samples_any k top ht1 ht2 (W : Nat) (H : Nat) (some ⟨r3, 0, none⟩) W c3 (rowL W L i) hrl (by omega) hokr V.heap.size V hcs (Nat.le_refl _))
    unfold hdA at HSA
    have hbl := hI.hb
    rw [← HD.out] at hbl
    have q0 : V.cell? ⟨w.heap.size, 0, none⟩ = some (.bool (kTx k)) := hbl.cell 0
    have q1 : V.cell? ⟨w.heap.size, 1, none⟩ = some (.bool (kCo k)) := hbl.cell 1
    have q2 : V.cell? ⟨w.heap.size, 2, none⟩ = some (.bool (kGr k)) := hbl.cell 2
    have q3 : V.cell? ⟨w.heap.size, 3, none⟩ = some (.int .i64 (W : Nat)) := hbl.cell 3
    have q4 : V.cell? ⟨w.heap.size, 4, none⟩ = some (.int .i64 (H : Nat)) := hbl.cell 4
    have q5 : V.cell? ⟨w.heap.size, 5, none⟩ = some (.int .i64 (topN k top : Nat)) := hbl.cell 5
    have HI := Lib.hid hI; have HVS := Lib.hid hVs
    clear hrl hokr hcs hbl hI hxo hVs
    gi_wp2_with fail
    refine ⟨trivial, (CallsIn.inRound ll (callsIn_wide.2 HSA.out)).mono ?_⟩
    rintro e V1 ⟨A2, M, c2, rfl, o1, hM, hb1⟩
    have hpl := plN_le k
    have hM1 : 1 ≤ M := by rw [hM]; exact Nat.mul_pos hpl.1 hw1
    have hM2 : M ≤ 12288 := by rw [hM]; exact Nat.le_trans (Nat.mul_le_mul hpl.2 hw2) (by omega)
    obtain ⟨rb, rfl, hMc, _, hrb, hrb2⟩ := row_form o1 hM1
    have hrlen : (rowM k top (rowL W L i)).length = M := by have := o1.1; rw [intsV_length] at this; omega
    have hRB := Lib.hid (rowM_bd k top ht1 ht2 (rowL W L i) (fun x hx => HOK.out x (List.mem_of_mem_drop (List.mem_of_mem_take hx))))
    have hTL := txtD_len k top W ht1 ht2 L HOK.out i
    have hTL2 : (txtD k top W L i).length ≤ 4096 * 258049 := Nat.le_trans hTL (Nat.mul_le_mul (by omega) (by omega))
    have HNX : Hid (txtD k top W L (i + 1) = txtD k top W L i ++ (digD 0 (rowM k top (rowL W L i)) ++ [10])) := Lib.hid rfl
    obtain ⟨rw', hrw⟩ : ∃ rw', rowM k top (rowL W L i) = rw' := ⟨_, rfl⟩
    obtain ⟨T, hTT⟩ : ∃ T, txtD k top W L i = T := ⟨_, rfl⟩
    rw [hrw] at o1 hrlen hRB HNX
    rw [hTT] at HI hTL2 HNX
    have HRW := Lib.hid hrlen
    have HLO := Lib.hid (And.intro hw1 (And.intro hw2 (And.intro hh1 (And.intro hh2 hgf))))
    have HTL := Lib.hid hTL2
    have HST1 : Hid (KeepsOthers V V1 ∧ DgI w base w.heap.size (w.heap.size + 1) (w.heap.size + 2) b0 g r c W H hd L xs (T ++ digD 0 (rw'.take 0)) V1 ∧ V1.ownsRow V.heap.size 3 1 (.slice (some ⟨rb, 0, none⟩) M c2) M (intsV rw')) :=
      Lib.hid ⟨keeps_of_fresh hb1, by rw [List.take_zero, digD, List.append_nil]; exact HI.out.keep hb (Upd.of_fresh hb1), o1⟩
    have hVb := HI.out.bel.size
    clear q0 q1 q2 q3 q4 q5 HSA o1 hb1 hM hTL hTL2 hrw hTT hgf hw1 hw2 hh1 hh2 hrlen hpl HI
    gi_wp2_with fail
    gi_loopw [9, 20] (fun b iv wr => ∃ j : Nat, j ≤ M ∧ b = .string (if j = 0 then ByteArray.mk #[] else ByteArray.mk #[32]) ∧ iv = .int .i64 (j : Int) ∧ Hid (KeepsOthers V wr ∧ DgI w base w.heap.size (w.heap.size + 1) (w.heap.size + 2) b0 g r c W H hd L xs (T ++ digD 0 (rw'.take j)) wr ∧ wr.ownsRow V.heap.size 3 1 (.slice (some ⟨rb, 0, none⟩) M c2) M (intsV rw'))) (fun _ iv _ => M - (intOf iv).toNat)
    case atStart => exact ⟨0, Nat.zero_le _, rfl, rfl, HST1⟩
    case round =>
      obtain ⟨j, hj, rfl, rfl, HJ⟩ := hrel
      clear HST1
      by_cases hlt : j < M
      · obtain ⟨Ao, no, co, h1, h2⟩ := HJ.out.2.1.ob
        have hVw := HJ.out.1.size
        have hw0 : base ≤ wr.heap.size := by omega
        have hjl : j < rw'.length := by rw [HRW.out]; exact hlt
        have hsB : (if j = 0 then ByteArray.mk #[] else ByteArray.mk #[32]).size = (btw j).length ∧ Lib.strCells (if j = 0 then ByteArray.mk #[] else ByteArray.mk #[32]) = Lib.byteCells (btw j) ∧ (btw j).length ≤ 1 := by
          unfold btw
          split
          · exact ⟨rfl, rfl, by simp⟩
          · exact ⟨rfl, rfl, by simp⟩
        have hnl := h2.len
        have hdl : (digD 0 (rw'.take j)).length ≤ 21 * j := by
          have := digD_len (rw'.take j) 0 (fun v hv => (hRB.out v (List.mem_of_mem_take hv)).2)
          rw [List.length_take] at this
          omega
        have hno : no ≤ 2000 + 4096 * 258049 + 21 * j := by
          rw [List.length_append, Lib.byteCells_length, List.length_append, HXL.out] at hnl
          have := HTL.out
          omega
        obtain ⟨s, hs⟩ : ∃ s : ByteArray, (if j = 0 then ByteArray.mk #[] else ByteArray.mk #[32]) = s := ⟨_, rfl⟩
        rw [hs] at hsB ⊢
        obtain ⟨A5, c5, w5, hrun, r5, u5⟩ := h2.appS hw0 s (by rw [hsB.1]; omega) 22
        rw [hsB.1, hsB.2.1, List.append_assoc, ← Lib.byteCells_append] at r5
        rw [hsB.1] at hrun
        obtain ⟨e1, _, e2, e3, e4, e5⟩ := HJ.out.2.1.more hb (by omega) h1 h2 u5 r5
        have or5 := more_row (x := .slice A5 (no + (btw j).length) c5) h1 h2 u5 HJ.out.2.2
        have kl : wr.cell? ⟨rb, j, none⟩ = some (.int .i64 rw'[j]) := by
          have h9 := HJ.out.2.2.cells (g := rb) rfl j (.int .i64 rw'[j]) (by simp [intsV, hjl])
          rwa [Lib.add_plain, Nat.zero_add] at h9
        have kv := hRB.out rw'[j] (List.getElem_mem hjl)
        have HV : Hid (digD 0 (rw'.take (j + 1)) = digD 0 (rw'.take j) ++ (btw j ++ decB rw'[j])) := Lib.hid (by
          rw [List.take_succ_eq_append_getElem hjl, digD_snoc, List.length_take, Nat.zero_add, Nat.min_eq_left (by omega)])
        have k1 : wr.cell? ⟨w.heap.size + 1, 0, none⟩ = some (.slice Ao no co) := h1.cell 0
        have k2 : w5.cell? ⟨w.heap.size + 1, 0, none⟩ = some (.slice Ao no co) := e1.cell 0
        have k3 := e1.frozen 0
        have HK1 := Lib.hid (HJ.out.1.trans e2)
        obtain ⟨vn, hvn⟩ : ∃ vn : Nat, rw'[j] = (vn : Int) := ⟨rw'[j].toNat, by omega⟩
        have HDV : Hid (decB rw'[j] = Lib.decDigits vn) := Lib.hid (by rw [decB, hvn]; rfl)
        rw [hvn] at kl kv
        have HR5 := Lib.hid hrun
        have HE := Lib.hid (And.intro e3 (And.intro e4 (And.intro e5 or5)))
        have k4 : (w5.setCell ⟨w.heap.size + 1, 0, none⟩ (.slice A5 (no + (btw j).length) c5)).cell? ⟨w.heap.size + 1, 0, none⟩ = some (.slice A5 (no + (btw j).length) c5) := e3.cell 0
        have HAP := Lib.hid (appI_any base (no + (btw j).length) vn (by omega) (.slice A5 (no + (btw j).length) c5) _ (w5.setCell ⟨w.heap.size + 1, 0, none⟩ (.slice A5 (no + (btw j).length) c5)) e4 (Nat.le_trans hw0 (by have := u5.size; rw [World.size_setCell]; exact this)) (by omega) (HT.out _ e5.bel))
        have HSZ := Lib.hid hsB
        clear h1 h2 hrun r5 u5 e1 e2 e3 e4 e5 or5 hnl hdl hs hsB HJ
        gi_wp2_with (gi_at_builtin; refine wpListIn_append_two rfl (.tmp 24) (.tmp 25) _ _ rfl rfl rfl HR5.out ?_)
        refine ⟨trivial, (CallsIn.inRound ll (callsIn_wide.2 HAP.out)).mono ?_⟩
        rintro e w7 ⟨A7, c7, rfl, r7, u7⟩
        rw [List.append_assoc, ← Lib.byteCells_append] at r7
        obtain ⟨f1, _, f2, f3, f4, f5⟩ := HE.out.2.2.1.more hb (by omega) HE.out.1 HE.out.2.1 u7 r7
        have or7 := more_row (x := .slice A7 (no + (btw j).length + (Lib.decDigits vn).length) c7) HE.out.1 HE.out.2.1 u7 HE.out.2.2.2
        have hcat : T ++ digD 0 (rw'.take j) ++ btw j ++ Lib.decDigits vn = T ++ digD 0 (rw'.take (j + 1)) := by rw [HV.out, HDV.out]; simp only [List.append_assoc]
        rw [hcat] at f5
        have HG := Lib.hid (And.intro (HK1.out.trans f2) (And.intro f5 or7))
        have k5 : w7.cell? ⟨w.heap.size + 1, 0, none⟩ = some (.slice A5 (no + (btw j).length) c5) := f1.cell 0
        have k6 := f1.frozen 0
        clear r7 u7 f1 f2 f3 f4 f5 or7 hcat k1 k2 k3 k4 HE HK1 HAP HV HDV HSZ
        gi_wp2_with fail
        go_roundw
        case rel => exact ⟨j + 1, by omega, by rw [if_neg (by omega)], by go_num, HG⟩
        case measure => simp [intOf]; omega
      · obtain rfl : j = M := by omega
        have hVw := HJ.out.1.size
        have hw0 : base ≤ wr.heap.size := by omega
        have htk : rw'.take j = rw' := List.take_of_length_le (by rw [HRW.out]; exact Nat.le_refl _)
        have hJ2 := HJ.out.2.1
        rw [htk] at hJ2
        have uz : Upd No wr (wr.alloc (.cells #[.int .u8 10] 5)) := (Upd.refl No wr).alloc _
        have hJz := hJ2.keep hb uz
        obtain ⟨Ao, no, co, h1, h2⟩ := hJ2.ob
        have h1z := h1.upd uz id
        have h2z := h2.upd uz (fun _ _ => id)
        have hdl : (digD 0 rw').length ≤ 21 * j := by
          have := digD_len rw' 0 (fun v hv => (hRB.out v hv).2)
          rw [HRW.out] at this
          exact this
        have hnl := h2.len
        have hno : no ≤ 2000 + 4096 * 258049 + 21 * j := by
          rw [List.length_append, Lib.byteCells_length, List.length_append, HXL.out] at hnl
          have := HTL.out
          omega
        have hkz : (wr.alloc (.cells #[.int .u8 10] 5)).cell? ⟨wr.heap.size, 0, none⟩ = some (.int .u8 10) := (Blk.new wr 5 #[.int .u8 10]).cell 0
        obtain ⟨A5, c5, w5, hrun, r5, u5⟩ := h2z.app (Nat.le_trans hw0 uz.size) ⟨wr.heap.size, 0, none⟩ 1 1 [.int .u8 10] rfl (fun q y hy => by
          match q, hy with
          | 0, hy => simp at hy; subst hy; rw [Lib.add_plain]; exact hkz) (by intro y hy; simp at hy; subst hy; rfl) (by omega) 22
        have hcb : xs ++ Lib.byteCells (T ++ digD 0 rw') ++ [Value.int .u8 10] = xs ++ Lib.byteCells (T ++ digD 0 rw' ++ [10]) := by
          rw [List.append_assoc, Lib.byteCells_append (T ++ digD 0 rw')]; rfl
        rw [hcb] at r5
        obtain ⟨e1, _, e2, e3, e4, e5⟩ := hJz.more hb (by omega) h1z h2z u5 r5
        rw [List.append_assoc, ← HNX.out] at e5
        have kz : KeepsOthers wr (wr.alloc (.cells #[.int .u8 10] 5)) := keeps_of_fresh uz.fresh
        have HFIN := Lib.hid (And.intro (HJ.out.1.trans (kz.trans e2)) e5)
        have HR5 := Lib.hid hrun
        have k1 : (wr.alloc (.cells #[.int .u8 10] 5)).cell? ⟨w.heap.size + 1, 0, none⟩ = some (.slice Ao no co) := h1z.cell 0
        have k0 : wr.cell? ⟨w.heap.size + 1, 0, none⟩ = some (.slice Ao no co) := h1.cell 0
        have k2 : w5.cell? ⟨w.heap.size + 1, 0, none⟩ = some (.slice Ao no co) := e1.cell 0
        have k3 := e1.frozen 0
        clear h1 h2 h1z h2z hJz hJ2 hrun r5 u5 e1 e2 e3 e4 e5 hnl hdl kz hkz uz htk HJ
        gi_wp2_with (gi_at_builtin; refine wpListIn_append_run rfl (.tmp 31) (.tmp 32) _ rfl rfl rfl HR5.out ?_)
        exact ⟨HFIN.out.1, HFIN.out.2, by have := HFIN.out.1.size; have := HVS.out; omega⟩
  case done =>
    rintro D V hD ⟨hI, hVs⟩ hK
    obtain ⟨Ao, no, co, h1, h2⟩ := hI.ob
    have k1 : V.cell? ⟨w.heap.size + 1, 0, none⟩ = some (.slice Ao no co) := h1.cell 0
    have HF := Lib.hid (And.intro h2 hI.bel)
    have HK := Lib.hid hK
    clear h1 h2 hI hK
    go_wp2_with fail
    refine ⟨by simp, .inl ⟨_, _, rfl, run_takeDeferred HK.out, ?_⟩⟩
    have u := upd_putObj (S := (· = D)) V D (.deferred none) rfl
    have hsz := HF.out.2.size
    exact ⟨.slice Ao no co, by simp [results, Tryz.results28, go_sem], Ao, no, co, rfl, HF.out.1.put_ HK.out rfl _, HF.out.2.trans (u.below (Nat.le_trans hb hsz) (fun j hj e => by omega))⟩
  case stop => rintro D cx V _ h; exact h.elim
end Go.Proofs.YtfbokhdimffabaaGreatDoor

/- Contracts of the reader's Align and Bytes (for later layers). -/
namespace Go.Proofs.YtfbokhdimffabaaGreatDoor
open Go.ChangeShapes Go.WideShapes Go.ChangeAt Go.RowKit

theorem bytesFor_any (n : Int) (w : World) (h0 : 0 ≤ n) (h1 : n ≤ 9223372036854775800) :
    Calls Tryz.prog 75 #[.int .i64 n] w fun e w' => e = .returned (.int .i64 ((n + 7) / 8)) ∧ w = w' := by
  go_enter Tryz.func75, Tryz.ntmps75
  go_wp2
  go_ret
  exact ⟨rfl, rfl⟩
set_option maxHeartbeats 400000 in
theorem align_any (w : World) (base g : Nat) (A : Option Addr) (c : Nat) (l : List UInt8) (high : Bool) (at_ : Nat) (h : Rdr w base g A c l high at_) :
    Calls Tryz.prog 48 #[.pointer (some ⟨g, 0, none⟩)] w fun e w' => e = .returned (.tuple #[]) ∧ Rdr w' base g A c l high ((at_ + 7) / 8 * 8) ∧ Upd (· = g) w w' := by
  have hc1 := h.place
  have hb := h.2.2.2
  have hfr := h.free 1
  have H := Lib.hid h; clear h
  go_enter Tryz.func48, Tryz.ntmps48
  go_wp2_with fail
  go_wp2_with (go_at_call 75; refine (bytesFor_any _ _ (by omega) (by omega)).mono ?_; rintro e w1 ⟨rfl, rfl⟩)
  go_end0
  have e : (8 : Int) * (((at_ : Int) + 7) / 8) = (((at_ + 7) / 8 * 8 : Nat) : Int) := by omega
  rw [e]
  exact ⟨rfl, H.out.set_ _ (by omega), (Upd.refl (· = g) w).setCell (p := ⟨g, 1, none⟩) (fun _ => rfl) _⟩

def BytesRes (w : World) (base g : Nat) (A : Option Addr) (c : Nat) (l : List UInt8) (high : Bool) (from_ n : Nat) (e : Ending) (w' : World) : Prop :=
  ∃ A' c', e = .returned (.tuple #[.slice A' n c', .int .i64 0]) ∧ w'.ownsRow w.heap.size 5 1 (.slice A' n c') n (bytesV ((l.drop from_).take n)) ∧ Rdr w' base g A c l high (8 * (from_ + n)) ∧ Upd (· = g) w w'
end Go.Proofs.YtfbokhdimffabaaGreatDoor
