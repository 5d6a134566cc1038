/- The program's inBits. -/
import Derived.Test.YtfbokhdimffabaaGreatDoorNi
set_option linter.unusedVariables false
set_option linter.unusedSimpArgs false
namespace Go.Proofs.YtfbokhdimffabaaGreatDoor
open Go.ChangeShapes Go.WideShapes Go.ChangeAt Go.RowKit Go.Sort Go.Shelf
attribute [local go_sem] Oper.semAt_some

theorem wpRound_region_H {P : Program} {ll n id : Nat} {Q : Exit → Act → World → Prop} {a : Act} {w : World} {l : List Oper} (S : World → Prop) (hm : P.follows .mixedOrders = true) (hnd : noDefer l.toArray = true) (hLO : ¬ LetsOut Q) (fuel : Nat) (hfu : l.toArray.size = fuel)
    (h : wpAnyH P .any l.toArray Q S fuel (Array.replicate fuel false) a w.drew) : (Code.region id l.toArray true).wpIn (Fence.wide.inRound ll) n P Q a w := by
  subst hfu
  exact wpIn_region_any hm (anyRound_of_any hnd hLO _ _ _ _ (wpAny_of_held _ _ _ _ h))
set_option maxRecDepth 100000 in
set_option maxHeartbeats 8000000 in
theorem inBits_any (k top : Nat) (ht1 : 1 ≤ topN k top) (ht2 : topN k top ≤ 65535) (htop : top ≤ 65535) (w : World) (g r c W H b0 : Nat) (L : List Col) (hg : CG w b0 g r c W H L) (hok : ∀ x ∈ L, ColK x) :
    Calls Tryz.prog 30 #[.agg (hdA k W H (topN k top : Nat)), .pointer (some ⟨g, 0, none⟩)] w fun e w' => ∃ A' l c', e = .returned (.slice A' l.length c') ∧ Packed true (bitT k top W L H) l ∧ w'.ownsRow w.heap.size 5 1 (.slice A' l.length c') l.length (bytesV l) ∧ Below w.heap.size w w' := by
  refine (callsIn_wide (n := 3)).1 ?_
  refine callsIn_of_wp_marks Tryz.func30 rfl trivial ?_ rfl
  simp only [Tryz.ntmps30, List.size_toArray, List.length_cons, List.length_nil, Nat.reduceAdd, Nat.reduceSub, Array.replicate_succ, Array.replicate_zero, List.push_toArray, List.append_toArray, List.nil_append, List.cons_append]
  refine wpIn_wide.2 ?_
  have hmix : Tryz.prog.follows .mixedOrders = true := by kernel_rfl
  unfold hdA
  obtain ⟨hd, hhd⟩ : ∃ hd : Array Value, #[.bool (kTx k), .bool (kCo k), .bool (kGr k), .int .i64 (W : Nat), .int .i64 (H : Nat), .int .i64 (topN k top : Nat)] = hd := ⟨_, rfl⟩
  have HD := Lib.hid hhd
  go_upto_region 1 with (fail)
  have HS1 : Hid (Blk (w.alloc (.cells hd 50)) w.heap.size 50 hd ∧ Upd No w (w.alloc (.cells hd 50)) ∧ (w.alloc (.cells hd 50)).heap.size = w.heap.size + 1) := Lib.hid ⟨Blk.new _ _ _, (Upd.refl No w).alloc _, World.size_alloc _ _⟩
  rw [hhd]
  clear hhd
  generalize w.alloc (.cells hd 50) = w1 at *
  go_wp2_with fail
  refine (newWriter_any true w1).mono ?_
  rintro e w2 ⟨gw, rfl, hW, hb2, hgw⟩
  obtain ⟨hb1, u1, s1⟩ := HS1.out
  rw [s1] at hW
  have HS2 : Hid (Blk w2 w.heap.size 50 hd ∧ Wraw w2 (w.heap.size + 1) gw none 0 [] true 0 ∧ Upd No w w2 ∧ w.heap.size + 1 < w2.heap.size) := Lib.hid ⟨hb1.upd (Upd.of_fresh hb2) id, hW, u1.trans (Upd.of_fresh hb2), by have := hb2.size; have := hW.2.2; omega⟩
  clear hb1 u1 s1 hW hb2 hgw HS1
  go_upto_region 2 with (fail)
  obtain ⟨wb, hwb⟩ : ∃ wb, w2.heap.size = wb := ⟨_, rfl⟩
  have HS3 : Hid (Blk (w2.alloc (.cells #[.pointer (some ⟨gw, 0, none⟩)] 113)) w.heap.size 50 hd ∧ Blk (w2.alloc (.cells #[.pointer (some ⟨gw, 0, none⟩)] 113)) wb 113 #[.pointer (some ⟨gw, 0, none⟩)] ∧ Wraw (w2.alloc (.cells #[.pointer (some ⟨gw, 0, none⟩)] 113)) (w.heap.size + 1) gw none 0 [] true 0 ∧ Upd No w (w2.alloc (.cells #[.pointer (some ⟨gw, 0, none⟩)] 113)) ∧ (w2.alloc (.cells #[.pointer (some ⟨gw, 0, none⟩)] 113)).heap.size = wb + 1 ∧ w.heap.size + 1 < wb) := Lib.hid (by
    obtain ⟨h1, h2, h3, h4⟩ := HS2.out
    have u := (Upd.refl No w2).alloc (.cells #[.pointer (some ⟨gw, 0, none⟩)] 113)
    exact ⟨h1.upd u id, by rw [← hwb]; exact Blk.new w2 _ _, h2.upd u id (fun _ _ => id), h3.alloc _, by rw [World.size_alloc, hwb], by omega⟩)
  try rw [hwb]
  clear hwb HS2
  generalize w2.alloc (.cells #[.pointer (some ⟨gw, 0, none⟩)] 113) = w3 at *
  go_wp2_with fail
  refine (rowsC_any _ _).mono ?_
  rintro e w10 ⟨rfl, rfl⟩
  go_wp2_with fail
  have HST : Hid (BtI w wb (wb + 1) b0 g r c W H hd L gw (bitT k top W L 0) (w3.alloc (.cells #[.pointer (some ⟨g, 0, none⟩)] 71)) ∧ w3.heap.size = wb + 1 ∧ w.heap.size + 1 < wb) := Lib.hid (by
    obtain ⟨h1, h2, h3, h4, h5, h6⟩ := HS3.out
    have u := (Upd.refl No w3).alloc (.cells #[.pointer (some ⟨g, 0, none⟩)] 71)
    have uw := h4.alloc (.cells #[.pointer (some ⟨g, 0, none⟩)] 71)
    exact ⟨⟨h1.upd u id, h2.upd u id, by rw [← h5]; exact Blk.new w3 _ _, hg.upd uw id id, ⟨hg.blk.lt, hg.form.2.2.2⟩, ⟨none, 0, [], h3.upd u id (fun _ _ => id), packed_nil true⟩, uw.fresh⟩, h5, h6⟩)
  obtain ⟨_, h3s, h3w⟩ := HST.out
  try rw [h3s]
  have hs10 : (w3.alloc (.cells #[.pointer (some ⟨g, 0, none⟩)] 71)).heap.size = wb + 2 := by rw [World.size_alloc, h3s]
  clear HS3 h3s
  generalize w3.alloc (.cells #[.pointer (some ⟨g, 0, none⟩)] 71) = w10 at *
  have hgf := hg.few
  have hw1 := hg.w1; have hw2 := hg.w2; have hh1 := hg.h1; have hh2 := hg.h2
  have HLN : Hid (L.length = W * H) := Lib.hid hg.len
  have HOK := Lib.hid hok
  clear hg hok
  refine wpIn_wide.1 (wpIn_range_stop (α := RowC) (F := Fence.wide) (n := 3) rfl (by omega) (gf := 79) (lb := #[.pointer (some ⟨wb + 1, 0, none⟩)]) rfl trivial (enters_of Tryz.func79 (by kernel_rfl) rfl) (rowEncC W) H
    (fun i V => BtI w wb (wb + 1) b0 g r c W H hd L gw (bitT k top W L i) V ∧ w10.heap.size ≤ V.heap.size)
    (fun i x V => RowEnC w10.heap.size W L i x V) (fun _ _ => False)
    ?seq (fun _ => rfl) ?ia ?ip ?ep ?xp ?start ?a1 ?assign ?body ?done ?stop)
  case seq =>
    intro ll R Jx V hRb hY h0 hR
    exact rows1C_in (3 - 1) (by omega) ll (wb + 1) g r c W H b0 w10.heap.size L _ R Jx (fun i V h => ⟨h.1.ib.cell 0, h.1.cg, h.2⟩) (fun i V V' h hbb => ⟨h.1.keep (Upd.of_fresh hbb), Nat.le_trans h.2 hbb.size⟩) hRb hY V h0 hR
  case ia => rintro i V o ⟨h, hs⟩; exact ⟨h.keep ((Upd.refl No V).alloc o), by rw [World.size_alloc]; omega⟩
  case ip =>
    rintro i V ll o o' hll ho hoc ⟨h, hs⟩
    exact ⟨h.put (by omega) ho hoc o', by have := (upd_putObj (S := (· = ll)) V ll o' rfl).size; omega⟩
  case ep => rintro i x V ll o o' hll ho hoc ⟨h1, h2⟩; exact ⟨h1, own_put h2 ho hoc o'⟩
  case xp => rintro j V ll o o' _ _ _ h; exact h
  case start => exact ⟨HST.out.1, Nat.le_refl _⟩
  case assign =>
    intro ll x V K hK
    dsimp only [rowEncC]
    have HK := Lib.hid hK
    clear hK
    gi_wp2
    exact HK.out
  case body =>
    rintro ll i ⟨x1, r3, c3⟩ V hi ⟨hI, hVs⟩ ⟨hx1, hxo⟩
    dsimp only at hx1 hxo
    subst hx1
    have hrl := rowL_length HLN.out hi
    have hokr : ∀ x ∈ rowL W L i, ColK x := fun x hx => HOK.out x (List.mem_of_mem_drop (List.mem_of_mem_take hx))
    have hcs : Cs V V.heap.size (some ⟨r3, 0, none⟩) (rowL W L i) := by
      have h9 : V.ownsRow w10.heap.size 70 4 (.slice (some ⟨r3, 0, none⟩) W c3) W (colsV (rowL W L i) ++ []) := by rw [List.append_nil]; exact hxo
      exact Cs.of_own (w := V) h9 (hxo.lt r3 rfl).2
    have HSA := Lib.hid (samples_any k top ht1 ht2 (W : Nat) (H : Nat) (some ⟨r3, 0, none⟩) W c3 (rowL W L i) hrl (by omega) hokr V.heap.size V hcs (Nat.le_refl _))
    unfold hdA at HSA
    have HBL : Hid (∀ {V : World} {bs : List Bool}, BtI w wb (wb + 1) b0 g r c W H hd L gw bs V → V.cell? ⟨w.heap.size, 0, none⟩ = some (.bool (kTx k)) ∧ V.cell? ⟨w.heap.size, 1, none⟩ = some (.bool (kCo k)) ∧ V.cell? ⟨w.heap.size, 2, none⟩ = some (.bool (kGr k)) ∧ V.cell? ⟨w.heap.size, 3, none⟩ = some (.int .i64 (W : Nat)) ∧ V.cell? ⟨w.heap.size, 4, none⟩ = some (.int .i64 (H : Nat)) ∧ V.cell? ⟨w.heap.size, 5, none⟩ = some (.int .i64 (topN k top : Nat))) := Lib.hid fun h => by
      have hbl := h.hb
      rw [← HD.out] at hbl
      exact ⟨hbl.cell 0, hbl.cell 1, hbl.cell 2, hbl.cell 3, hbl.cell 4, hbl.cell 5⟩
    obtain ⟨q0, q1, q2, q3, q4, q5⟩ := HBL.out hI
    have HI := Lib.hid hI; have HVS := Lib.hid hVs
    clear hrl hokr hcs hI hxo hVs
    gi_wp2_with fail
    refine ⟨trivial, (CallsIn.inRound ll (callsIn_wide.2 HSA.out)).mono ?_⟩
    rintro e V1 ⟨A2, M, cM, rfl, o1, hM, hb1⟩
    have hpl := plN_le k
    have hM1 : 1 ≤ M := by rw [hM]; exact Nat.mul_pos hpl.1 hw1
    have hM2 : M ≤ 12288 := by rw [hM]; exact Nat.le_trans (Nat.mul_le_mul hpl.2 hw2) (by omega)
    obtain ⟨rb, rfl, hMc, _, hrb, hrb2⟩ := row_form o1 hM1
    have hrlen : (rowM k top (rowL W L i)).length = M := by have := o1.1; rw [intsV_length] at this; omega
    have hRB := Lib.hid (rowM_bd k top ht1 ht2 (rowL W L i) (fun x hx => HOK.out x (List.mem_of_mem_drop (List.mem_of_mem_take hx))))
    have hTL := bitT_len k top W L i
    have hTL2 : (bitT k top W L i).length ≤ 4096 * 196615 := Nat.le_trans hTL (Nat.mul_le_mul (by omega) (by omega))
    have HNX : Hid (bitT k top W L (i + 1) = padP (bitT k top W L i ++ rowBt k top (rowM k top (rowL W L i)))) := Lib.hid rfl
    obtain ⟨rw', hrw⟩ : ∃ rw', rowM k top (rowL W L i) = rw' := ⟨_, rfl⟩
    obtain ⟨T, hTT⟩ : ∃ T, bitT k top W L i = T := ⟨_, rfl⟩
    rw [hrw] at o1 hrlen hRB HNX
    rw [hTT] at HI hTL2 HNX
    have HRW := Lib.hid hrlen
    have HTL := Lib.hid hTL2
    have HST1 : Hid (KeepsOthers V V1 ∧ BtI w wb (wb + 1) b0 g r c W H hd L gw (T ++ rowBt k top (rw'.take 0)) V1 ∧ V1.ownsRow V.heap.size 3 1 (.slice (some ⟨rb, 0, none⟩) M cM) M (intsV rw')) :=
      Lib.hid ⟨keeps_of_fresh hb1, by rw [List.take_zero, show rowBt k top [] = [] from rfl, List.append_nil]; exact HI.out.keep (Upd.of_fresh hb1), o1⟩
    have hVb := HI.out.bel.size
    clear q0 q1 q2 q3 q4 q5 HSA o1 hb1 hM hTL hTL2 hrw hTT hgf hw1 hw2 hh1 hh2 hrlen hpl HI
    gi_wp2_with fail
    gi_loopw [19] (fun iv wr => ∃ j : Nat, j ≤ M ∧ iv = .int .i64 (j : Int) ∧ Hid (KeepsOthers V wr ∧ BtI w wb (wb + 1) b0 g r c W H hd L gw (T ++ rowBt k top (rw'.take j)) wr ∧ wr.ownsRow V.heap.size 3 1 (.slice (some ⟨rb, 0, none⟩) M cM) M (intsV rw'))) (fun iv _ => M - (intOf iv).toNat)
    case atStart => exact ⟨0, Nat.zero_le _, rfl, HST1⟩
    case round =>
      obtain ⟨j, hj, rfl, HJ⟩ := hrel
      clear HST1
      by_cases hlt : j < M
      · have hVw := HJ.out.1.size
        have hjl : j < rw'.length := by rw [HRW.out]; exact hlt
        have kl : wr.cell? ⟨rb, j, none⟩ = some (.int .i64 rw'[j]) := by
          have h9 := HJ.out.2.2.cells (g := rb) rfl j (.int .i64 rw'[j]) (by simp [intsV, hjl])
          rwa [Lib.add_plain, Nat.zero_add] at h9
        have kv := hRB.out rw'[j] (List.getElem_mem hjl)
        obtain ⟨vn, hvn⟩ : ∃ vn : Nat, rw'[j] = (vn : Int) := ⟨rw'[j].toNat, by omega⟩
        have HV : Hid (rowBt k top (rw'.take (j + 1)) = rowBt k top (rw'.take j) ++ bitsOf true vn (depN k top)) := Lib.hid (by
          rw [List.take_succ_eq_append_getElem hjl, rowBt_snoc, hvn]; rfl)
        rw [hvn] at kl kv
        have hbl : ((T ++ rowBt k top (rw'.take j)).length : Nat) ≤ 4096 * 196615 + 16 * 12288 := by
          have h1 := rowBt_length k top (rw'.take j)
          have h2 : depN k top * (rw'.take j).length ≤ 16 * 12288 := Nat.mul_le_mul (depN_le k top).2 (by rw [List.length_take]; omega)
          have := HTL.out
          rw [List.length_append]
          omega
        have hdp := depN_le k top
        have hJd := HJ.out.2.1.keep ((Upd.refl No wr).drew)
        have HS0 : Hid (Blk wr.drew wb 113 #[.pointer (some ⟨gw, 0, none⟩)] ∧ Blk wr.drew w.heap.size 50 hd) := Lib.hid ⟨hJd.wx, hJd.hb⟩
        have HDP := Lib.hid (depth_any k top (kTx k) (kCo k) (W : Nat) (H : Nat) htop wr.drew)
        have HPT : Hid (∀ wd, Below wr.drew.heap.size wr.drew wd → (Blk wd wb 113 #[.pointer (some ⟨gw, 0, none⟩)] ∧ Blk wd w.heap.size 50 hd) ∧ Calls Tryz.prog 60 #[.pointer (some ⟨gw, 0, none⟩), .int .u32 (vn : Nat), .int .i64 (depN k top : Nat)] wd fun e w' => e = .returned (.int .i64 0) ∧ (Blk w' wb 113 #[.pointer (some ⟨gw, 0, none⟩)] ∧ Blk w' w.heap.size 50 hd) ∧ (KeepsOthers V w' ∧ BtI w wb (wb + 1) b0 g r c W H hd L gw (T ++ rowBt k top (rw'.take (j + 1))) w' ∧ w'.ownsRow V.heap.size 3 1 (.slice (some ⟨rb, 0, none⟩) M cM) M (intsV rw'))) := Lib.hid (fun wd hwd => by
          have ud : Upd No wr wd := ((Upd.refl No wr).drew).trans (Upd.of_fresh hwd)
          have hI2 := HJ.out.2.1.keep ud
          have o2 := own_upd HJ.out.2.2 ud (fun _ _ => id)
          obtain ⟨A1, c1, l1, hW, hP⟩ := hI2.wt
          refine ⟨⟨hI2.wx, hI2.hb⟩, (put_any wd (w.heap.size + 1) gw A1 c1 l1 true (T ++ rowBt k top (rw'.take j)) vn (depN k top) hW hP (by omega) (by omega) (by omega) (by have := hI2.bel.size; have := hI2.wx.lt; omega)).mono ?_⟩
          rintro e w' ⟨rfl, A2, c2, l2, hW2, hn2, hP2, hu2, _⟩
          rw [hn2] at hW2
          obtain ⟨e1, e2, e3⟩ := hI2.wrote hW o2 hu2 hW2 hP2
          rw [List.append_assoc, ← HV.out] at e1
          exact ⟨rfl, ⟨e1.wx, e1.hb⟩, (HJ.out.1.trans (keeps_of_fresh ud.fresh)).trans e2, e1, e3⟩)
        clear hJd hbl HV HJ hvn
        gi_wp2_with fail
        refine wpRound_region_H (fun W' => Blk W' wb 113 #[.pointer (some ⟨gw, 0, none⟩)] ∧ Blk W' w.heap.size 50 hd) hmix (by kernel_rfl) (by rintro ⟨_, _, h⟩; exact h) 6 rfl ?_
        refine' wpAnyH_take (i := 0) (oi := _) (v := .pointer (some ⟨gw, 0, none⟩)) ?hi0 ?hs0 ?hf0 ?hr0 ?hQ0 (Or.inl ⟨?hw0, ?hy0⟩) HS0.out ?rest0
        case hi0 => (simp only [List.getElem?_toArray, List.getElem?_cons_succ, List.getElem?_cons_zero]; rfl)
        case hs0 => kernel_rfl
        case hf0 => kernel_rfl
        case hr0 => kernel_rfl
        case hQ0 => (intro _ _ _ h; exact h)
        case hw0 => rfl
        case hy0 =>
          rintro wz ⟨z1, _⟩
          have y0 : wz.cell? ⟨wb, 0, none⟩ = some (.pointer (some ⟨gw, 0, none⟩)) := z1.cell 0
          go_simp
        simp only [Act.put, List.getElem_toArray, List.getElem_cons_succ, List.getElem_cons_zero, List.setIfInBounds_toArray, List.set_cons_zero, List.set_cons_succ]
        refine' wpAnyH_take (i := 1) (oi := _) (v := .int .i64 (vn : Nat)) ?hi1 ?hs1 ?hf1 ?hr1 ?hQ1 (Or.inl ⟨?hw1, ?hy1⟩) HS0.out ?rest1
        case hi1 => (simp only [List.getElem?_toArray, List.getElem?_cons_succ, List.getElem?_cons_zero]; rfl)
        case hs1 => kernel_rfl
        case hf1 => kernel_rfl
        case hr1 => kernel_rfl
        case hQ1 => (intro _ _ _ h; exact h)
        case hw1 => rfl
        case hy1 =>
          rintro wz _
          go_simp
        simp only [Act.put, List.getElem_toArray, List.getElem_cons_succ, List.getElem_cons_zero, List.setIfInBounds_toArray, List.set_cons_zero, List.set_cons_succ]
        refine' wpAnyH_take (i := 2) (oi := _) (v := .int .u32 (vn : Nat)) ?hi2 ?hs2 ?hf2 ?hr2 ?hQ2 (Or.inl ⟨?hw2, ?hy2⟩) HS0.out ?rest2
        case hi2 => (simp only [List.getElem?_toArray, List.getElem?_cons_succ, List.getElem?_cons_zero]; rfl)
        case hs2 => kernel_rfl
        case hf2 => kernel_rfl
        case hr2 => kernel_rfl
        case hQ2 => (intro _ _ _ h; exact h)
        case hw2 => rfl
        case hy2 =>
          rintro wz _
          go_simp
          first | done | exact IntWalk.u32_in _ (by omega) | (rw [IntKind.wrap_u32]; omega) | omega
        simp only [Act.put, List.getElem_toArray, List.getElem_cons_succ, List.getElem_cons_zero, List.setIfInBounds_toArray, List.set_cons_zero, List.set_cons_succ]
        refine' wpAnyH_take (i := 3) (oi := _) (v := .agg #[.bool (kTx k), .bool (kCo k), .bool (kGr k), .int .i64 (W : Nat), .int .i64 (H : Nat), .int .i64 (topN k top : Nat)]) ?hi3 ?hs3 ?hf3 ?hr3 ?hQ3 (Or.inl ⟨?hw3, ?hy3⟩) HS0.out ?rest3
        case hi3 => (simp only [List.getElem?_toArray, List.getElem?_cons_succ, List.getElem?_cons_zero]; rfl)
        case hs3 => kernel_rfl
        case hf3 => kernel_rfl
        case hr3 => kernel_rfl
        case hQ3 => (intro _ _ _ h; exact h)
        case hw3 => rfl
        case hy3 =>
          rintro wz ⟨_, z1⟩
          rw [← HD.out] at z1
          have y0 : wz.cell? ⟨w.heap.size, 0, none⟩ = some (.bool (kTx k)) := z1.cell 0
          have y1 : wz.cell? ⟨w.heap.size, 1, none⟩ = some (.bool (kCo k)) := z1.cell 1
          have y2 : wz.cell? ⟨w.heap.size, 2, none⟩ = some (.bool (kGr k)) := z1.cell 2
          have y3 : wz.cell? ⟨w.heap.size, 3, none⟩ = some (.int .i64 (W : Nat)) := z1.cell 3
          have y4 : wz.cell? ⟨w.heap.size, 4, none⟩ = some (.int .i64 (H : Nat)) := z1.cell 4
          have y5 : wz.cell? ⟨w.heap.size, 5, none⟩ = some (.int .i64 (topN k top : Nat)) := z1.cell 5
          go_simp
        simp only [Act.put, List.getElem_toArray, List.getElem_cons_succ, List.getElem_cons_zero, List.setIfInBounds_toArray, List.set_cons_zero, List.set_cons_succ]
        refine wpAnyH_ready (rs := [4]) (by kernel_rfl) (by simp) ?_
        refine' AllReadyH.cons (o := _) ?ho4 (fun K hK => ?s4) ?m4
        case ho4 => (simp only [List.getElem?_toArray, List.getElem?_cons_succ, List.getElem?_cons_zero]; rfl)
        case m4 => exact AllReadyH.nil
        case s4 =>
        go_simp
        refine HDP.out.mono ?_
        rintro e wd ⟨rfl, hbd⟩
        obtain ⟨hSd, hPd⟩ := HPT.out wd hbd
        have HPd := Lib.hid hPd
        clear hbd hPd HPT HDP
        go_simp
        refine hK.out _ _ hSd (fun _ => ?_)
        clear hK K
        refine wpAnyH_ready (rs := [5]) (by kernel_rfl) (by simp) ?_
        refine' AllReadyH.cons (o := _) ?ho5 (fun K hK => ?s5) ?m5
        case ho5 => (simp only [List.getElem?_toArray, List.getElem?_cons_succ, List.getElem?_cons_zero]; rfl)
        case m5 => exact AllReadyH.nil
        case s5 =>
        go_simp
        refine HPd.out.mono ?_
        rintro e w8 ⟨rfl, hS8, hK8⟩
        have HK8 := Lib.hid hK8
        clear hK8 HPd
        go_simp
        refine hK.out _ _ hS8 (fun _ => ?_)
        clear hK K
        refine wpAnyH_done (by kernel_rfl) ?_ _
        gi_wp2_with fail
        go_roundw
        case rel => exact ⟨j + 1, by omega, by go_num, HK8⟩
        case measure => simp [intOf]; omega
      · obtain rfl : j = M := by omega
        have hJ2 := HJ.out.2.1
        rw [List.take_of_length_le (by rw [HRW.out]; exact Nat.le_refl _)] at hJ2
        have k1 : wr.cell? ⟨wb, 0, none⟩ = some (.pointer (some ⟨gw, 0, none⟩)) := hJ2.wx.cell 0
        obtain ⟨A1, c1, l1, hW, hP⟩ := hJ2.wt
        have hbl : (T ++ rowBt k top rw').length ≤ 1125899906842624 := by
          have h1 := rowBt_length k top rw'
          have h2 : depN k top * rw'.length ≤ 16 * 12288 := Nat.mul_le_mul (depN_le k top).2 (by rw [HRW.out]; omega)
          have := HTL.out
          rw [List.length_append]
          omega
        have HAL := Lib.hid (walignP_any wr (w.heap.size + 1) gw A1 c1 l1 true _ hW hbl)
        have HFN : Hid (∀ w', Wraw w' (w.heap.size + 1) gw A1 c1 l1 true (((T ++ rowBt k top rw').length + 7) / 8 * 8) → Upd (· = gw) wr w' → KeepsOthers V w' ∧ BtI w wb (wb + 1) b0 g r c W H hd L gw (bitT k top W L (i + 1)) w' ∧ w10.heap.size ≤ w'.heap.size) := Lib.hid (fun w' h1 h2 => by
          rw [← padP_length] at h1
          obtain ⟨e1, e2, _⟩ := hJ2.wrote hW HJ.out.2.2 (h2.mono (T := WS gw A1) (fun _ _ e => .inl e)) h1 (padP_packed hP)
          rw [← HNX.out] at e1
          exact ⟨HJ.out.1.trans e2, e1, by have := HJ.out.1.size; have := e2.size; have := HVS.out; omega⟩)
        clear hJ2 hW hP hbl HJ
        gi_wp2_with fail
        refine ⟨trivial, (CallsIn.inRound ll (callsIn_wide.2 HAL.out)).mono ?_⟩
        rintro e w' ⟨rfl, h1, h2⟩
        have HZ := Lib.hid (HFN.out w' h1 h2)
        clear h1 h2 HFN HAL
        gi_wp2_with fail
        exact ⟨HZ.out.1, HZ.out.2.1, HZ.out.2.2⟩
  case done =>
    rintro D V hD ⟨hI, hVs⟩ hK
    have k1 : V.cell? ⟨wb, 0, none⟩ = some (.pointer (some ⟨gw, 0, none⟩)) := hI.wx.cell 0
    obtain ⟨A1, c1, l1, hW, hP⟩ := hI.wt
    have hTL := bitT_len k top W L H
    have hl1 : l1.length ≤ 140737488355328 := by
      have := Nat.le_trans hTL (Nat.mul_le_mul hh2 (show 48 * W + 7 ≤ 196615 by omega))
      rw [hP.1]
      omega
    have HBY := Lib.hid (wbytes_any V (w.heap.size + 1) gw A1 c1 l1 true _ hW hl1)
    have HF := Lib.hid (And.intro hP hI.bel)
    have HK := Lib.hid hK
    clear hI hK hW hP hTL hl1
    go_wp2_with fail
    refine HBY.out.mono ?_
    rintro e w8 ⟨A8, c8, rfl, o8, hb8⟩
    have hK8 : w8.heap[D]? = some (.deferred (some [])) := (hb8.block D (Array.getElem?_eq_some_iff.1 HK.out).1).trans HK.out
    have hsz := HF.out.2.size
    have HG := Lib.hid (And.intro (own_low o8 hsz) (And.intro (HF.out.2.trans (hb8.mono hsz)) hK8))
    clear o8 hb8 hK8 HBY
    go_wp2_with fail
    refine ⟨by simp, .inl ⟨_, _, rfl, run_takeDeferred HG.out.2.2, ?_⟩⟩
    have u := upd_putObj (S := (· = D)) w8 D (.deferred none) rfl
    exact ⟨.slice A8 l1.length c8, by simp [results, Tryz.results30, go_sem], A8, l1, c8, rfl, HF.out.1, own_put HG.out.1 HG.out.2.2 rfl _, HG.out.2.1.trans (u.below HG.out.2.1.size (fun j hj e => by omega))⟩
  case stop => rintro D cx V _ h; exact h.elim
end Go.Proofs.YtfbokhdimffabaaGreatDoor
