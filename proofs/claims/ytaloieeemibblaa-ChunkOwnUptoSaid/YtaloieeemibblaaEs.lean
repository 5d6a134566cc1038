/- Join, the program's, walked. -/
import Derived.Test.YtaloieeemibblaaEr
set_option linter.unusedVariables false
set_option linter.unusedSimpArgs false
namespace Go.Proofs.Ytaloieeemibblaa
open Go.ChangeShapes Go.WideShapes Go.ChangeAt Go.RowKit

theorem ckB_true {n : Nat} {l : List Ck} {i : Nat} (h : (List.range n).all (ckB n l) = true) (hi : i < n) (hl : i < l.length) : tyB (sb l[i].t) = true := by
  have h1 := List.all_eq_true.1 h i (List.mem_range.2 hi)
  unfold ckB at h1
  rw [List.getElem?_eq_getElem hl] at h1
  simp only [Bool.and_eq_true] at h1
  exact h1.1
theorem tyB_four {l : List UInt8} (h : tyB l = true) : l.length = 4 := by
  unfold tyB at h
  simp only [Bool.and_eq_true, beq_iff_eq] at h
  exact h.2
theorem bs_const (w : World) (t : TypeId) (l : List UInt8) (fz : Nat × Nat) : Bs (w.alloc (.cells (bytesV l).toArray t fz)) (w.heap.size + 1) (some ⟨w.heap.size, 0, none⟩) l := fun _ => by
  refine ⟨_, rfl, Nat.lt_succ_self _, fun j hj => ?_⟩
  have e : (⟨w.heap.size, 0, none⟩ : Addr).add j = ⟨w.heap.size, j, none⟩ := by unfold Addr.add; split <;> simp_all
  rw [e, cell_of_row _ w.heap.size j (bytesV l).toArray t fz (heap_alloc_new w _)]
  simpa using bytesV_get l j hj
theorem BJ.lt {base : Nat} {V : World} {A : Option Addr} {n c : Nat} {L : List UInt8} (h : BJ base V A n c L) : ∀ j, A.map (·.block) = some j → base ≤ j ∧ j < V.heap.size := by
  intro j hj
  rcases h with h | ⟨g, rfl, _, _, h3, h4, _⟩
  · exact row_lt h j hj
  · have e : g = j := by simpa using hj
    subst e
    exact ⟨h3, h4⟩
def joinM (l : List Ck) : Except Nat (List UInt8) := if jokB l then .ok (joinF l l.length) else .error 190
set_option maxRecDepth 100000 in
set_option maxHeartbeats 8000000 in
theorem join_any (A : Option Addr) (n c : Nat) (l : List Ck) (hn : l.length = n) (hm : n ≤ 17592186043904) (hts : ∀ k ∈ l, k.t.size ≤ 140737488355328) (hds : ∀ k ∈ l, k.d.length < 4294967296) (htot : (joinF l n).length ≤ 140737488355328) (B : Nat) (w : World) (h : Cks w B A l) (hB : B ≤ w.heap.size) :
    Calls Try.prog 15 #[.slice A n c] w (OutB w (joinM l)) := by
  have HMJ := Lib.hid (mayBeJoined_any A n c l hn hm hts B w h hB)
  have HN := Lib.hid hn
  have HC := Lib.hid h
  have kc := fun (w : World) (C : Array Value) (n c : Nat) => Lib.run_convert_bytes_const (P := Try.prog) w 22 5 C n c Try.underlying22 Try.underlying5
  cases hj : jokB l with
  | false =>
    rw [hj] at HMJ
    have HE : Hid (joinM l = .error 190) := Lib.hid (by unfold joinM; rw [hj]; rfl)
    clear kc hts hds htot h
    go_enter Try.func15, Try.ntmps15
    go_wp2_with fail
    refine HMJ.out.mono ?_
    rintro e w1 ⟨rfl, hb1⟩
    have HB := Lib.hid hb1
    clear hb1
    go_wp2_with fail
    go_ret2
    rw [HE.out]
    exact ⟨HB.out, rfl⟩
  | true =>
    rw [hj] at HMJ
    have HE : Hid (joinM l = .ok (joinF l n)) := Lib.hid (by unfold joinM; rw [hj, hn]; rfl)
    have hall : (List.range n).all (ckB n l) = true ∧ 0 < n := by
      unfold jokB at hj
      rw [hn] at hj
      simpa using hj
    have HALL := Lib.hid hall.1
    have hpos := hall.2
    clear hj hall h
    go_enter Try.func15, Try.ntmps15
    go_wp2_with fail
    refine HMJ.out.mono ?_
    rintro e w1 ⟨rfl, hb1⟩
    have hs1 := hb1.size
    have HB1 := Lib.hid hb1
    clear hb1 HMJ
    go_wp2_with fail
    have hlit := bs_const w1 5 mkL (8, 9)
    have hbl := HB1.out.alloc hs1 (.cells (bytesV mkL).toArray 5 (8, 9))
    have hszl : (w1.alloc (.cells (bytesV mkL).toArray 5 (8, 9))).heap.size = w1.heap.size + 1 := World.size_alloc _ _
    have HST : Hid (BJ w.heap.size (w1.alloc (.cells (bytesV mkL).toArray 5 (8, 9))) (some ⟨w1.heap.size, 0, none⟩) (joinF l 0).length 8 (joinF l 0) ∧ Below w.heap.size w (w1.alloc (.cells (bytesV mkL).toArray 5 (8, 9)))) := Lib.hid ⟨.inr ⟨w1.heap.size, rfl, rfl, rfl, hs1, by rw [hszl]; omega, by rw [hszl]; exact hlit⟩, hbl⟩
    have hlen0 : (joinF l 0).length = 8 := rfl
    simp only [mkL, bytesV, bv, List.map_cons, List.map_nil, UInt8.toNat_ofNat, Nat.reduceMod, Nat.reducePow, Int.cast_ofNat_Int] at HST
    clear hlit hbl hszl
    generalize w1.alloc (.cells #[.int .u8 137, .int .u8 80, .int .u8 78, .int .u8 71, .int .u8 13, .int .u8 10, .int .u8 26, .int .u8 10] 5 (8, 9)) = w2 at *
    clear kc
    go_loopw [4, 15] (fun b i wr => ∃ k m A1 c1, k ≤ n ∧ i = .int .i64 (k : Int) ∧ b = .slice A1 m c1 ∧ Hid (m = (joinF l k).length ∧ BJ w.heap.size wr A1 m c1 (joinF l k) ∧ Below w.heap.size w wr ∧ (0 < k → wr.ownsRow w.heap.size 5 1 (.slice A1 m c1) m (bytesV (joinF l k))))) (fun _ i _ => n - (intOf i).toNat)
    case atStart => exact ⟨0, 8, _, 8, Nat.zero_le _, rfl, rfl, Lib.hid ⟨hlen0.symm, by have := HST.out.1; rw [hlen0] at this; exact this, HST.out.2, fun h => absurd h (by omega)⟩⟩
    case round =>
      obtain ⟨k, m, A1, c1, hk, rfl, rfl, HR⟩ := hrel
      clear HST hlen0
      by_cases hlt : k < n
      · have hkl : k < l.length := by have := HN.out; omega
        have hty := ckB_true HALL.out hlt hkl
        have hty4 : l[k].t.size = 4 := by rw [← sb_len]; exact tyB_four hty
        have hsr := HR.out.2.2.1.size
        obtain ⟨b, off, rfl, hbB, hc⟩ := (HC.out.below (HR.out.2.2.1.mono hB)) (by omega)
        obtain ⟨q1, D, cd, q2, hD⟩ := hc k hkl
        have HNX := Lib.hid (joinF_next l k hkl)
        have hbl : (bodyL l[k]).length = 4 + l[k].d.length := by unfold bodyL; rw [List.length_append, sb_len, hty4]
        have hlen : (joinF l (k + 1)).length = m + 4 + (4 + l[k].d.length) + 4 := by rw [HNX.out, List.length_append, ckL, List.length_append, List.length_append, beB_length, beB_length, hbl, HR.out.1]; omega
        have htb : (joinF l (k + 1)).length ≤ 140737488355328 := Nat.le_trans (joinF_mono l (k + 1) n (by omega)) htot
        have hd32 := hds l[k] (List.getElem_mem hkl)
        have HCK : Hid (ckL l[k] = beB l[k].d.length ++ bodyL l[k] ++ beB (crcOn 0 (bodyL l[k]))) := Lib.hid rfl
        have HBD : Hid (bodyL l[k] = sb l[k].t ++ l[k].d) := Lib.hid rfl
        have hcr := crcOn_lt (s := 0) (by omega) (bodyL l[k])
        have hnb := Blk.new wr 57 #[.string l[k].t, .slice D l[k].d.length cd]
        have ua := (Upd.refl No wr).alloc (.cells #[.string l[k].t, .slice D l[k].d.length cd] 57)
        have HB2 := Lib.hid (HR.out.2.1.keep ua (fun j e => absurd e id))
        have HW2 := Lib.hid (HR.out.2.2.1.trans (ua.fresh.mono hsr))
        have HD2 := Lib.hid (hD.below (ua.fresh.mono (by omega)))
        have hs2 := ua.size
        have hnl := hnb.lt
        have hlm := HR.out.1
        have HLM := Lib.hid (And.intro hlm hlen)
        rw [hlen] at htb
        clear hc hlen hlm HR hty
        generalize l[k].t = s at *
        generalize hdd : l[k].d = d at *
        have HDD := Lib.hid hdd
        clear hdd
        go_upto_region 7 with (fail)
        generalize wr.alloc (.cells #[.string s, .slice D d.length cd] 57) = w3 at *
        obtain ⟨pb, hpb⟩ : ∃ pb, wr.heap.size = pb := ⟨_, rfl⟩
        rw [hpb] at hnb hnl ⊢
        have p0 : w3.cell? ⟨pb, 0, none⟩ = some (.string s) := hnb.cell 0
        have p1 : w3.cell? ⟨pb, 1, none⟩ = some (.slice D d.length cd) := hnb.cell 1
        -- the type's bytes, the data behind them
        have hq := Lib.run_convert_string_bytes (P := Try.prog) w3 9 22 5 s Try.underlying9 Try.underlying22 Try.underlying5
        have hw4 := bw_below w3 5 s
        have hge := grownCap_ge w3 s.size 0 5
        have hbs4 := bw_bs w3 5 s
        have hsz4 := Lib.bytesWorld_size w3 5 s
        obtain ⟨A5, c5, w5, hrun, hB5, hU5, ad5, hA5, hg5, hl5⟩ := append_marked (Lib.bytesWorld w3 5 s) w3.heap.size s.size (grownCap w3 s.size 0 5) (sb s) (sb_len s)
          (fun j hj => by
            obtain ⟨ad, e, _, hc⟩ := hbs4.at_ hj
            injection e with e
            subst e
            have e0 : (⟨w3.heap.size, 0, none⟩ : Addr).add j = ⟨w3.heap.size, j, none⟩ := by unfold Addr.add; split <;> simp_all
            rw [e0] at hc
            exact hc) (bw_room w3 s) hge (by omega) B D d.length cd d rfl (HD2.out.below (hw4.mono (by omega))) (by omega) (by rw [hty4]; omega) 22
        subst hA5
        have HW5 : Hid (Below w3.heap.size w3 w5) := Lib.hid (hw4.trans (hU5.below (by omega) (fun j hj e => by omega)))
        have p2 : (Lib.bytesWorld w3 5 s).cell? ⟨pb, 1, none⟩ = some (.slice D d.length cd) := (hw4.cell (p := ⟨pb, 1, none⟩) hnl).trans p1
        have HRN := Lib.hid hrun
        rw [hty4] at hq hrun HRN hge
        have HB5 : Hid (Bs w5 w5.heap.size (some ad5) (bodyL l[k])) := Lib.hid (by rw [HBD.out]; exact hB5)
        clear hrun hB5 hU5 hbs4 hw4 hge
        generalize grownCap w3 4 0 5 = cp at *
        generalize Lib.bytesWorld w3 5 s = w4 at *
        have p3 : w5.cell? ⟨pb, 1, none⟩ = some (.slice D d.length cd) := (HW5.out.cell (p := ⟨pb, 1, none⟩) hnl).trans p1
        go_upto_region 8 with (at_builtin; refine wpList_append_run rfl (.tmp 21) (.tmp 23) _ rfl rfl rfl HRN.out ?_)
        have hbl5 : (bodyL l[k]).length = 4 + d.length := by rw [hbl]
        generalize hdn : d.length = dn at *
        have HDN := Lib.hid hdn
        clear hdn p0 p1 p2 hq q1 q2 hbl
        have h35 := HW5.out.size
        go_wp2_with fail
        refine (number_any dn w5).mono ?_
        rintro e w6 ⟨A6, c6, rfl, o6, hb6⟩
        have hs6 := hb6.size
        have hbj := HB2.out
        have hA1 := hbj.lt
        have hj6 := hbj.keep (Upd.of_below (HW5.out.trans (hb6.mono h35))) (fun j e => e)
        have hbase6 : w.heap.size ≤ w6.heap.size := by have := HW2.out.size; omega
        obtain ⟨A7, c7, w7, hrun7, o7, u7, q7, hb7⟩ := hj6.app hbase6 w6.heap.size A6 4 c6 (beB dn) rfl (by omega) (bs_own o6).1 (by omega) 22
        have hs7 := u7.size
        have hB7 := (HB5.out.upd (Upd.of_fresh hb6) (Nat.le_refl _) (fun _ _ _ => id)).upd u7 hs6 (fun ad e _ he => by
          injection e with e
          subst e
          have := (hA1 _ he).2
          omega)
        have hA7 : ∀ j, A7.map (·.block) = some j → j ≠ ad5.block := fun j hj e => by
          rcases q7 with q | q
          · have := (hA1 j (by rw [← q]; exact hj)).2
            omega
          · have := Option.some.inj (hj.symm.trans q)
            omega
        obtain ⟨A8, c8, w8, hrun8, o8, u8, q8, hb8⟩ := (show BJ w.heap.size w7 A7 (m + 4) c7 _ from .inl o7).app (Nat.le_trans hbase6 hs7) w5.heap.size (some ad5) (4 + dn) c5 (bodyL l[k]) hbl5 (by omega) hB7 (by omega) 22
        have hs8 := u8.size
        have hB8 := hB7.upd u8 (by omega) (fun ad e _ he => by
          injection e with e
          subst e
          exact hA7 _ he rfl)
        have HCR := Lib.hid (crc_n (some ad5) c5 (4 + dn) (bodyL l[k]) hbl5 w5.heap.size w8 hB8 (by omega) (by unfold maxLen; omega))
        have HW8 : Hid (Below w.heap.size w w8) := Lib.hid (((HW2.out.trans (HW5.out.mono (HW2.out.size))).trans (hb6.mono (by omega))).trans ((hb7).trans hb8))
        have HRN7 := Lib.hid hrun7; have HRN8 := Lib.hid hrun8; have HO8 := Lib.hid o8
        clear hrun7 hrun8 o7 o8 u7 u8 q7 q8 hb7 hb8 hB7 hB8 hA7 hj6 hbj hA1 o6 hb6 HB2 HW2 HW5 HB5 hD HRN
        go_wp2_with (at_builtin; (first | refine wpList_append_run rfl (.tmp 25) (.tmp 30) _ rfl rfl rfl HRN7.out ?_ | refine wpList_append_run rfl (.tmp 32) (.tmp 33) _ rfl rfl rfl HRN8.out ?_))
        refine HCR.out.mono ?_
        rintro e w9 ⟨rfl, hb9⟩
        have hs9 := hb9.size
        go_wp2_with fail
        refine (number_any (crcOn 0 (bodyL l[k])) w9).mono ?_
        rintro e w10 ⟨A10, c10, rfl, o10, hb10⟩
        have hs10 := hb10.size
        have o8' := own_upd (own_upd HO8.out (Upd.of_fresh hb9) (fun _ _ => id)) (Upd.of_fresh hb10) (fun _ _ => id)
        have HW10 : Hid (Below w.heap.size w w10) := Lib.hid ((HW8.out.trans (hb9.mono HW8.out.size)).trans (hb10.mono (by have := HW8.out.size; omega)))
        obtain ⟨A11, c11, w11, hrun11, o11, _, _, hb11⟩ := (show BJ w.heap.size w10 A8 (m + 4 + (4 + dn)) c8 _ from .inl o8').app HW10.out.size w10.heap.size A10 4 c10 (beB (crcOn 0 (bodyL l[k]))) rfl (by omega) (bs_own o10).1 (by omega) 22
        have HRN11 := Lib.hid hrun11
        have HFIN : Hid (m + 4 + (4 + dn) + 4 = (joinF l (k + 1)).length ∧ BJ w.heap.size w11 A11 (m + 4 + (4 + dn) + 4) c11 (joinF l (k + 1)) ∧ Below w.heap.size w w11 ∧ (0 < k + 1 → w11.ownsRow w.heap.size 5 1 (.slice A11 (m + 4 + (4 + dn) + 4) c11) (m + 4 + (4 + dn) + 4) (bytesV (joinF l (k + 1))))) := (fun ho => Lib.hid ⟨HLM.out.2.symm, .inl ho, HW10.out.trans hb11, fun _ => ho⟩) (by
          rw [HNX.out, HCK.out, ← List.append_assoc, ← List.append_assoc]
          exact o11)
        clear hrun11 o11 hb11 o8' o10 hb10 hb9 HO8
        go_wp2_with (at_builtin; refine wpList_append_run rfl (.tmp 35) (.tmp 38) _ rfl rfl rfl HRN11.out ?_)
        go_roundw
        case rel => exact ⟨k + 1, m + 4 + (4 + dn) + 4, A11, c11, by omega, by go_num, rfl, HFIN⟩
        case measure => simp [intOf]; omega
      · obtain rfl : n = k := by omega
        obtain ⟨hml, hbj, hbw, hown⟩ := HR.out
        have ho : wr.ownsRow w.heap.size 5 1 (.slice A1 m c1) m (bytesV (joinF l n)) := hown hpos
        have HO := Lib.hid (And.intro ho hbw)
        have HML := Lib.hid hml
        clear ho hbw hbj hml hown HR
        go_wp2_with fail
        go_ret2
        rw [HE.out]
        refine ⟨HO.out.2, A1, c1, ?_, ?_⟩
        · rw [← HML.out]
          rfl
        · rw [← HML.out]; exact HO.out.1
end Go.Proofs.Ytaloieeemibblaa
