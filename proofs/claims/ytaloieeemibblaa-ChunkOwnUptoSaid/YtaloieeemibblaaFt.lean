/- Joined texts (a claim has at most 60 files). -/
import Derived.Test.YtaloieeemibblaaFk
import Derived.Test.YtaloieeemibblaaFi
import Derived.Test.YtaloieeemibblaaEs
import Derived.BigQuiet
import Derived.Deep.CutBlock
/- The law's copies of chunks. -/
set_option linter.unusedVariables false
set_option linter.unusedSimpArgs false
namespace Go.Proofs.Ytaloieeemibblaa
open Go.ChangeShapes Go.WideShapes Go.ChangeAt Go.RowKit

theorem ckVs_at : ∀ (L : List It) (j : Nat) (hj : j < L.length), (ckVs L)[j * 2]? = some (.string L[j].t) ∧ (ckVs L)[j * 2 + 1]? = some L[j].v
  | x :: L, 0, _ => ⟨rfl, rfl⟩
  | x :: L, j + 1, h => by
    have h1 := ckVs_at L j (by simpa using h)
    have e : ckVs (x :: L) = .string x.t :: x.v :: ckVs L := rfl
    rw [e, show (j + 1) * 2 = j * 2 + 2 by omega]
    exact h1
/-- A row of chunks of the call's own, each of its own. -/
def RowK (base : Nat) (V : World) (A : Option Addr) (n c : Nat) (l : List Ck) : Prop := ∃ L : List It, V.ownsRow base 57 2 (.slice A n c) n (ckVs L) ∧ L.length = n ∧ l.length = n ∧
  ∀ (j : Nat) (hj : j < L.length) (hl : j < l.length), L[j].t = l[j].t ∧ V.ownsRow base 5 1 L[j].v L[j].n (bytesV l[j].d)
theorem RowK.nil (base : Nat) (V : World) : RowK base V none 0 0 [] := ⟨[], World.ownsRow_nil _ _ _ _, rfl, rfl, fun j hj => by simp at hj⟩
theorem RowK.cks {base : Nat} {w' : World} {A : Option Addr} {n c : Nat} {l : List Ck} (h : RowK base w' A n c l) : Cks w' w'.heap.size A l := by
  obtain ⟨L, h1, h2, h4, h3⟩ := h
  subst h2
  intro hpos
  have hl := h1.1
  obtain ⟨g, cap, hv, _, hlt⟩ := h1.form (by omega)
  have hA : A = some ⟨g, 0, none⟩ := by injection hv
  subst hA
  refine ⟨g, 0, rfl, hlt, fun j hj => ?_⟩
  have hjL : j < L.length := by omega
  obtain ⟨a1, a2⟩ := ckVs_at L j hjL
  obtain ⟨i1, i3⟩ := h3 j hjL hj
  have hln : l[j].d.length = L[j].n := by
    have := i3.1
    rw [bytesV_length] at this
    omega
  simp only [Nat.zero_add]
  have e0 : ∀ i, (⟨g, 0, none⟩ : Addr).add i = ⟨g, i, none⟩ := fun i => by unfold Addr.add; split <;> simp_all
  refine ⟨?_, L[j].A, L[j].c, ?_, (bs_own i3).1⟩
  · have q := h1.cells (g := g) rfl (j * 2) _ a1
    rw [e0] at q
    rw [q, i1]
  · have q := h1.cells (g := g) rfl (j * 2 + 1) _ a2
    rw [e0] at q
    rw [q, hln]
theorem RowK.step {base : Nat} {l : List Ck} {k : Nat} {Al : Option Addr} {cl : Nat} {V V2 : World} (hrow : RowK base V Al k cl l) (hb : Below V.heap.size V V2) (hbase : base ≤ V.heap.size) {D : Option Addr} {dn dc : Nat} {x : Ck}
    (ho : V2.ownsRow base 5 1 (.slice D dn dc) dn (bytesV x.d)) (hk : k ≤ 1099511627776) :
    ∃ A9 c9 w9, (Builtin.append_ #[24, 24] 24 #[.slice Al k cl, .slice (some ⟨V2.heap.size, 0, none⟩) 1 1]).run Try.prog (V2.alloc (.cells #[.string x.t, .slice D dn dc] 57)) = .ok (.slice A9 (k + 1) c9) w9 ∧
      RowK base w9 A9 (k + 1) c9 (l ++ [x]) ∧ Below base V w9 := by
  obtain ⟨L, r2, r3, r5, r4⟩ := hrow
  have u0 := Upd.of_fresh hb
  have r2a := own_upd r2 u0 (fun _ _ => id)
  have r4a : ∀ (j : Nat) (hj : j < L.length) (hl : j < l.length), L[j].t = l[j].t ∧ V2.ownsRow base 5 1 L[j].v L[j].n (bytesV l[j].d) := fun j hj hl => ⟨(r4 j hj hl).1, own_upd (r4 j hj hl).2 u0 (fun _ _ => id)⟩
  have ua := (Upd.refl No V2).alloc (.cells #[.string x.t, .slice D dn dc] 57)
  have hnb := Blk.new V2 57 #[.string x.t, .slice D dn dc]
  have ra := own_upd r2a ua (fun _ _ => id)
  have hsz : (V2.alloc (.cells #[.string x.t, .slice D dn dc] 57)).heap.size = V2.heap.size + 1 := World.size_alloc _ _
  have hia : ∀ (j : Nat) (hj : j < L.length) (hl : j < l.length), L[j].t = l[j].t ∧ (V2.alloc (.cells #[.string x.t, .slice D dn dc] 57)).ownsRow base 5 1 L[j].v L[j].n (bytesV l[j].d) := fun j hj hl => ⟨(r4a j hj hl).1, own_upd (r4a j hj hl).2 ua (fun _ _ => id)⟩
  have hoa := own_upd ho ua (fun _ _ => id)
  have hb1 : Below V.heap.size V (V2.alloc (.cells #[.string x.t, .slice D dn dc] 57)) := hb.trans (ua.fresh.mono hb.size)
  have hV := hb.size
  generalize V2.alloc (.cells #[.string x.t, .slice D dn dc] 57) = V1 at *
  obtain ⟨A9, c9, w9, hrun, o9, hg9, hw9⟩ := append_ck base V1 (.slice Al k cl) k (ckVs L) ra (by omega) V2.heap.size x.t D dn dc hnb hk 24
  have u9 : Upd (fun j => some j = (Value.slice Al k cl).ownBlock) V1 w9 := (Upd.of_grown hg9).mono (fun j _ e => e)
  have nh : ∀ {b : Nat} {cs fz}, V1.heap[b]? = some (.cells cs 5 fz) → ¬ some b = (Value.slice Al k cl).ownBlock := fun {b cs fz} hb e => by
    rcases ra.2 with ⟨e', _⟩ | ⟨g', c, cur, e', _, a, _⟩
    · rw [e'] at e; cases e
    · have e1 : g' = b := by rw [e'] at e; simpa [Value.ownBlock] using e.symm
      subst e1
      rw [hb] at a
      injection a with a
      injection a with _ a
      exact absurd a (by decide)
  have own8 : ∀ {v : Value} {n : Nat} {xs : List Value}, V1.ownsRow base 5 1 v n xs → w9.ownsRow base 5 1 v n xs := fun {v n xs} ho => by
    refine own_upd ho u9 (fun g hg => ?_)
    rcases ho.2 with ⟨e', _⟩ | ⟨g', c, cur, e', _, a, _⟩
    · rw [e'] at hg; cases hg
    · have e1 : g' = g := by rw [e'] at hg; simpa [Value.ownBlock] using hg
      subst e1
      exact nh a
  have hb9 : Below base V1 w9 := u9.below (by omega) (fun j hj e => by have := (ra.lt j e.symm).1; omega)
  refine ⟨A9, c9, w9, hrun, ⟨L ++ [⟨x.t, D, dn, dc, 0⟩], ?_, by simp [r3], by simp [r5], ?_⟩, (hb1.mono hbase).trans hb9⟩
  · rw [ckVs_app]
    exact o9
  · intro j hj hl
    rw [List.length_append] at hj hl
    by_cases hjk : j < L.length
    · have hjl : j < l.length := by omega
      rw [List.getElem_append_left hjk, List.getElem_append_left hjl]
      obtain ⟨i1, i3⟩ := hia j hjk hjl
      exact ⟨i1, own8 i3⟩
    · have e1 : j = L.length := by simp at hj; omega
      have e2 : j = l.length := by omega
      rw [List.getElem_append_right (by omega), List.getElem_append_right (by omega)]
      simp only [e1, r3, r5, Nat.sub_self, List.getElem_cons_zero]
      exact ⟨trivial, own8 hoa⟩
set_option maxRecDepth 100000 in
set_option maxHeartbeats 8000000 in
theorem lawChunks_any (A : Option Addr) (n c : Nat) (l : List Ck) (hn : l.length = n) (hm : n ≤ 1099511627776) (hds : ∀ k ∈ l, k.d.length ≤ 140737488355328) (B : Nat) (w : World) (h : Cks w B A l) (hB : B ≤ w.heap.size) :
    Calls Try.prog 16 #[.slice A n c] w fun e w' => ∃ A' c', e = .returned (.slice A' n c') ∧ RowK w.heap.size w' A' n c' l ∧ Below w.heap.size w w' := by
  have HN := Lib.hid hn
  have HC := Lib.hid h
  go_enter Try.func16, Try.ntmps16
  go_wp2_with fail
  go_loopw [3, 7] (fun out v wr => ∃ (k : Nat) (A' : Option Addr) (c' : Nat), k ≤ n ∧ out = .slice A' k c' ∧ v = .int .i64 (k : Int) ∧ Hid (RowK w.heap.size wr A' k c' (l.take k) ∧ Below w.heap.size w wr)) (fun _ v _ => n - (intOf v).toNat)
  case atStart => exact ⟨0, none, 0, Nat.zero_le _, rfl, rfl, Lib.hid ⟨RowK.nil _ _, Below.refl _ _⟩⟩
  case round =>
    obtain ⟨k, A', c', hk, rfl, rfl, HR⟩ := hrel
    have hs := HR.out.2.size
    by_cases hlt : k < n
    · have hkl : k < l.length := by omega
      have hck := HC.out.below (HR.out.2.mono hB)
      obtain ⟨b, off, rfl, hbB, hc⟩ := hck (by omega)
      obtain ⟨x0, D, cd, x1, xb⟩ := hc k hkl
      obtain ⟨y0, y1⟩ : w.cell? ⟨b, off + k * 2, none⟩ = some (.string l[k].t) ∧ w.cell? ⟨b, off + k * 2 + 1, none⟩ = some (.slice D l[k].d.length cd) := ⟨((HR.out.2.cell (p := ⟨b, off + k * 2, none⟩) (show b < w.heap.size by omega)).symm.trans x0), ((HR.out.2.cell (p := ⟨b, off + k * 2 + 1, none⟩) (show b < w.heap.size by omega)).symm.trans x1)⟩
      have HOW := Lib.hid (fun V (hb : Below wr.heap.size wr V) => own_any D cd l[k].d.length l[k].d rfl B V (xb.below (hb.mono (by omega))) (by have := hb.size; omega) (hds _ (List.getElem_mem hkl)))
      have HST := Lib.hid (fun V2 (D2 : Option Addr) (dc2 : Nat) (hb : Below wr.heap.size wr V2) (ho : V2.ownsRow wr.heap.size 5 1 (.slice D2 l[k].d.length dc2) l[k].d.length (bytesV l[k].d)) => RowK.step (x := l[k]) HR.out.1 hb hs (own_low ho hs) (by omega))
      have HTK : Hid (l.take k ++ [l[k]] = l.take (k + 1)) := Lib.hid (List.take_succ_eq_append_getElem hkl).symm
      generalize hd0 : l[k].d = d0 at *
      generalize ht0 : l[k].t = t0 at *
      generalize d0.length = dn at *
      rw [HTK.out] at HST
      clear hc hck xb hds h
      have hfull : Hid (∀ w', Below w.heap.size w w' → (Below w.heap.size w w' ∧ w'.cell? ⟨b, off + k * 2, none⟩ = some (.string t0) ∧ w'.cell? ⟨b, off + k * 2 + 1, none⟩ = some (.slice D dn cd))) :=
        Lib.hid fun w' hb => ⟨hb, (hb.cell (p := ⟨b, off + k * 2, none⟩) (show b < w.heap.size by omega)).trans y0, (hb.cell (p := ⟨b, off + k * 2 + 1, none⟩) (show b < w.heap.size by omega)).trans y1⟩
      have HBW := Lib.hid HR.out.2
      go_wp2_with fail
      go_region_held3 (fun w' => Below w.heap.size w w' ∧ w'.cell? ⟨b, off + k * 2, none⟩ = some (.string t0) ∧ w'.cell? ⟨b, off + k * 2 + 1, none⟩ = some (.slice D dn cd))
        (first | exact hfull.out _ hc9 | exact hfull.out _ (hc2.alloc hc2.size _) | exact hfull.out _ hc2 | exact hfull.out _ HBW.out | exact hfull.out _ (Below.drew HBW.out))
        ((first
          | (refine step_append_run rfl (.tmp 10) (.tmp 23) _ rfl rfl rfl HRN.out ?_)
          | (go_at_call 12; refine (HOW.out _ ((Upd.refl No wr).drew.fresh)).mono ?_; rintro e w2 ⟨A2, c2, rfl, o2, hb2⟩; have hb2' : Below wr.heap.size wr w2 := of_drew hb2; have hc2 : Below w.heap.size w w2 := HBW.out.trans (hb2'.mono hs); obtain ⟨A9, c9, w9, hrun, hrow9, hb9⟩ := HST.out w2 A2 c2 hb2' o2; have HRN := Lib.hid hrun; have hc9 : Below w.heap.size w w9 := HBW.out.trans hb9)))
      have HF := Lib.hid (And.intro hrow9 hc9)
      clear hrun hrow9 hb9 HRN hc9 hc2 hb2 hb2' o2 HST HOW HR
      go_wp2_with fail
      go_roundw
      case rel => exact ⟨k + 1, A9, c9, by omega, rfl, by go_num, HF⟩
      case measure => simp [intOf]; omega
    · obtain rfl : k = n := by omega
      go_wp2_with fail
      go_ret
      have h1 := HR.out.1
      rw [List.take_of_length_le (by have := HN.out; omega)] at h1
      exact ⟨A', c', rfl, h1, HR.out.2⟩
end Go.Proofs.Ytaloieeemibblaa

/- The document's Join, walked. -/
set_option linter.unusedVariables false
set_option linter.unusedSimpArgs false
namespace Go.Proofs.Ytaloieeemibblaa
open Go.ChangeShapes Go.WideShapes Go.ChangeAt Go.RowKit

theorem four_bs (w : World) (v : Nat) : Bs (w.alloc (.cells (bytesV (beB v)).toArray 5)) (w.alloc (.cells (bytesV (beB v)).toArray 5)).heap.size (some ⟨w.heap.size, 0, none⟩) (beB v) := by
  have h : Bs (w.alloc (.cells (bytesV (beB v)).toArray 5)) (w.heap.size + 1) (some ⟨w.heap.size, 0, none⟩) (beB v) := bs_const w 5 (beB v) (0, 0)
  have e : (w.alloc (.cells (bytesV (beB v)).toArray 5)).heap.size = w.heap.size + 1 := World.size_alloc _ _
  rw [e]
  exact h
set_option maxRecDepth 100000 in
set_option maxHeartbeats 8000000 in
theorem refJoin_any (A : Option Addr) (n c : Nat) (l : List Ck) (hn : l.length = n) (hm : n ≤ 17592186043904) (hts : ∀ k ∈ l, k.t.size ≤ 140737488355328) (hds : ∀ k ∈ l, k.d.length < 4294967296) (htot : (joinF l n).length ≤ 140737488355328) (B : Nat) (w : World) (h : Cks w B A l) (hB : B ≤ w.heap.size) :
    Calls Try.prog 17 #[.slice A n c] w (OutB w (joinM l)) := by
  have HN := Lib.hid hn
  have HC := Lib.hid h
  have hmix : Try.prog.follows .mixedOrders = true := by kernel_rfl
  clear h
  go_enter Try.func17, Try.ntmps17
  go_wp2_with fail
  refine (sign_any w).mono ?_
  rintro e w1 ⟨rfl, rfl⟩
  have hbl := (Below.refl w.heap.size w).alloc (Nat.le_refl _) (.cells (bytesV mkL).toArray 5)
  have hszl : (w.alloc (.cells (bytesV mkL).toArray 5)).heap.size = w.heap.size + 1 := World.size_alloc _ _
  have HST : Hid (BJ w.heap.size (w.alloc (.cells (bytesV mkL).toArray 5)) (some ⟨w.heap.size, 0, none⟩) (joinF l 0).length 8 (joinF l 0) ∧ Below w.heap.size w (w.alloc (.cells (bytesV mkL).toArray 5))) := Lib.hid ⟨.inr ⟨w.heap.size, rfl, rfl, rfl, Nat.le_refl _, by rw [hszl]; omega, by rw [hszl]; exact bs_const w 5 mkL (0, 0)⟩, hbl⟩
  have hlen0 : (joinF l 0).length = 8 := rfl
  clear hbl hszl
  generalize w.alloc (.cells (bytesV mkL).toArray 5) = w2 at *
  go_wp2_with fail
  go_loopw [4, 5] (fun b i wr => ∃ k m A1 c1, k ≤ n ∧ i = .int .i64 (k : Int) ∧ b = .slice A1 m c1 ∧ Hid (m = (joinF l k).length ∧ BJ w.heap.size wr A1 m c1 (joinF l k) ∧ Below w.heap.size w wr ∧ (0 < k → wr.ownsRow w.heap.size 5 1 (.slice A1 m c1) m (bytesV (joinF l k))) ∧ (List.range k).all (ckB n l) = true)) (fun _ i _ => n - (intOf i).toNat)
  case atStart => exact ⟨0, 8, _, 8, Nat.zero_le _, rfl, rfl, Lib.hid ⟨hlen0.symm, by have := HST.out.1; rw [hlen0] at this; exact this, HST.out.2, fun h => absurd h (by omega), rfl⟩⟩
  case round =>
    obtain ⟨k, m, A1, c1, hk, rfl, rfl, HR⟩ := hrel
    clear HST hlen0
    have hsr := HR.out.2.2.1.size
    by_cases hlt : k < n
    · have hkl : k < l.length := by have := HN.out; omega
      obtain ⟨b, off, rfl, hbB, hc⟩ := (HC.out.below (HR.out.2.2.1.mono hB)) (by omega)
      obtain ⟨q1, D, cd, q2, hD⟩ := hc k hkl
      have HCKB : Hid (ckB n l k = (tyB (sb l[k].t) && (isE l[k].t == decide (k + 1 = n)))) := Lib.hid (by unfold ckB; rw [List.getElem?_eq_getElem hkl])
      have HNXA := Lib.hid (fun h => range_all_next (n := n) HR.out.2.2.2.2 h)
      have HBAD : Hid (ckB n l k = false → joinM l = .error 190) := Lib.hid (fun h => by unfold joinM jokB; rw [HN.out, range_all_no hlt h]; rfl)
      have HTY := Lib.hid (letters_any l[k].t _ rfl (hts _ (List.getElem_mem hkl)) wr)
      have hpos0 : (k : Int) < (n : Int) := by omega
      cases hty : tyB (sb l[k].t) with
      | false =>
        have HFL := Lib.hid (HBAD.out (by rw [HCKB.out, hty]; rfl))
        rw [hty] at HTY
        clear hty HBAD HNXA HCKB hc
        generalize l[k].t = s at *
        generalize l[k].d.length = dn at *
        go_wp2_with fail
        refine HTY.out.mono ?_
        rintro e w3 ⟨rfl, rfl⟩
        go_wp2_with fail
        go_ret2
        rw [HFL.out]
        exact ⟨HR.out.2.2.1, rfl⟩
      | true =>
        have hty4 : l[k].t.size = 4 := by rw [← sb_len]; exact tyB_four hty
        rw [hty] at HTY HCKB
        rw [Bool.true_and] at HCKB
        have HPOS : Hid (((k : Int) == (n : Int) - 1) = decide (k + 1 = n)) := Lib.hid (by
          rw [Bool.eq_iff_iff]
          simp only [beq_iff_eq, decide_eq_true_eq]
          omega)
        have HE : Hid (isE l[k].t = (l[k].t.toList == [73, 69, 78, 68])) := Lib.hid rfl
        have HNX := Lib.hid (joinF_next l k hkl)
        have hbl : (bodyL l[k]).length = 4 + l[k].d.length := by unfold bodyL; rw [List.length_append, sb_len, hty4]
        have hlen : (joinF l (k + 1)).length = m + 4 + (4 + l[k].d.length) + 4 := by rw [HNX.out, List.length_append, ckL, List.length_append, List.length_append, beB_length, beB_length, hbl, HR.out.1]; omega
        have htb : (joinF l (k + 1)).length ≤ 140737488355328 := Nat.le_trans (joinF_mono l (k + 1) n (by omega)) htot
        have hd32 := hds l[k] (List.getElem_mem hkl)
        have HCK : Hid (ckL l[k] = beB l[k].d.length ++ bodyL l[k] ++ beB (crcOn 0 (bodyL l[k]))) := Lib.hid rfl
        have HBD : Hid (bodyL l[k] = sb l[k].t ++ l[k].d) := Lib.hid rfl
        have hcr := crcOn_lt (s := 0) (by omega) (bodyL l[k])
        have HLM := Lib.hid (And.intro HR.out.1 hlen)
        rw [hlen] at htb
        clear hc hlen hty
        generalize hbo : bodyL l[k] = bo at *
        generalize l[k].t = s at *
        generalize hdd : l[k].d = d at *
        clear hbo hdd
        go_wp2_with fail
        refine HTY.out.mono ?_
        rintro e w3 ⟨rfl, rfl⟩
        have hck : ckB n l k = true ∨ ckB n l k = false := by cases ckB n l k <;> simp
        have HEP : Hid (ckB n l k = ((s.toList == [73, 69, 78, 68]) == ((k : Int) == (n : Int) - 1))) := Lib.hid (by rw [HCKB.out, HE.out, HPOS.out])
        generalize he1 : (s.toList == [73, 69, 78, 68]) = e1 at *
        rcases hck with hck | hck
        case inr =>
          have HFL := Lib.hid (HBAD.out hck)
          have hx : (e1 == ((k : Int) == (n : Int) - 1)) = false := by rw [← HEP.out]; exact hck
          clear hck HBAD HNXA HCKB HPOS HE hcr htb hd32 HLM hbl HCK HBD HNX HEP
          go_wp2_with fail
          go_ret2
          rw [HFL.out]
          exact ⟨HR.out.2.2.1, rfl⟩
        case inl =>
          have HNY := Lib.hid (HNXA.out hck)
          have hx : (e1 == ((k : Int) == (n : Int) - 1)) = true := by rw [← HEP.out]; exact hck
          clear hck HBAD HNXA HCKB HPOS HE HEP
          have y0 : w.cell? ⟨b, off + k * 2, none⟩ = some (.string s) := (HR.out.2.2.1.cell (p := ⟨b, off + k * 2, none⟩) (show b < w.heap.size by omega)).symm.trans q1
          have y1 : w.cell? ⟨b, off + k * 2 + 1, none⟩ = some (.slice D d.length cd) := (HR.out.2.2.1.cell (p := ⟨b, off + k * 2 + 1, none⟩) (show b < w.heap.size by omega)).symm.trans q2
          have hfull : Hid (∀ w', Below w.heap.size w w' → (Below w.heap.size w w' ∧ w'.cell? ⟨b, off + k * 2, none⟩ = some (.string s) ∧ w'.cell? ⟨b, off + k * 2 + 1, none⟩ = some (.slice D d.length cd))) :=
            Lib.hid fun w' hb => ⟨hb, (hb.cell (p := ⟨b, off + k * 2, none⟩) (show b < w.heap.size by omega)).trans y0, (hb.cell (p := ⟨b, off + k * 2 + 1, none⟩) (show b < w.heap.size by omega)).trans y1⟩
          have HBW := Lib.hid HR.out.2.2.1
          clear y0 y1
          have hq := Lib.run_convert_string_bytes (P := Try.prog) w3.drew 9 22 5 s Try.underlying9 Try.underlying22 Try.underlying5
          have hw4 := bw_below w3.drew 5 s
          have hge := grownCap_ge w3.drew s.size 0 5
          have hbs4 := bw_bs w3.drew 5 s
          have hsz4 := Lib.bytesWorld_size w3.drew 5 s
          have hszd : w3.drew.heap.size = w3.heap.size := rfl
          obtain ⟨A5, c5, w5, hrun, hB5, hU5, ad5, hA5, hg5, hl5⟩ := append_marked (Lib.bytesWorld w3.drew 5 s) w3.drew.heap.size s.size (grownCap w3.drew s.size 0 5) (sb s) (sb_len s)
            (fun j hj => by
              obtain ⟨ad, e, _, hc⟩ := hbs4.at_ hj
              injection e with e
              subst e
              have e0 : (⟨w3.drew.heap.size, 0, none⟩ : Addr).add j = ⟨w3.drew.heap.size, j, none⟩ := by unfold Addr.add; split <;> simp_all
              rw [e0] at hc
              exact hc) (bw_room w3.drew s) hge (by omega) B D d.length cd d rfl ((show Bs w3.drew B D d from hD).below (hw4.mono (by omega))) (by omega) (by rw [hty4]; omega) 22
          subst hA5
          have HW4 : Hid (Below w.heap.size w (Lib.bytesWorld w3.drew 5 s)) := Lib.hid (HBW.out.drew.trans (hw4.mono hsr))
          have HW5' : Hid (Below w3.heap.size w3 w5) := Lib.hid (of_drew (hw4.trans (hU5.below (by omega) (fun j hj e => by omega))))
          have HW5 : Hid (Below w.heap.size w w5) := Lib.hid (HBW.out.trans (HW5'.out.mono hsr))
          have HRN := Lib.hid hrun
          rw [hty4] at hq hrun HRN hge
          have HB5 : Hid (Bs w5 w5.heap.size (some ad5) bo) := Lib.hid (by rw [HBD.out]; exact hB5)
          clear hrun hB5 hU5 hbs4 hw4 hge hD
          generalize grownCap w3.drew 4 0 5 = cp at *
          generalize hw4e : Lib.bytesWorld w3.drew 5 s = w4 at *
          go_upto_region 7 with (fail)
          go_cut [6] from 35 to 46 (fun v wx => v = .slice (some ad5) (4 + d.length) c5 ∧ w5 = wx)
          case first =>
            obtain ⟨_, z1, z2⟩ := hfull.out _ HW4.out
            go_region_law (refine step_append_run rfl (.tmp 40) (.tmp 45) _ rfl rfl rfl HRN.out ?_)
            all_goals
              go_wp2_with fail
              go_meet
              exact ⟨rfl, rfl⟩
          case rest =>
          obtain ⟨rfl, rfl⟩ := hcut
          obtain ⟨_, p2, p3⟩ := hfull.out _ HW5.out
          have hbj := HR.out.2.1
          have hA1 := hbj.lt
          have hj5 := hbj.keep (Upd.of_below HW5'.out) (fun j e => e)
          have h35 := HW5'.out.size
          clear hfull hq hsz4 hw4e q1 q2 HR HRN HW4 HBW HTY
          generalize hdn : d.length = dn at *
          have HDN := Lib.hid hdn
          clear hdn
          go_wp2_with fail
          refine (four_any dn (by omega) w5).mono ?_
          rintro e w6 ⟨rfl, rfl⟩
          have b6 := four_bs w5 dn
          have ub6 := (Upd.refl No w5).alloc (.cells (bytesV (beB dn)).toArray 5)
          have hj6 := hj5.keep ub6 (fun j e => absurd e id)
          have HW6 : Hid (Below w.heap.size w (w5.alloc (.cells (bytesV (beB dn)).toArray 5))) := Lib.hid (HW5.out.trans (ub6.fresh.mono HW5.out.size))
          have hB6 := HB5.out.upd ub6 (Nat.le_refl _) (fun _ _ _ => id)
          have hs6 := ub6.size
          generalize w5.alloc (.cells (bytesV (beB dn)).toArray 5) = w6 at *
          have hbase6 : w.heap.size ≤ w6.heap.size := HW6.out.size
          obtain ⟨A7, c7, w7, hrun7, o7, u7, q7, hb7⟩ := hj6.app hbase6 w6.heap.size (some ⟨w5.heap.size, 0, none⟩) 4 4 (beB dn) rfl (by omega) b6 (by omega) 22
          have hs7 := u7.size
          have hB7 := hB6.upd u7 (by omega) (fun ad e _ he => by
            injection e with e
            subst e
            have := (hA1 _ he).2
            omega)
          have hA7 : ∀ j, A7.map (·.block) = some j → j ≠ ad5.block := fun j hj e => by
            rcases q7 with q | q
            · have := (hA1 j (by rw [← q]; exact hj)).2
              omega
            · have := Option.some.inj (hj.symm.trans q)
              omega
          obtain ⟨A8, c8, w8, hrun8, o8, u8, q8, hb8⟩ := (show BJ w.heap.size w7 A7 (m + 4) c7 _ from .inl o7).app (Nat.le_trans hbase6 hs7) w5.heap.size (some ad5) (4 + dn) c5 bo hbl (by omega) hB7 (by omega) 22
          have hs8 := u8.size
          have hB8 := hB7.upd u8 (by omega) (fun ad e _ he => by
            injection e with e
            subst e
            exact hA7 _ he rfl)
          have HCR := Lib.hid (refCrc_n (some ad5) c5 (4 + dn) bo hbl w5.heap.size w8 hB8 (by unfold maxLen; omega))
          have HW8 : Hid (Below w.heap.size w w8) := Lib.hid (HW6.out.trans (hb7.trans hb8))
          have HRN7 := Lib.hid hrun7; have HRN8 := Lib.hid hrun8; have HO8 := Lib.hid o8
          clear hrun7 hrun8 o7 o8 u7 u8 q7 q8 hb7 hb8 hB7 hB8 hA7 hj6 hj5 hbj hA1 HB5 b6 ub6 hB6 HW6 HW5 HW5'
          generalize hcre : crcOn 0 bo = cr at *
          have HCRE := Lib.hid hcre
          clear hcre
          go_wp2_with (at_builtin; (first | refine wpList_append_run rfl (.tmp 47) (.tmp 55) _ rfl rfl rfl HRN7.out ?_ | refine wpList_append_run rfl (.tmp 57) (.tmp 58) _ rfl rfl rfl HRN8.out ?_))
          refine HCR.out.mono ?_
          rintro e w9 ⟨rfl, rfl⟩
          go_wp2_with fail
          refine (four_any cr hcr _).mono ?_
          rintro e w10 ⟨rfl, rfl⟩
          have b10 := four_bs w8 cr
          have ub10 := (Upd.refl No w8).alloc (.cells (bytesV (beB cr)).toArray 5)
          have o8' := own_upd HO8.out ub10 (fun _ _ => id)
          have HW10 : Hid (Below w.heap.size w (w8.alloc (.cells (bytesV (beB cr)).toArray 5))) := Lib.hid (HW8.out.trans (ub10.fresh.mono HW8.out.size))
          generalize w8.alloc (.cells (bytesV (beB cr)).toArray 5) = w10 at *
          obtain ⟨A11, c11, w11, hrun11, o11, _, _, hb11⟩ := (show BJ w.heap.size w10 A8 (m + 4 + (4 + dn)) c8 _ from .inl o8').app HW10.out.size w10.heap.size (some ⟨w8.heap.size, 0, none⟩) 4 4 (beB cr) rfl (by omega) b10 (by omega) 22
          have HRN11 := Lib.hid hrun11
          have HFIN : Hid (m + 4 + (4 + dn) + 4 = (joinF l (k + 1)).length ∧ BJ w.heap.size w11 A11 (m + 4 + (4 + dn) + 4) c11 (joinF l (k + 1)) ∧ Below w.heap.size w w11 ∧ (0 < k + 1 → w11.ownsRow w.heap.size 5 1 (.slice A11 (m + 4 + (4 + dn) + 4) c11) (m + 4 + (4 + dn) + 4) (bytesV (joinF l (k + 1)))) ∧ (List.range (k + 1)).all (ckB n l) = true) := (fun ho => Lib.hid ⟨HLM.out.2.symm, .inl ho, HW10.out.trans hb11, fun _ => ho, HNY.out⟩) (by
            rw [HNX.out, HCK.out, ← List.append_assoc, ← List.append_assoc]
            exact o11)
          clear hrun11 o11 hb11 o8' b10 ub10 HO8
          go_wp2_with (at_builtin; refine wpList_append_run rfl (.tmp 60) (.tmp 63) _ rfl rfl rfl HRN11.out ?_)
          go_roundw
          case rel => exact ⟨k + 1, m + 4 + (4 + dn) + 4, A11, c11, by omega, by go_num, rfl, HFIN⟩
          case measure => simp [intOf]; omega
    · obtain rfl : n = k := by omega
      obtain ⟨hml, hbj, hbw, hown, hall⟩ := HR.out
      have HML := Lib.hid hml
      have HBW := Lib.hid hbw
      have HE : Hid (joinM l = if 0 < n then .ok (joinF l n) else .error 190) := Lib.hid (by
        unfold joinM jokB
        rw [HN.out, hall, Bool.true_and]
        by_cases h0 : 0 < n
        · rw [decide_eq_true h0, if_pos rfl, if_pos h0]
        · rw [decide_eq_false h0, if_neg h0]
          rfl)
      by_cases hpos : 0 < n
      · have HO := Lib.hid (hown hpos)
        rw [if_pos hpos] at HE
        have h0 : ¬ (n : Int) = 0 := by omega
        clear hbw hbj hml hown hall HR
        go_wp2_with fail
        go_ret2
        rw [HE.out]
        refine ⟨HBW.out, A1, c1, ?_, ?_⟩
        · rw [← HML.out]
          rfl
        · rw [← HML.out]; exact HO.out
      · obtain rfl : n = 0 := by omega
        rw [if_neg hpos] at HE
        clear hbw hbj hml hown hall HR
        go_wp2_with fail
        go_ret2
        rw [HE.out]
        exact ⟨HBW.out, rfl⟩
end Go.Proofs.Ytaloieeemibblaa
