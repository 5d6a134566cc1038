/- Contract of the stream's toldCodes: the codes at a block's beginning. -/
import Derived.Test.YthbdhpciibjnmaaIj
namespace Go.Proofs.Ythbdhpciibjnmaa
open Go.ChangeShapes Go.WideShapes Go.ChangeAt Go.RowKit

theorem lensF_ok {b : List UInt8} : ∀ r i p l q l2, lensF b r i p l = .ok (q, l2) → l.length = 19 → l.any badLen = false → p ≤ 8 * b.length → l2.length = 19 ∧ l2.any badLen = false ∧ p ≤ q ∧ q ≤ 8 * b.length := by
  intro r
  induction r with
  | zero =>
    intro i p l q l2 h h1 h2 h3
    injection h with h
    injection h with ha hb
    subst ha hb
    exact ⟨h1, h2, Nat.le_refl _, h3⟩
  | succ r ih =>
    intro i p l q l2 h h1 h2 h3
    rw [lensF] at h
    rcases hx : takeM b p 3 with ke | ⟨x, q1⟩
    · rw [hx] at h; cases h
    · rw [hx] at h
      have g := takeM_ok hx
      obtain ⟨k1, k2, k3, k4⟩ := ih _ _ _ _ _ h (by rw [List.length_set]; exact h1) (any_set _ _ _ h2 (by unfold badLen; simp; omega)) (by omega)
      exact ⟨k1, k2, by omega, k4⟩
theorem lensM_ok {b : List UInt8} {n p q : Nat} {l : List Int} (h : lensM b n p = .ok (q, l)) (hp : p ≤ 8 * b.length) : l.length = 19 ∧ l.any badLen = false ∧ 0 ≤ roomOf l ∧ p ≤ q ∧ q ≤ 8 * b.length := by
  unfold lensM at h
  split at h
  · cases h
  · rename_i q1 l1 hx
    obtain ⟨k1, k2, k3, k4⟩ := lensF_ok _ _ _ _ _ _ hx (by simp) (by decide) hp
    split at h
    · rename_i hm
      injection h with h
      injection h with ha hb
      subst ha hb
      exact ⟨k1, k2, mayM_room k2 hm, k3, k4⟩
    · cases h
theorem rowF_ok {b : List UInt8} {lc : List Int} {n : Nat} (hlc : lc.length = 19) : ∀ r p row q l2, rowF b lc n r p row = .ok (q, l2) → row.length ≤ n → (∀ x ∈ row, 0 ≤ x ∧ x ≤ 15) → p ≤ 8 * b.length → l2.length = n ∧ (∀ x ∈ l2, 0 ≤ x ∧ x ≤ 15) ∧ p ≤ q ∧ q ≤ 8 * b.length := by
  intro r
  induction r with
  | zero => intro p row q l2 h; cases h
  | succ r ih =>
    intro p row q l2 h h1 h2 h3
    rw [rowF] at h
    split at h
    · injection h with h
      injection h with ha hb
      subst ha hb
      exact ⟨by omega, h2, Nat.le_refl _, h3⟩
    · rcases hx : nextM b lc p with ke | ⟨v, q1⟩
      · rw [hx] at h; cases h
      · rw [hx] at h
        dsimp only at h
        obtain ⟨g0, g1, g2⟩ := nextM_ok hx
        rcases hy : runM b v row q1 with ke | ⟨⟨z, t⟩, q2⟩
        · rw [hy] at h; cases h
        · rw [hy] at h
          dsimp only at h
          obtain ⟨g3, g4, _, _⟩ := runM_ok hy g2
          have g5 := runM_len hy (by omega) h2
          split at h
          · cases h
          · obtain ⟨k1, k2, k3, k4⟩ := ih _ _ _ _ h (by rw [List.length_append, List.length_replicate]; omega) (fun x hx => by
              rcases List.mem_append.mp hx with h6 | h6
              · exact h2 x h6
              · obtain rfl := (List.mem_replicate.mp h6).2
                exact g5) g4
            exact ⟨k1, k2, by omega, k4⟩
theorem bad_small {l : List Int} (h : ∀ x ∈ l, 0 ≤ x ∧ x ≤ 15) : l.any badLen = false := by
  rw [List.any_eq_false]
  intro x hx
  have := h x hx
  unfold badLen
  simp
  omega
set_option maxHeartbeats 8000000 in
set_option maxRecDepth 100000 in
theorem toldCodes_any (w : World) (B gs gr : Nat) (A : Option Addr) (c : Nat) (b : List UInt8) (most p : Nat) (out : List UInt8) (h : Strm w B gs gr A c b most p out) :
    Calls Try.prog 38 #[.pointer (some ⟨gs, 0, none⟩)] w (Codes2 w B gs gr A c b most out (toldM b p)) := by
  obtain ⟨Ao, co, fx, h⟩ := h
  obtain ⟨X, HX⟩ : ∃ X, Hid (toldM b p = X) := ⟨_, Lib.hid rfl⟩
  rw [HX.out]
  have hx := HX.out
  unfold toldM at hx
  have hbw := (Below.refl w.heap.size w).alloc (Nat.le_refl _) (.cells #[.pointer none, .pointer none] 82)
  have HS0 := Lib.hid (h.fresh hbw)
  have HL0 : Hid (Left w B (w.alloc (.cells #[.pointer none, .pointer none] 82))) := Lib.hid (Left.fresh hbw h.size)
  have HC0 : Hid (Blk (w.alloc (.cells #[.pointer none, .pointer none] 82)) w.heap.size 82 #[.pointer none, .pointer none]) := Lib.hid (Blk.new _ _ _)
  have HH := Lib.hid h
  clear h hbw
  generalize hw0 : w.alloc (.cells #[.pointer none, .pointer none] 82) = w0 at *
  have HW0 := Lib.hid hw0; clear hw0
  have HT := Lib.hid (take_num w0 B gs gr A c b most p Ao co out fx HS0.out 5 (by omega))
  go_enter Try.func38, Try.ntmps38
  go_wp2_with fail
  rw [HW0.out]
  rcases ht : takeM b p 5 with ke | ⟨hl, p1⟩
  · rw [ht] at HT hx
    have HXE : Hid (X = .error ke) := Lib.hid hx.symm
    clear hx ht
    refine HT.out.mono ?_
    rintro e w1 ⟨rfl, hl1⟩
    refine ⟨rfl, ?_⟩
    rw [HXE.out]
    exact ⟨rfl, HL0.out.trans hl1⟩
  rw [ht] at HT hx
  dsimp only at hx
  have hhl := (takeM_ok ht).1
  clear ht
  have Hx := Lib.hid hx; clear hx
  refine HT.out.mono ?_
  rintro e w1 ⟨rfl, hs1, hl1⟩
  have HL1 := Lib.hid (HL0.out.trans hl1)
  have HC1 := Lib.hid (hl1.2 _ _ _ HC0.out (by decide))
  have HT := Lib.hid (take_num w1 B gs gr A c b most p1 Ao co out fx hs1 5 (by omega))
  clear hs1 hl1 HC0 HL0 HS0
  go_wp2_with fail
  rcases ht : takeM b p1 5 with ke | ⟨hd, p2⟩
  · have hx := Hx.out
    rw [ht] at HT hx
    have HXE : Hid (X = .error ke) := Lib.hid hx.symm
    clear hx ht
    refine HT.out.mono ?_
    rintro e w2 ⟨rfl, hl2⟩
    refine ⟨rfl, ?_⟩
    rw [HXE.out]
    exact ⟨rfl, HL1.out.trans hl2⟩
  have hx := Hx.out
  rw [ht] at HT hx
  dsimp only at hx
  have hhd := (takeM_ok ht).1
  clear ht Hx
  have Hx := Lib.hid hx; clear hx
  refine HT.out.mono ?_
  rintro e w2 ⟨rfl, hs2, hl2⟩
  have HL2 := Lib.hid (HL1.out.trans hl2)
  have HC2 := Lib.hid (hl2.2 _ _ _ HC1.out (by decide))
  have HT := Lib.hid (take_num w2 B gs gr A c b most p2 Ao co out fx hs2 4 (by omega))
  clear hs2 hl2 HC1 HL1
  go_wp2_with fail
  rcases ht : takeM b p2 4 with ke | ⟨hc, p3⟩
  · have hx := Hx.out
    rw [ht] at HT hx
    have HXE : Hid (X = .error ke) := Lib.hid hx.symm
    clear hx ht
    refine HT.out.mono ?_
    rintro e w3 ⟨rfl, hl3⟩
    refine ⟨rfl, ?_⟩
    rw [HXE.out]
    exact ⟨rfl, HL2.out.trans hl3⟩
  have hx := Hx.out
  rw [ht] at HT hx
  dsimp only at hx
  have hhc := (takeM_ok ht).1
  clear ht Hx
  have Hx := Lib.hid hx; clear hx
  refine HT.out.mono ?_
  rintro e w3 ⟨rfl, hs3, hl3⟩
  have HL3 := Lib.hid (HL2.out.trans hl3)
  have HC3 := Lib.hid (hl3.2 _ _ _ HC2.out (by decide))
  have HS3 := Lib.hid hs3
  clear hs3 hl3 HC2 HL2 HT
  by_cases hbig : 29 < hl ∨ 29 < hd
  · have hx := Hx.out
    rw [if_pos hbig] at hx
    have HXE : Hid (X = .error 41) := Lib.hid hx.symm
    clear hx Hx
    by_cases h1 : 29 < hl
    · have d1 : decide ((286 : Int) < 257 + (hl : Int)) = true := by simp; omega
      clear hbig
      go_wp2_with fail
      refine ⟨rfl, ?_⟩
      rw [HXE.out]
      exact ⟨rfl, HL3.out⟩
    · have d1 : decide ((286 : Int) < 257 + (hl : Int)) = false := by simp; omega
      have d2 : decide ((30 : Int) < 1 + (hd : Int)) = true := by simp; omega
      clear hbig
      go_wp2_with fail
      refine ⟨rfl, ?_⟩
      rw [HXE.out]
      exact ⟨rfl, HL3.out⟩
  have hx := Hx.out
  rw [if_neg hbig] at hx
  have d1 : decide ((286 : Int) < 257 + (hl : Int)) = false := by simp; omega
  have d2 : decide ((30 : Int) < 1 + (hd : Int)) = false := by simp; omega
  have hhl2 : hl ≤ 29 := by omega
  have hhd2 : hd ≤ 29 := by omega
  clear hbig Hx
  have hHC := lengthsCode_any w3 B gs gr A c b most p3 Ao co out fx HS3.out (hc + 4) (by omega)
  rw [show (((hc + 4 : Nat)) : Int) = 4 + (hc : Int) by omega] at hHC
  have HLC := Lib.hid hHC; clear hHC
  go_wp2_with fail
  rcases ht : lensM b (hc + 4) p3 with ke | ⟨p4, lc⟩
  · rw [ht] at HLC hx
    have HXE : Hid (X = .error ke) := Lib.hid hx.symm
    clear hx ht
    refine HLC.out.mono ?_
    rintro e w4 ⟨rfl, hl4⟩
    refine ⟨rfl, ?_⟩
    rw [HXE.out]
    exact ⟨rfl, HL3.out.trans hl4⟩
  rw [ht] at HLC hx
  dsimp only at hx
  obtain ⟨q1, q2, q3, _, q4⟩ := lensM_ok ht HS3.out.rdr.2.2.2.1
  clear ht
  refine HLC.out.mono ?_
  rintro e w4 ⟨gc, rfl, hd4, hs4, hl4⟩
  have HL4 := Lib.hid (HL3.out.trans hl4)
  have HC4 := Lib.hid (hl4.2 _ _ _ HC3.out (by decide))
  have hRW := row_any w4 B gs gr A c b most p4 Ao co out fx hs4 B gc lc hd4 q2 q1 q3 (hl + 257 + (hd + 1)) (by omega)
  rw [show (((hl + 257 + (hd + 1) : Nat)) : Int) = 257 + (hl : Int) + (1 + (hd : Int)) by omega] at hRW
  have HRW := Lib.hid hRW
  clear hRW hd4 hs4 hl4 q2 q3 HLC HL3 HC3 HS3
  go_wp2_with fail
  rcases ht : rowM b lc (hl + 257 + (hd + 1)) p4 [] with ke | ⟨p5, row⟩
  · rw [ht] at HRW hx
    have HXE : Hid (X = .error ke) := Lib.hid hx.symm
    clear hx ht
    refine HRW.out.mono ?_
    rintro e w5 ⟨rfl, hl5⟩
    refine ⟨rfl, ?_⟩
    rw [HXE.out]
    exact ⟨rfl, HL4.out.trans hl5⟩
  rw [ht] at HRW hx
  dsimp only at hx
  obtain ⟨q5, q6, _, _⟩ := rowF_ok q1 _ _ _ _ _ ht (by simp) (by simp) q4
  have HQ6 := Lib.hid q6
  clear ht q1 q6
  refine HRW.out.mono ?_
  rintro e w5 ⟨Ar, cr, n5, rfl, ho5, hs5, hl5⟩
  have hn5 := own_len ho5
  rw [intsV_length, q5] at hn5
  subst hn5
  obtain ⟨ga, rfl, hrc, hrm, _, _⟩ := row_form ho5 (by omega)
  have HL5 := Lib.hid (HL4.out.trans hl5)
  have HC5 := Lib.hid (hl5.2 _ _ _ HC4.out (by decide))
  have HS5 := Lib.hid hs5
  have h256 := row_at ho5 256 (by omega)
  have HO5 := Lib.hid ho5
  have hgd : row.getD 256 0 = row[256]'(by omega) := by rw [List.getD, List.getElem?_eq_getElem (by omega)]; rfl
  rw [hgd] at hx
  generalize row[256]'(by omega) = z at *
  have HQ5 := Lib.hid q5
  clear hgd hs5 hl5 ho5 q5 HRW HL4 HC4
  by_cases hz : z = 0
  · rw [if_pos hz] at hx
    subst hz
    have HXE : Hid (X = .error 41) := Lib.hid hx.symm
    clear hx
    go_wp2_with fail
    refine ⟨rfl, ?_⟩
    rw [HXE.out]
    exact ⟨rfl, HL5.out⟩
  rw [if_neg hz] at hx
  have Hx := Lib.hid hx
  have d3 : (z == 0) = false := by rw [beq_eq_false_iff_ne]; exact hz
  clear hx hz
  have HLI : Hid (Is w5.drew w5.drew.heap.size (some ⟨ga, 0, none⟩) (row.take (hl + 257))) := Lib.hid (by
    have := Vs.take (Vs.of_own HO5.out) (hl + 257)
    unfold Is
    rw [show intsV (row.take (hl + 257)) = (intsV row).take (hl + 257) by simp [intsV]]
    exact this)
  have hcp : hl + 257 ≤ cr := by omega
  have n1 : (257 + (hl : Int)).toNat = hl + 257 := by omega
  have n2 : ¬ cr = hl + 257 := by omega
  have n3 : (257 + (hl : Int)) ≤ (cr : Int) := by omega
  have n4 : 0 ≤ (257 + (hl : Int)) := by omega
  have n6 : (257 + (hl : Int)) ≤ (hl : Int) + 257 + ((hd : Int) + 1) := by omega
  go_wp2_with fail
  refine wp_region_any (by kernel_rfl) ?_
  change wpAny _ _ _ _ _ _ _ (World.drew _)
  refine wpAny_take (i := 0) (v := _) rfl (by kernel_rfl) (by kernel_rfl) (by kernel_rfl) (fun _ _ _ h => h) (Or.inl ⟨by rfl, by (intro w; go_simp; first | done | (with_reducible rfl))⟩) ?_
  refine wpAny_take (i := 1) (v := _) rfl (by kernel_rfl) (by kernel_rfl) (by kernel_rfl) (fun _ _ _ h => h) (Or.inl ⟨by rfl, by (intro w; go_simp; first | done | (with_reducible rfl))⟩) ?_
  refine wpAny_take (i := 2) (v := _) rfl (by kernel_rfl) (by kernel_rfl) (by kernel_rfl) (fun _ _ _ h => h) (Or.inl ⟨by rfl, by (intro w; go_simp; first | done | (with_reducible rfl))⟩) ?_
  refine wpAny_take (i := 4) (v := _) rfl (by kernel_rfl) (by kernel_rfl) (by kernel_rfl) (fun _ _ _ h => h) (Or.inl ⟨by rfl, by (intro w; go_simp; first | done | (with_reducible rfl))⟩) ?_
  refine wpAny_take (i := 5) (v := _) rfl (by kernel_rfl) (by kernel_rfl) (by kernel_rfl) (fun _ _ _ h => h) (Or.inl ⟨by rfl, by (intro w; go_simp; first | done | (with_reducible rfl))⟩) ?_
  refine wpAny_take (i := 6) (v := _) rfl (by kernel_rfl) (by kernel_rfl) (by kernel_rfl) (fun _ _ _ h => h) (Or.inl ⟨by rfl, by (intro w; go_simp; first | done | (with_reducible rfl))⟩) ?_
  refine wpAny_ready (rs := [3]) (by kernel_rfl) (by simp) ?_
  refine AllReady.cons rfl (fun K hK => ?_) AllReady.nil
  go_simp
  have hbl : (row.take (hl + 257)).any badLen = false := bad_small (fun x hx => HQ6.out x (List.mem_of_mem_take hx))
  have hbd : (row.drop (hl + 257)).any badLen = false := bad_small (fun x hx => HQ6.out x (List.mem_of_mem_drop hx))
  have hll : (row.take (hl + 257)).length = hl + 257 := by rw [List.length_take, HQ5.out]; omega
  have hld : (row.drop (hl + 257)).length = hd + 1 := by rw [List.length_drop, HQ5.out]; omega
  have HBL := Lib.hid hbl
  have HBD := Lib.hid hbd
  have HLL := Lib.hid hll
  have HLD := Lib.hid hld
  clear hbl hbd hll hld n1 n2 n3 n4 n6 d3
  rcases hm : mayM (row.take (hl + 257)) false with _ | _
  · have hx := Hx.out
    rw [hm] at hx
    have HXE : Hid (X = .error 41) := Lib.hid hx.symm
    refine (goodDecoder_no (some ⟨ga, 0, none⟩) cr (hl + 257) (row.take (hl + 257)) false w5.drew HLL.out HLI.out (by rw [HLL.out]; omega) HBL.out hm).mono ?_
    rintro e w6 ⟨rfl, rfl⟩
    refine ⟨rfl, ?_⟩
    rw [HXE.out]
    exact ⟨rfl, HL5.out.drewN 1⟩
  have hx := Hx.out
  rw [hm, if_pos rfl] at hx
  refine (goodDecoder_any (some ⟨ga, 0, none⟩) cr (hl + 257) (row.take (hl + 257)) false w5.drew HLL.out HLI.out (by rw [HLL.out]; omega) HBL.out hm).mono ?_
  rintro e w6 ⟨gl, rfl, hd6, hb6⟩
  refine hK _ _ ?_
  clear hK K hm
  refine wpAny_ready (rs := [7]) (by kernel_rfl) (by simp) ?_
  refine AllReady.cons rfl (fun K hK => ?_) AllReady.nil
  go_simp
  have hid : Is w6 w6.heap.size (some ⟨ga, hl + 257, none⟩) (row.drop (hl + 257)) := by
    have h1 := (Vs.of_own HO5.out).drop (k := hl + 257) (cap := cr) (by rw [intsV_length, HQ5.out]; omega) (by rw [intsV_length, HQ5.out]; omega)
    rw [if_neg (by omega)] at h1
    have e1 : (Option.map (fun x : Addr => x.add (hl + 257)) (some (⟨ga, 0, none⟩ : Addr))) = some ⟨ga, hl + 257, none⟩ := by
      unfold Addr.add
      simp
    rw [e1] at h1
    have h2 : Is w5.drew w5.drew.heap.size (some ⟨ga, hl + 257, none⟩) (row.drop (hl + 257)) := by
      unfold Is
      rw [show intsV (row.drop (hl + 257)) = (intsV row).drop (hl + 257) by simp [intsV]]
      exact h1
    exact (Vs.below h2 hb6).more hb6.size
  have HL6 := Lib.hid ((HL5.out.drewN 1).trans (Left.fresh hb6 HS5.out.size))
  have HC6 := Lib.hid ((show Blk w5.drew _ _ _ from HC5.out).upd (Upd.of_fresh hb6) id)
  have HS6 := Lib.hid ((HS5.out.drew).fresh hb6)
  have HD6 := Lib.hid (hd6.from_ HS5.out.size)
  have HID := Lib.hid hid
  clear hd6 hb6 hid
  rcases hm : mayM (row.drop (hl + 257)) true with _ | _
  · rw [hm] at hx
    have HXE : Hid (X = .error 41) := Lib.hid hx.symm
    refine (goodDecoder_no (some ⟨ga, hl + 257, none⟩) (cr - (hl + 257)) (hd + 1) (row.drop (hl + 257)) true w6 HLD.out HID.out (by rw [HLD.out]; omega) HBD.out hm).mono ?_
    rintro e w7 ⟨rfl, rfl⟩
    refine ⟨rfl, ?_⟩
    rw [HXE.out]
    exact ⟨rfl, HL6.out⟩
  rw [hm, if_pos rfl] at hx
  have HXE : Hid (X = .ok (p5, row.take (hl + 257), row.drop (hl + 257))) := Lib.hid hx.symm
  refine (goodDecoder_any (some ⟨ga, hl + 257, none⟩) (cr - (hl + 257)) (hd + 1) (row.drop (hl + 257)) true w6 HLD.out HID.out (by rw [HLD.out]; omega) HBD.out hm).mono ?_
  rintro e w7 ⟨gd, rfl, hd7, hb7⟩
  have HL7 := Lib.hid (HL6.out.trans (Left.fresh hb7 HS6.out.size))
  have HC7 := Lib.hid (HC6.out.upd (Upd.of_fresh hb7) id)
  have HS7 := Lib.hid (HS6.out.fresh hb7)
  have HDl := Lib.hid (HD6.out.fresh hb7)
  have HDd := Lib.hid (hd7.from_ HS6.out.size)
  have e0 := (HC7.out.cell 0).trans rfl
  have e1 := (HC7.out.cell 1).trans rfl
  have k0 := HC7.out.frozen 0
  have k1 := HC7.out.frozen 1
  clear hd7 hb7 HD6 HC6 HL6 hx hm
  refine hK _ _ ?_
  clear hK K
  refine wpAny_take (i := 8) (v := _) rfl (by kernel_rfl) (by kernel_rfl) (by kernel_rfl) (fun _ _ _ h => h) (Or.inl ⟨by rfl, by (intro w; go_simp; first | done | (with_reducible rfl))⟩) ?_
  refine wpAny_ready (rs := [9]) (by kernel_rfl) (by simp) ?_
  refine AllReady.cons rfl (fun K hK => ?_) AllReady.nil
  go_simp
  refine hK _ _ ?_
  clear hK K
  refine wpAny_done (by kernel_rfl) ?_ _
  have hu : Upd (· = w.heap.size) w7 ((w7.setCell ⟨w.heap.size, 0, none⟩ (.pointer (some ⟨gl, 0, none⟩))).setCell ⟨w.heap.size, 1, none⟩ (.pointer (some ⟨gd, 0, none⟩))) :=
    ((Upd.refl (· = w.heap.size) w7).setCell (p := ⟨w.heap.size, 0, none⟩) (fun _ => rfl) _).setCell (p := ⟨w.heap.size, 1, none⟩) (fun _ => rfl) _
  have hl9 := (HL7.out.setNew HH.out.size 0 (.pointer (some ⟨gl, 0, none⟩))).setNew HH.out.size 1 (.pointer (some ⟨gd, 0, none⟩))
  have hs9 := HS7.out.other HC7.out (by decide) (by decide) (by decide) (HH.out.fix.keep hl9.2) hu
  have dl9 := HDl.out.other HC7.out (by decide) (by decide) hu
  have dd9 := HDd.out.other HC7.out (by decide) (by decide) hu
  have hRB := (HC7.out.set_ 0 (.pointer (some ⟨gl, 0, none⟩))).set_ 1 (.pointer (some ⟨gd, 0, none⟩))
  have H9 := Lib.hid hl9
  have S9 := Lib.hid hs9
  have DL9 := Lib.hid dl9
  have DD9 := Lib.hid dd9
  have HRB := Lib.hid hRB
  clear hu hl9 hs9 dl9 dd9 hRB
  go_wp2_with fail
  rw [HXE.out]
  exact bodyPost_ret (v := .agg #[.pointer (some ⟨gl, 0, none⟩), .pointer (some ⟨gd, 0, none⟩)]) (results_cell_row rfl _ _ w.heap.size 82 #[.pointer (some ⟨gl, 0, none⟩), .pointer (some ⟨gd, 0, none⟩)] (0, 0) _ rfl HRB.out Try.underlying82 rfl codes_info) rfl ⟨gl, gd, rfl, DL9.out, DD9.out, S9.out.strm, H9.out⟩
end Go.Proofs.Ythbdhpciibjnmaa
