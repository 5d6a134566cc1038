/- A decoder of any lengths reads any bits, symbol by symbol, as the codes say: for every list of lengths, every list of bytes, either order. -/
import Derived.Test.YtpolbnobnilfcaaRs
import Derived.Deep.CondSized
namespace Go.Proofs.Ytpolbnobnilfcaa
open Go.ChangeShapes Go.WideShapes Go.ChangeAt Go.RowKit
namespace PrefixReads

set_option maxHeartbeats 4000000 in
set_option maxRecDepth 100000 in
theorem walk (A : Option Addr) (c : Nat) (l : List Int) (B : Option Addr) (d : Nat) (bs : List UInt8) (high : Bool) (w : World) (hbs : Is w w.heap.size A l) (_ : ∀ x ∈ l, -9223372036854775808 ≤ x ∧ x ≤ 9223372036854775807) (hl : l.length ≤ 17592186043904) (hbb : Bs w w.heap.size B bs) (hbl : bs.length ≤ 140737488355328) :
    Calls Try.prog 4 #[.slice A l.length c, .slice B bs.length d, .bool high] w fun e w' => e = .returned (.bool true) ∧ Below w.heap.size w w' := by
  obtain ⟨i0, hi, hz0, hz1, hz2⟩ := info_parts info_u8
  go_enter Try.func4, Try.ntmps4
  go_wp2_with fail
  refine (wakes_any w).mono ?_
  rintro e w1 ⟨rfl, hb1⟩
  go_wp2_with fail
  refine (ownI_n A c l.length l rfl _ w1 (Vs.below hbs hb1) hb1.size (by omega)).mono ?_
  rintro e w2 ⟨A2, c2, rfl, o2, hb2⟩
  have hb2' := hb1.trans (hb2.mono hb1.size)
  go_wp2_with fail
  refine (new_any A2 c2 l w2 (Vs.of_own o2) (by omega)).mono ?_
  intro e w3 hN
  unfold NewRes at hN
  by_cases h0 : codesErr l = 0
  · rw [if_pos h0] at hN
    obtain ⟨gd, rfl, hd3, hb3⟩ := hN
    have hb3' := hb2'.trans (hb3.mono hb2'.size)
    have hbs3 : Is w3 w3.heap.size A l := Vs.more (Vs.below hbs hb3') hb3'.size
    go_wp2_with fail
    refine (refCodes_any A c l w3 hbs3 (by omega)).mono ?_
    rintro e w4 ⟨A4, n4, c4, rfl, _, hb4⟩
    rw [h0]
    have hb4' := hb3'.trans (hb4.mono hb3'.size)
    have hd4 : DecAt w4 w2.heap.size gd l := hd3.upd (Upd.of_fresh hb4) (fun _ _ _ => id)
    obtain ⟨hre, hro⟩ := codesErr_zero h0
    obtain ⟨hl4, hg⟩ := roomErr_zero hre
    have bb4 : Bs w4 w4.heap.size B bs := Bs.more (hbb.below hb4') hb4'.size
    have hbs4 : Is w4 w4.heap.size A l := Vs.more (Vs.below hbs hb4') hb4'.size
    clear hb1 hb2 hb2' hb3 hb3' hb4 o2 hd3 hbs3 h0 hre
    go_wp2_with (at_builtin; refine wpList_append_bs _ rfl (.tmp 45) (.tmp 46) _ rfl w4.heap.size 5 i0 Try.underlying37 hi hz0 hz1 hz2 (.slice (some ⟨w4.heap.size, 0, none⟩) 0 0) 0 [] rfl (World.ownsRow_made w4 #[] 0 (Nat.le_refl _) (by omega) rfl) w4.heap.size B d bs rfl (bb4.alloc (Nat.le_refl _) _) (by omega) (by simp) ?_; intro A5 c5 w5 o5 hg5 hat5; simp only [Nat.zero_add, List.nil_append] at o5 hat5 ⊢)
    have hb5 : Below w4.heap.size w4 w5 := ((Below.refl w4.heap.size w4).alloc (Nat.le_refl _) _).grown hg5 (by simp) (by simp [Value.ownBlock])
    have hb5' := hb4'.trans (hb5.mono hb4'.size)
    have hd5 : DecAt w5 w2.heap.size gd l := hd4.upd (Upd.of_fresh hb5) (fun _ _ _ => id)
    clear hg5 hat5 hb4' hd4
    refine (newReader_any A5 c5 bs high w5.heap.size w5 (Bs.of_own (own_from o5 (Nat.zero_le _))) (Nat.le_refl _) hbl).mono ?_
    rintro e w6 ⟨gr, A6, c6, rfl, hr6, hb6⟩
    have hb6' := hb5'.trans (hb6.mono hb5'.size)
    have hd6 : DecAt w6 w2.heap.size gd l := hd5.upd (Upd.of_fresh hb6) (fun _ _ _ => id)
    clear hb6 hd5 o5
    go_wp2_with fail
    refine (refTabled_any A c l w6 (Vs.more (Vs.below hbs hb6') hb6'.size) hl4 hg hro).mono ?_
    rintro e w7 ⟨cs, rfl, hcl, hF, hO, hA, hb7⟩
    have hb7' := hb6'.trans (hb7.mono hb6'.size)
    have hd7 : DecAt w7 w2.heap.size gd l := hd6.upd (Upd.of_fresh hb7) (fun _ _ _ => id)
    have hsz : (Try.prog.info? 46).map (·.size) = some cs.toArray.size := by rw [List.size_toArray, hcl]; exact tbl_info
    have hgr : gr < w6.heap.size := hr6.1.lt
    have hgr0 : w.heap.size ≤ gr := Nat.le_trans hb5'.size hr6.2.2.1
    have h1c := tbl_cells hcl (fun k hk => ⟨_, hF k hk⟩) (fun k hk => by obtain ⟨A, c, h, _⟩ := hO k hk; exact ⟨A, _, c, h⟩) ⟨_, hA⟩
    have hsz0 : tbl0.toArray.size = cs.toArray.size := by rw [List.size_toArray, List.size_toArray, hcl]; rfl
    have HST : Hid (∀ w8 w9 : World, w8 = ((w7.alloc (.cells tbl0.toArray 46)).alloc (.cells #[.slice none 0 0, .bool false, .int .i64 0] 49)).setRow w7.heap.size cs.toArray → w9 = w8.setRow (w7.heap.size + 1) #[.slice B bs.length d, .bool high, .int .i64 0] →
        Blk w8 (w7.heap.size + 1) 49 #[.slice none 0 0, .bool false, .int .i64 0] ∧ RdSt w w2.heap.size gd l w5.heap.size gr A6 c6 bs high w6.heap.size w7.heap.size cs B d 0 w9) := Lib.hid (by
      intro w8 w9 h8 h9
      have k1 := (Blk.new w7 46 tbl0.toArray).alloc (.cells #[.slice none 0 0, .bool false, .int .i64 0] 49)
      have k2 := blk_second w7 (.cells tbl0.toArray 46) 49 #[.slice none 0 0, .bool false, .int .i64 0]
      have u1 := upd_setRow ((w7.alloc (.cells tbl0.toArray 46)).alloc (.cells #[.slice none 0 0, .bool false, .int .i64 0] 49)) w7.heap.size cs.toArray
      have k3 : Blk _ w7.heap.size 46 cs.toArray := setRow_heap _ _ _ cs.toArray _ _ k1
      rw [← h8] at u1 k3
      have k4 := k2.upd u1 (by omega)
      have u2 := upd_setRow w8 (w7.heap.size + 1) #[.slice B bs.length d, .bool high, .int .i64 0]
      have k5 : Blk _ (w7.heap.size + 1) 49 #[.slice B bs.length d, .bool high, .int .i64 0] := setRow_heap _ _ _ #[.slice B bs.length d, .bool high, .int .i64 0] _ _ k4
      rw [← h9] at u2 k5
      have k6 := k3.upd u2 (by omega)
      have ua : Upd (fun k => w7.heap.size ≤ k) w7 w9 := Upd.trans (Upd.trans (((Upd.refl _ w7).alloc _).alloc _) (u1.mono (fun k _ h => by omega))) (u2.mono (fun k _ h => by omega))
      have hs := hb7'.size
      exact ⟨k4, hd7.upd ua (fun k _ h1 h2 => by omega), (hr6.upd (Upd.of_fresh hb7) id (fun _ _ => id)).upd ua (by have := hb7.size; omega) (fun k hk => by have := hr6.2.1.lt k hk; have := hb7.size; omega), k6, k5, (TblO.start hO).upd ua (fun b _ h1 h2 => by omega), hb7'.trans (ua.below hb7'.size (fun k _ e => by omega)), hgr, hb7.size, hgr0⟩)
    clear hb7 hd6 hb6' hd7 hb7' hO hgr hgr0 hr6
    have hBT : Blk ((w7.alloc (.cells tbl0.toArray 46)).alloc (.cells #[.slice none 0 0, .bool false, .int .i64 0] 49)) w7.heap.size 46 tbl0.toArray := (Blk.new w7 46 tbl0.toArray).alloc _
    have HBT := Lib.hid hBT; clear hBT
    go_wp2_with (first | (refine wpList_store_rowK rfl 46 (.tmp 12) (.tmp 51) rfl w7.heap.size cs.toArray rfl rfl 46 tbl0.toArray HBT.out hsz hsz0 h1c ?_; intro w8 hw8; have HW8 := Lib.hid hw8; clear hw8) | (refine wpList_store_rowK rfl 49 (.tmp 13) (.tmp 54) rfl (w7.heap.size + 1) #[.slice B bs.length d, .bool high, .int .i64 0] rfl rfl 49 #[.slice none 0 0, .bool false, .int .i64 0] (HST.out w8 _ HW8.out rfl).1 rdr_info rfl (by simp [Value.oneCell']) ?_; intro w9 hw9; have HS9 := Lib.hid (HST.out w8 w9 HW8.out hw9).2; clear hw9))
    have HG := Lib.hid hg; clear hg
    have HRO := Lib.hid hro; clear hro
    have HCL := Lib.hid hcl; clear hcl
    have HFF := Lib.hid hF; clear hF
    have HAA := Lib.hid hA; clear hA
    have HSZ := Lib.hid hsz; clear hsz
    try clear hsz0
    try clear h1c
    try clear HBT
    try clear HST
    try clear HW8
    try clear bb4
    try clear hbs4
    try clear hb4
    try clear hb5
    go_loopw [14] (fun i wr => ∃ k at_ : Nat, k ≤ 40 ∧ i = .int .i64 (k : Int) ∧ at_ ≤ 8 * bs.length ∧ Hid (RdSt w w2.heap.size gd l w5.heap.size gr A6 c6 bs high w6.heap.size w7.heap.size cs B d at_ wr)) (fun i _ => 40 - (intOf i).toNat)
    case atStart => exact ⟨0, 0, by omega, rfl, by omega, HS9⟩
    case round =>
      obtain ⟨k, at_, hk, rfl, hat, HS⟩ := hrel
      by_cases hlt : k < 40
      · obtain ⟨u, s, er, hX⟩ : ∃ u s er, nextOf l (fun i => bitAt bs high (at_ + i)) (8 * bs.length - at_) = (u, s, er) := ⟨_, _, _, rfl⟩
        have hn1 := next_any wr _ gd l HS.out.1 HG.out hl4 HRO.out _ gr A6 c6 bs high at_ HS.out.2.1
        rw [hX] at hn1
        have HN1 := Lib.hid hn1; clear hn1
        have HX := Lib.hid hX; clear hX
        have HBB := Lib.hid hbb
        go_wp2_with fail
        refine HN1.out.mono ?_
        intro e w10 hP
        unfold NextP at hP
        obtain ⟨rfl, hR10, hU10⟩ := hP
        simp only at hR10 ⊢
        obtain ⟨p, hp⟩ : ∃ p, at_ + u = p := ⟨_, rfl⟩
        rw [hp] at hR10
        have hpl : p ≤ 8 * bs.length := hR10.2.2.2.1
        obtain ⟨k1, k2, k3, k4, k5, k6⟩ := HS.out.on hU10 hR10
        have hgt1 := k4.lt
        have hgt0 := HS.out.2.2.2.2.2.2.2.1
        have hgr1 := HS.out.2.2.2.2.2.2.1
        have hgr0 := HS.out.2.2.2.2.2.2.2.2
        have hTV := k5.val HCL.out HFF.out HAA.out
        have hsw := k6.size
        have hn2 := refNext_any l cs B d bs high at_ w10 hTV hl4 HRO.out (Bs.more (HBB.out.below k6) hsw) hbl hat
        rw [HX.out] at hn2
        have HN2 := Lib.hid hn2; clear hn2 hTV hR10 hU10
        have r0 : w10.cell? ⟨w7.heap.size + 1, 0, none⟩ = some (.slice B bs.length d) := by rw [k4.cell]; rfl
        have r1 : w10.cell? ⟨w7.heap.size + 1, 1, none⟩ = some (.bool high) := by rw [k4.cell]; rfl
        have r2 : w10.cell? ⟨w7.heap.size + 1, 2, none⟩ = some (.int .i64 (at_ : Int)) := by rw [k4.cell]; rfl
        have K1 := Lib.hid k1; clear k1
        have K2 := Lib.hid k2; clear k2
        have K3 := Lib.hid k3; clear k3
        have K4 := Lib.hid k4; clear k4
        have K5 := Lib.hid k5; clear k5
        have K6 := Lib.hid k6; clear k6
        have HPP := Lib.hid hp; clear hp
        go_wp2_with (refine wpList_load_row rfl 46 (.tmp 12) rfl w7.heap.size rfl 46 cs.toArray (0, 0) _ K3.out Try.underlying46 rfl HSZ.out ?_)
        refine HN2.out.mono ?_
        intro e w11 hP
        unfold NextRes at hP
        obtain ⟨rfl, hb11⟩ := hP
        simp only
        rw [HPP.out, show rdV B d bs high ((p : Nat) : Int) = .agg #[.slice B bs.length d, .bool high, .int .i64 (p : Int)] from rfl]
        have q1 := K1.out.upd (Upd.of_fresh hb11) (fun _ _ _ => id)
        have q2 := K2.out.upd (Upd.of_fresh hb11) id (fun _ _ => id)
        have q3 := K3.out.upd (Upd.of_fresh hb11) id
        have q4 := K4.out.upd (Upd.of_fresh hb11) id
        have q5 := K5.out.upd (Upd.of_fresh hb11) (fun _ _ _ => id)
        have q6 := K6.out.trans (hb11.mono hsw)
        have r0 : w11.cell? ⟨w7.heap.size + 1, 0, none⟩ = some (.slice B bs.length d) := by rw [q4.cell]; rfl
        have r1 : w11.cell? ⟨w7.heap.size + 1, 1, none⟩ = some (.bool high) := by rw [q4.cell]; rfl
        have r2 : w11.cell? ⟨w7.heap.size + 1, 2, none⟩ = some (.int .i64 (at_ : Int)) := by rw [q4.cell]; rfl
        have g0 := q4.frozen 0
        have g1 := q4.frozen 1
        have g2 := q4.frozen 2
        have hly := q4.lt
        have hlx : w7.heap.size < w11.heap.size := by omega
        have d0 : (((s : Nat) : Int) != ((s : Nat) : Int)) = false := by simp
        have d1 : (((er : Nat) : Int) != ((er : Nat) : Int)) = false := by simp
        have d2 : (((p : Nat) : Int) != ((p : Nat) : Int)) = false := by simp
        have Q1 := Lib.hid q1; clear q1
        have Q2 := Lib.hid q2; clear q2
        have Q3 := Lib.hid q3; clear q3
        have Q4 := Lib.hid q4; clear q4
        have Q5 := Lib.hid q5; clear q5
        have Q6 := Lib.hid q6; clear q6
        clear hb11 K1 K2 K3 K4 K5 K6
        go_wp2_with fail
        have us : Upd (· = w7.heap.size + 1) w11 (((((w11.setCell ⟨w7.heap.size + 1, 0, none⟩ (.slice B bs.length d)).setCell ⟨w7.heap.size + 1, 1, none⟩ (.bool high)).setCell ⟨w7.heap.size + 1, 2, none⟩ (.int .i64 (p : Int))).alloc (.cells #[.slice B bs.length d, .bool high, .int .i64 (p : Int)] 49))) :=
          ((((Upd.refl (· = w7.heap.size + 1) w11).setCell (p := ⟨w7.heap.size + 1, 0, none⟩) (fun _ => rfl) _).setCell (p := ⟨w7.heap.size + 1, 1, none⟩) (fun _ => rfl) _).setCell (p := ⟨w7.heap.size + 1, 2, none⟩) (fun _ => rfl) _).alloc _
        have q4x := (res_set (S := .slice B bs.length d) (T := .bool high) (I := .int .i64 (p : Int)) Q4.out).alloc (.cells #[.slice B bs.length d, .bool high, .int .i64 (p : Int)] 49)
        have s1 := Q1.out.other Q4.out (by decide) (by decide) us
        have s2 := Q2.out.upd us (by omega) (fun b hb e => by
          have h1 := Q4.out
          subst e
          exact own_blk_ne Q2.out.2.1 h1 (by decide) hb)
        have s3 := Q3.out.upd us (by omega)
        have s5 := Q5.out.upd us (fun b _ h2 e => by omega)
        have s6 := Q6.out.trans (us.below (B := w.heap.size) Q6.out.size (fun b hb e => by omega))
        have HSN : Hid (RdSt w w2.heap.size gd l w5.heap.size gr A6 c6 bs high w6.heap.size w7.heap.size cs B d p _) := Lib.hid ⟨s1, s2, s3, q4x, s5, s6, hgr1, hgt0, hgr0⟩
        clear us q4x s1 s2 s3 s5 s6 Q1 Q2 Q3 Q4 Q5 Q6 r0 r1 r2 g0 g1 g2 hly hlx
        generalize ((((w11.setCell ⟨w7.heap.size + 1, 0, none⟩ (.slice B bs.length d)).setCell ⟨w7.heap.size + 1, 1, none⟩ (.bool high)).setCell ⟨w7.heap.size + 1, 2, none⟩ (.int .i64 (p : Int))).alloc (.cells #[.slice B bs.length d, .bool high, .int .i64 (p : Int)] 49)) = wz at *
        have z2 : wz.cell? ⟨w7.heap.size + 1, 2, none⟩ = some (.int .i64 (p : Int)) := by rw [HSN.out.2.2.2.1.cell]; rfl
        go_quiet ((go_at_call 21; exact quiet_eq (place_any _ _ _ _ _ _ _ _ HSN.out.2.1)))
        clear z2 d0 d1 d2
        have HSQ : Hid (RdSt w w2.heap.size gd l w5.heap.size gr A6 c6 bs high w6.heap.size w7.heap.size cs B d p (wz.drewN nq)) := Lib.hid (by
          obtain ⟨k1, k2, k3, k4, k5, k6, k7⟩ := HSN.out
          exact ⟨k1, k2, k3, k4, k5, below_drewN k6 nq, k7⟩)
        clear HSN
        generalize wz.drewN nq = wq at *
        by_cases h5 : er = 5
        · subst h5
          go_wp2_with fail
          go_ret
          exact ⟨rfl, HSQ.out.2.2.2.2.2.1⟩
        · have e5 : (((er : Nat) : Int) == 5) = false := by simp; omega
          go_wp2_with fail
          go_roundw
          case rel => exact ⟨k + 1, p, by omega, by go_num, hpl, HSQ⟩
          case measure => simp [intOf]; omega
      · obtain rfl : k = 40 := by omega
        have HB9 := Lib.hid HS.out.2.2.2.2.2.1
        go_wp2_with fail
        go_ret
        exact ⟨rfl, HB9.out⟩
  · rw [if_neg h0] at hN
    obtain ⟨rfl, hb3⟩ := hN
    have hb3' := hb2'.trans (hb3.mono hb2'.size)
    have hbs3 : Is w3 w3.heap.size A l := Vs.more (Vs.below hbs hb3') hb3'.size
    have d0 : (codesErr l != 0) = true := by simp [h0]
    have d1 : (codesErr l != codesErr l) = false := by simp
    go_wp2_with fail
    refine (refCodes_any A c l w3 hbs3 (by omega)).mono ?_
    rintro e w4 ⟨A4, n4, c4, rfl, _, hb4⟩
    have HB4 := Lib.hid (hb3'.trans (hb4.mono hb3'.size))
    clear hb1 hb2 hb2' hb3 hb3' hb4 o2 hbs3 h0
    generalize codesErr l = ee at *
    go_wp2_with fail
    go_ret
    exact ⟨rfl, HB4.out⟩

set_option maxRecDepth 100000 in
theorem lifted (os : Os) (started : os.Started) (H : Type) (enc : TypeId × Value → H) :
    ReturnsInHanded {} Try.checked os 4 .any (Rows.prefixReadsSpec.pre6 enc Try.prog Try.f4 Rows.prefixReadsRow.domain false) (Rows.prefixReadsSpec.post enc Try.prog Try.f4 false true false false) := by
  refine returnsInHanded_of_change_sized (C := Try.checked) prog_own started (by kernel_rfl) Try.func4
    (ChangeSpec.witness6 (enc := enc) (C := Try.checked) false ⟨#[], #[.slice none 0 0, .slice none 0 0, .bool false], []⟩ 8 (by kernel_rfl) (by kernel_rfl) (by kernel_rfl) (by kernel_rfl)) ?_
  intro W base args ds gs before hval0 hW hcnd hsz _
  have hval : ∀ (j : Nat) t v, Try.f4.params[j]? = some t → args[j]? = some v → Value.okWide Try.prog W .any base t v := hval0
  have hW' := hW
  obtain ⟨p, q, hA0, hV, rfl, hfz, hnd⟩ := hW
  have hA : DataW.TrodAll enc Try.prog W 0 (fun _ => true) true Try.f4.params.toList args.toList ds p := hA0
  rw [Try.params4] at hA hval
  obtain ⟨v0, vs0, d0, ds0, p0, q0, hargs, rfl, rfl, h0, r0⟩ := trodAll_cons hA
  obtain ⟨v1, vs1, d1, ds1, p1, q1, rfl, rfl, rfl, h1, r1⟩ := trodAll_cons r0
  obtain ⟨v2, vs2, d2, ds2, p2, q2, rfl, rfl, rfl, h2, r2⟩ := trodAll_cons r1
  obtain ⟨rfl, rfl, rfl⟩ := trodAll_nil r2
  obtain rfl : args = #[v0, v1, v2] := by cases args; simp_all
  obtain ⟨rfl, rfl⟩ := trodVars_none hV
  obtain ⟨A0, l0, c0, rfl, hb0, hk0, hd0⟩ := open_numbers (hval 0 22 v0 rfl rfl) h0
  obtain ⟨A1, l1, c1, rfl, hb1, hd1⟩ := open_bytes (hval 1 37 v1 rfl rfl) h1
  obtain ⟨a2, rfl, rfl, rfl⟩ := open_bool Try.underlying4 (hval 2 4 v2 rfl rfl) h2
  have hl0 : l0.length ≤ 17592186043904 := by
    rcases hd0 with ⟨_, rfl⟩ | ⟨e, s, rfl, hle⟩
    · simp
    · have this : (e.length + s.length) * Try.prog.bytesOf 3 ≤ reachBytes := sized_slice hsz (j := 0) (t := 22) (e := 3) rfl rfl Try.underlying22
      rw [bytes_int] at this
      unfold reachBytes at this
      omega
  have hl1 : l1.length ≤ 140737488355328 := by
    rcases hd1 with ⟨_, rfl⟩ | ⟨e, s, rfl, hle⟩
    · simp
    · have this : (e.length + s.length) * Try.prog.bytesOf 5 ≤ reachBytes := sized_slice hsz (j := 1) (t := 37) (e := 5) rfl rfl Try.underlying37
      rw [bytes_u8] at this
      unfold reachBytes at this
      omega
  have lt0 : ∀ x ∈ p0, x.block < W.heap.size := by obtain ⟨m, hm⟩ := h0; exact DataW.trod_lt m _ _ _ hm
  have lt1 : ∀ x ∈ p1, x.block < W.heap.size := by obtain ⟨m, hm⟩ := h1; exact DataW.trod_lt m _ _ _ hm
  clear hA0 hval0
  refine (walk A0 c0 l0 A1 c1 l1 a2 W hb0 hk0 hl0 hb1 hl1).mono fun e W' ⟨he, bel⟩ => ?_
  subst he
  exact ⟨_, rfl, _, _, _, [], _, [], hW', trodAll_mk1 (shut_bool Try.underlying4 _), (trodAll_cons_mk (Below.trod prog_laid (by kernel_rfl) (of_decide_eq_true (by kernel_rfl)) h0 bel lt0) (trodAll_cons_mk (Below.trod prog_laid (by kernel_rfl) (of_decide_eq_true (by kernel_rfl)) h1 bel lt1) (trodAll_cons_mk (shut_bool Try.underlying4 _) trodAll_mk0))), rfl, bel.frame _, fun h => by cases h⟩

theorem over : Rows.prefixReadsRow.holds Try.pinned (OpenSpec.ofChange Rows.prefixReadsSpec) :=
  OpenClaim.holds_of_wide 4 Try.f4 rfl rfl rfl rfl rfl rfl rfl ⟨rfl, rfl, rfl, rfl, rfl⟩ rfl rfl rfl rfl rfl (by kernel_rfl) Try.func4 (by kernel_rfl)
    (of_decide_eq_true (by kernel_rfl)) (by unfold Func.isWrapper; first | (rw [if_pos (by decide +kernel)]; kernel_rfl) | (rw [if_neg (by decide +kernel)]; exact ⟨rfl, rfl⟩))
    (fun os started H enc _ => lifted os started H enc)
end PrefixReads

theorem prefixReads_holds : Rows.PrefixReadsSaid := PrefixReads.over
#print axioms prefixReads_holds
end Go.Proofs.Ytpolbnobnilfcaa
