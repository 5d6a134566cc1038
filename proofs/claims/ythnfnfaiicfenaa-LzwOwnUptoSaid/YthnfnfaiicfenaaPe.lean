/- The packer of codes: pack. -/
import Derived.Test.YthnfnfaiicfenaaPd
import Derived.Carry
namespace Go.Proofs.Ythnfnfaiicfenaa
open Go.ChangeShapes Go.WideShapes Go.ChangeAt Go.RowKit
open Go.Maps (Keyed)

/-- The bits of the codes of what is left, and of the sign that ends them. -/
def packF (size : Nat) (high : Bool) (early : Nat) : Nat → List UInt8 → List Bool → List ((Nat × UInt8) × Nat) → Nat → Bool → List Bool
  | 0, _, bits, _, _, _ => bits
  | _ + 1, [], bits, _, n, _ => bits ++ bitsOf high (clr size + 1) (wM early n)
  | f + 1, x :: r, bits, M, n, ah => match (x :: r).drop (longM M x.toNat r 1).2 with
    | [] => packF size high early f [] (bits ++ bitsOf high (longM M x.toNat r 1).1 (wM early n)) M (nextN n ah) true
    | y :: s => if nextN n ah = 4094 then packF size high early f (y :: s) (bits ++ bitsOf high (longM M x.toNat r 1).1 (wM early n) ++ bitsOf high (clr size) (wM early 4094)) [] (clr size + 2) false
      else packF size high early f (y :: s) (bits ++ bitsOf high (longM M x.toNat r 1).1 (wM early n)) ((((longM M x.toNat r 1).1, y), nextN n ah) :: M) (nextN n ah) true
def packM (size : Nat) (high : Bool) (early : Nat) (b : List UInt8) : List Bool := packF size high early (b.length + 1) b (bitsOf high (clr size) (wM early (clr size + 2))) [] (clr size + 2) false
theorem new_writer (high : Bool) (w : World) : Calls Try.prog 47 #[.bool high] w fun e w' => ∃ g, e = .returned (.pointer (some ⟨g, 0, none⟩)) ∧ (∀ N w'', N ≤ w.heap.size → Below w'.heap.size w' w'' → Wraw w'' N g none 0 [] high 0) ∧ Below w.heap.size w w' :=
  (newWriter_any high w).mono fun _ w' ⟨g, h1, h2, h3, _⟩ => ⟨g, h1, fun N _ hN hb => (show Wraw w' N g none 0 [] high 0 from ⟨h2.1, own_mono h2.2.1 hN, Nat.le_trans hN h2.2.2⟩).upd (Upd.of_fresh hb) id (fun _ _ => id), h3⟩
theorem sizeStep {W w w' : World} (h : Below W.heap.size W w) (_ : Below w.heap.size w w') : W.heap.size ≤ w.heap.size := h.size
/-- The packer's box is made. -/
theorem pck_made {w6 W : World} {N n6 gp gw gm size : Nat} {high : Bool} {early : Nat} (hW : ∀ N w'', N ≤ n6 → Below w6.heap.size w6 w'' → Wraw w'' N gw none 0 [] high 0) (hn : N ≤ n6) (h6 : Below w6.heap.size w6 W) (hm : MapOk W gm []) (hgm : N ≤ gm) (hN : N ≤ W.heap.size) (hgp : gp = W.heap.size) :
    Pck (W.alloc (.cells #[.int .i64 (size : Int), .bool high, .int .i64 (early : Int), .pointer (some ⟨gw, 0, none⟩), .map (some gm), .int .i64 ((clr size : Nat) + 2), .bool false] 87)) N gp gw gm size high early [] [] (clr size + 2) false := by
  subst hgp
  have ha := (Below.refl W.heap.size W).alloc (Nat.le_refl _) (.cells #[.int .i64 (size : Int), .bool high, .int .i64 (early : Int), .pointer (some ⟨gw, 0, none⟩), .map (some gm), .int .i64 ((clr size : Nat) + 2), .bool false] 87)
  exact ⟨Blk.new _ _ _, ⟨none, 0, [], hW N _ hn (h6.alloc h6.size _), packed_nil high⟩, hm.upd (Upd.of_fresh ha) id, hN, hgm, by simp; omega⟩
set_option maxHeartbeats 3000000 in
set_option maxRecDepth 100000 in
theorem pack_any (w : World) (A : Option Addr) (c : Nat) (b : List UInt8) (size : Nat) (high : Bool) (early : Nat) (h : Bs w w.heap.size A b) (hc : b.length ≤ c) (hb : b.length ≤ 1048576) (h1 : 2 ≤ size) (h2 : size ≤ 8) (he : early ≤ 1) :
    Calls Try.prog 29 #[.slice A b.length c, .agg #[.int .i64 (size : Int), .bool high, .int .i64 (early : Int)]] w fun e w' => ∃ l A' c', Packed high (packM size high early b) l ∧ e = .returned (.slice A' l.length c') ∧ w'.ownsRow w.heap.size 5 1 (.slice A' l.length c') l.length (bytesV l) ∧ Below w.heap.size w w' := by
  have HBS := Lib.hid h
  clear h
  have hcl := clr_le h1 h2
  obtain ⟨X, HX⟩ : ∃ X, Hid (packM size high early b = X) := ⟨_, Lib.hid rfl⟩
  rw [HX.out]
  go_enter Try.func29, Try.ntmps29
  go_upto_region 1 with fail
  obtain ⟨gf, hgf⟩ : ∃ g, g = w.heap.size := ⟨_, rfl⟩
  have hw1B : Below w.heap.size w (w.alloc (.cells #[.int .i64 (size : Int), .bool high, .int .i64 (early : Int)] 42)) := (Below.refl w.heap.size w).alloc (Nat.le_refl _) _
  have HBK := Lib.hid (Blk.new w 42 #[.int .i64 (size : Int), .bool high, .int .i64 (early : Int)])
  rw [← hgf] at HBK
  have HGF := Lib.hid hgf
  rw [← hgf]
  clear hgf
  have HW1 := Lib.hid hw1B
  clear hw1B
  generalize w.alloc (.cells #[.int .i64 (size : Int), .bool high, .int .i64 (early : Int)] 42) = w1 at *
  have f0 : w1.cell? ⟨gf, 0, none⟩ = some (.int .i64 (size : Int)) := by rw [HBK.out.cell]; rfl
  have f1 : w1.cell? ⟨gf, 1, none⟩ = some (.bool high) := by rw [HBK.out.cell]; rfl
  have f2 : w1.cell? ⟨gf, 2, none⟩ = some (.int .i64 (early : Int)) := by rw [HBK.out.cell]; rfl
  have hfull : Hid (∀ w', Below w1.heap.size w1 w' → (Below w1.heap.size w1 w' ∧ w'.cell? ⟨gf, 0, none⟩ = some (.int .i64 (size : Int)) ∧ w'.cell? ⟨gf, 1, none⟩ = some (.bool high) ∧ w'.cell? ⟨gf, 2, none⟩ = some (.int .i64 (early : Int)))) := Lib.hid fun w' hb' => by
    have hk := HBK.out.upd (Upd.of_fresh hb') id
    exact ⟨hb', (hk.cell 0).trans rfl, (hk.cell 1).trans rfl, (hk.cell 2).trans rfl⟩
  have hN1 : w.heap.size ≤ w1.heap.size := HW1.out.size
  go_cut [5] (fun v wx => ∃ gp gw gm : Nat, v = .pointer (some ⟨gp, 0, none⟩) ∧ Hid (Pck wx w1.heap.size gp gw gm size high early [] [] (clr size + 2) false) ∧ Hid (Below w1.heap.size w1 wx))
  case first =>
    have hmm := @run_makeMap Try.prog
    go_region_held3 (fun w' => Below w1.heap.size w1 w' ∧ w'.cell? ⟨gf, 0, none⟩ = some (.int .i64 (size : Int)) ∧ w'.cell? ⟨gf, 1, none⟩ = some (.bool high) ∧ w'.cell? ⟨gf, 2, none⟩ = some (.int .i64 (early : Int)))
      (first | exact hfull.out _ (Below.refl _ _) | exact hfull.out _ ((Below.refl _ _).drew) | exact hfull.out _ (hc7) | exact hfull.out _ (hc6) | exact hfull.out _ (hc7.alloc hc7.size _) | exact hfull.out _ (hc6.alloc hc6.size _) | exact hfull.out _ ((Below.refl _ _).alloc (Nat.le_refl _) _) | exact hfull.out _ (((Below.refl _ _).drew).alloc (Nat.le_refl _) _) | exact hfull.out _ (((Below.refl _ _).alloc (Nat.le_refl _) _).drew) | exact hfull.out _ ((hc7.alloc hc7.size _).alloc (by simp; exact Nat.le_succ_of_le hc7.size) _) | exact hfull.out _ ((hc6.alloc hc6.size _).alloc (by simp; exact Nat.le_succ_of_le hc6.size) _))
      ((first
        | (go_at_call 47; refine (new_writer high _).mono ?_; rintro e w6 ⟨gw, rfl, hW, hb6⟩; have hn6 : w1.heap.size ≤ _ := sizeStep (by first | exact Below.refl _ _ | exact (Below.refl _ _).drew | exact hc7 | exact hc6 | exact hc7.alloc hc7.size _ | exact hc6.alloc hc6.size _ | exact (Below.refl _ _).alloc (Nat.le_refl _) _ | exact ((Below.refl _ _).drew).alloc (Nat.le_refl _) _ | exact ((Below.refl _ _).alloc (Nat.le_refl _) _).drew | exact (hc7.alloc hc7.size _).alloc (by simp; exact Nat.le_succ_of_le hc7.size) _ | exact (hc6.alloc hc6.size _).alloc (by simp; exact Nat.le_succ_of_le hc6.size) _) hb6; have hc6 : Below w1.heap.size w1 w6 := belowStep (by first | exact Below.refl _ _ | exact (Below.refl _ _).drew | exact hc7 | exact hc6 | exact hc7.alloc hc7.size _ | exact hc6.alloc hc6.size _ | exact (Below.refl _ _).alloc (Nat.le_refl _) _ | exact ((Below.refl _ _).drew).alloc (Nat.le_refl _) _ | exact ((Below.refl _ _).alloc (Nat.le_refl _) _).drew | exact (hc7.alloc hc7.size _).alloc (by simp; exact Nat.le_succ_of_le hc7.size) _ | exact (hc6.alloc hc6.size _).alloc (by simp; exact Nat.le_succ_of_le hc6.size) _) hb6)
        | (go_at_call 48; refine (first_any size high early _ h1 h2).mono ?_; rintro e w7 ⟨rfl, hb7⟩; have hc7 : Below w1.heap.size w1 w7 := belowStep (by first | exact Below.refl _ _ | exact (Below.refl _ _).drew | exact hc7 | exact hc6 | exact hc7.alloc hc7.size _ | exact hc6.alloc hc6.size _ | exact (Below.refl _ _).alloc (Nat.le_refl _) _ | exact ((Below.refl _ _).drew).alloc (Nat.le_refl _) _ | exact ((Below.refl _ _).alloc (Nat.le_refl _) _).drew | exact (hc7.alloc hc7.size _).alloc (by simp; exact Nat.le_succ_of_le hc7.size) _ | exact (hc6.alloc hc6.size _).alloc (by simp; exact Nat.le_succ_of_le hc6.size) _) hb7)))
    all_goals
      go_wp2_with fail
      go_meet
      refine ⟨_, gw, _, rfl, Lib.hid (pck_made hW hn6 ?_ ?_ ?_ ?_ (by simp)), Lib.hid (by first | exact Below.refl _ _ | exact (Below.refl _ _).drew | exact hc7 | exact hc6 | exact hc7.alloc hc7.size _ | exact hc6.alloc hc6.size _ | exact (Below.refl _ _).alloc (Nat.le_refl _) _ | exact ((Below.refl _ _).drew).alloc (Nat.le_refl _) _ | exact ((Below.refl _ _).alloc (Nat.le_refl _) _).drew | exact (hc7.alloc hc7.size _).alloc (by simp; exact Nat.le_succ_of_le hc7.size) _ | exact (hc6.alloc hc6.size _).alloc (by simp; exact Nat.le_succ_of_le hc6.size) _)⟩
      · first
        | exact ((Below.refl w6.heap.size w6).alloc (Nat.le_refl _) _).trans (hb7.mono (by simp))
        | exact hb7.alloc hb7.size _
        | exact hb7
        | exact Below.refl _ _
        | exact (Below.refl _ _).alloc (Nat.le_refl _) _
      · first
        | exact (MapOk.made w6).upd (Upd.of_fresh hb7) id
        | exact MapOk.made w7
        | exact MapOk.made w6
        | exact (MapOk.made w7).upd (Upd.of_fresh hb6) id
        | exact (((MapOk.made w1).upd (Upd.refl No _).drew id).upd (Upd.of_fresh hb6) id).upd (Upd.of_fresh hb7) id
        | exact (((MapOk.made w1).upd (Upd.refl No _).drew id).upd (Upd.of_fresh hb7) id).upd (Upd.of_fresh hb6) id
      · have := hc6.size
        have := hc7.size
        simp at *
        try omega
      · have := hc6.size
        have := hc7.size
        simp at *
        try omega
  case rest =>
    obtain ⟨gp, gw, gm, rfl, HP, HB⟩ := hcut
    clear f0 f1 f2 hfull
    have HGFlt : Hid (gf < w1.heap.size) := Lib.hid HBK.out.lt
    have HBS1 := Lib.hid ((HBS.out.below HW1.out).more hN1)
    clear HBS
    have HF := Lib.hid (forget_any wc w1.heap.size gp gw gm size high early [] [] (clr size + 2) false HP.out h1 h2 he (by omega) (by simp))
    clear HP
    go_wp2_with fail
    refine HF.out.mono ?_
    rintro e w2 ⟨rfl, hp2, hb2⟩
    have HP0 := Lib.hid hp2
    have HB0 := Lib.hid (HB.out.trans hb2)
    clear hp2 hb2 HF HB
    have hl0 : (bitsOf high (clr size) (wM early (clr size + 2))).length ≤ 12 := by rw [bitsOf_length]; unfold wM; omega
    have HXp : Hid (packF size high early (b.length + 1) b (bitsOf high (clr size) (wM early (clr size + 2))) [] (clr size + 2) false = X) := HX
    rw [List.nil_append] at HP0
    generalize bitsOf high (clr size) (wM early (clr size + 2)) = bits0 at *
    clear HX
    go_wp2_with fail
    go_loopg [0] b.length (fun gk v wr => ∃ (rest : List UInt8) (bits : List Bool) (M : List ((Nat × UInt8) × Nat)) (n : Nat) (ah : Bool) (A' : Option Addr) (c' len f : Nat), len = gk ∧ v = .slice A' len c' ∧ Hid (rest.length = len) ∧ len ≤ c' ∧ len ≤ b.length ∧ len < f ∧ Hid (n ≤ 4094 ∧ (0 < len → n ≤ 4093)) ∧ Hid (Bs wr w1.heap.size A' rest) ∧ Hid (Pck wr w1.heap.size gp gw gm size high early bits M n ah) ∧ Hid (Below w1.heap.size w1 wr) ∧ bits.length ≤ 24 * (b.length - len + 1) ∧ M.length ≤ b.length - len ∧ Hid (Small M) ∧ Hid (packF size high early f rest bits M n ah = X))
    case atStart => exact ⟨b, bits0, [], clr size + 2, false, A, c, b.length, b.length + 1, rfl, rfl, Lib.hid rfl, hc, by omega, by omega, Lib.hid ⟨by omega, fun _ => by omega⟩, Lib.hid (HBS1.out.below HB0.out), HP0, HB0, by omega, by simp, Lib.hid (fun c x d h => by cases h), HXp⟩
    case round =>
      obtain ⟨rest, bits, M, n, ah, A', c', len, f, rfl, rfl, HL, hlc, hlb, hlf, HNn, HBr, HPr, HBw, hbits, hM, HSm, HXr⟩ := hrel
      clear HP0 HB0 HXp HBS1
      have hn := HNn.out.1
      obtain ⟨g, rfl⟩ : ∃ g, f = g + 1 := ⟨f - 1, by omega⟩
      rcases hrest : rest with _ | ⟨x, r⟩
      · subst hrest
        have hz : len = 0 := by have := HL.out; simpa using this.symm
        subst hz
        have HXn := Lib.hid (show bits ++ bitsOf high (clr size + 1) (wM early n) = X from HXr.out)
        have hk := HBK.out.upd (Upd.of_below HBw.out) (fun e => by have := HGFlt.out; omega)
        have f0 : wr.cell? ⟨gf, 0, none⟩ = some (.int .i64 (size : Int)) := by rw [hk.cell]; rfl
        have f1 : wr.cell? ⟨gf, 1, none⟩ = some (.bool high) := by rw [hk.cell]; rfl
        have f2 : wr.cell? ⟨gf, 2, none⟩ = some (.int .i64 (early : Int)) := by rw [hk.cell]; rfl
        clear hk
        go_wp2_with fail
        refine (end_any size high early _ h1 h2).mono ?_
        rintro e w3 ⟨rfl, hb3⟩
        have HPt := Lib.hid (put_code w3 w1.heap.size gp gw gm size high early bits M n ah (HPr.out.fresh hb3) (clr size + 1) (by omega) he (by omega) (by omega))
        have HB3 := Lib.hid (HBw.out.trans (hb3.mono HPr.out.room))
        clear hb3 HPr HBw f0 f1 f2 HXr
        rw [HXn.out] at HPt
        go_wp2_with fail
        refine HPt.out.mono ?_
        rintro e w4 ⟨rfl, hp4, hb4⟩
        have HP4 := Lib.hid hp4
        have HB4 := Lib.hid (HB3.out.trans hb4)
        clear hp4 hb4 HPt HB3
        obtain ⟨A4, c4, l4, hw4, hpk⟩ := HP4.out.wr
        have c3 := HP4.out.c3
        have hll : l4.length ≤ 140737488355328 := by
          have h5 := hpk.1
          have h6 : X.length ≤ bits.length + 12 := by rw [← HXn.out, List.length_append, bitsOf_length]; unfold wM; omega
          omega
        have HWB := Lib.hid (wbytes_any w4 w1.heap.size gw A4 c4 l4 high X.length hw4 hll)
        have HPK := Lib.hid hpk
        clear hw4 hpk hll
        go_wp2_with fail
        refine HWB.out.mono ?_
        rintro e w5 ⟨A5, c5, rfl, o5, hb5⟩
        have HFIN : Hid (w5.ownsRow w.heap.size 5 1 (.slice A5 l4.length c5) l4.length (bytesV l4) ∧ Below w.heap.size w w5) := Lib.hid (by
          have hz := HB4.out.size
          refine ⟨own_mono o5 (by omega), (HW1.out.trans (HB4.out.mono hN1)).trans (hb5.mono (by omega))⟩)
        clear o5 hb5 HWB
        go_wp2_with fail
        go_ret
        exact ⟨l4, A5, c5, HPK.out, rfl, HFIN.out.1, HFIN.out.2⟩
      · subst hrest
        have hr : r.length + 1 = len := by have := HL.out; simpa using this
        have hgt : decide ((0 : Int) < (len : Int)) = true := by simp; omega
        have hn' := HNn.out.2 (by omega)
        have hx8 : x.toNat < 4096 := by have := x.toNat_lt; omega
        have hk1 := longM_le M r x.toNat 1
        have hcs := longM_small HSm.out r x.toNat 1 hx8
        have HLg := Lib.hid (longest_any wr w1.heap.size gp gw gm size high early bits M n ah HPr.out HSm.out A' c' x r len HL.out hlc (HBr.out.more HPr.out.room) (by omega))
        have hxr := HXr.out
        rw [packF] at hxr
        obtain ⟨cd, hcd⟩ : ∃ cd, (longM M x.toNat r 1).1 = cd := ⟨_, rfl⟩
        obtain ⟨k, hk⟩ : ∃ k, (longM M x.toNat r 1).2 = k := ⟨_, rfl⟩
        rw [hcd, hk] at hxr HLg
        rw [hcd] at hcs
        rw [hk] at hk1
        have HXs := Lib.hid hxr
        clear hxr HXr hcd hk
        go_wp2_with fail
        refine HLg.out.mono ?_
        rintro e w3 ⟨rfl, rfl⟩
        have HPt := Lib.hid (put_code wr w1.heap.size gp gw gm size high early bits M n ah HPr.out cd (by omega) he (by omega) (by omega))
        have hb1l : (bits ++ bitsOf high cd (wM early n)).length ≤ bits.length + 12 := by rw [List.length_append, bitsOf_length]; unfold wM; omega
        generalize bits ++ bitsOf high cd (wM early n) = bits1 at *
        obtain ⟨n1, hn1⟩ : ∃ n1, nextN n ah = n1 := ⟨_, rfl⟩
        rw [hn1] at HPt HXs
        have hn1l : n1 ≤ 4094 := by rw [← hn1]; unfold nextN; split <;> omega
        clear hn1 HLg HPr
        go_wp2_with fail
        refine HPt.out.mono ?_
        rintro e w4 ⟨rfl, hp4, hb4⟩
        have HP4 := Lib.hid hp4
        have HB4 := Lib.hid (HBw.out.trans hb4)
        have HBr4 := Lib.hid ((HBr.out.below hb4))
        clear hp4 hb4 HPt HBw HBr
        have hkl : k ≤ len := by omega
        have hdl : ((x :: r).drop k).length = len - k := by rw [List.length_drop, HL.out]
        have HDL := Lib.hid hdl
        clear hdl
        go_upto_if 36 with (refine wpList_slice_from _ rfl (.tmp 31) (.tmp 32) 22 rfl Try.underlying22 (fun w => by kernel_rfl) A' len c' k rfl rfl hkl w1.heap.size (x :: r) HL.out hlc HBr4.out ?_; intro A2 hbs2)
        have HS2 := Lib.hid hbs2
        clear hbs2
        rcases hd : (x :: r).drop k with _ | ⟨y, s⟩
        · rw [hd] at HS2 HXs HDL
          have hz : ¬ k < len := by have := HDL.out; simp at this; omega
          have HXn : Hid (packF size high early g [] bits1 M n1 true = X) := HXs
          clear hd
          go_wp2_with fail
          go_roundg (len - k)
          case measure => omega
          case rel => exact ⟨[], bits1, M, n1, true, _, _, len - k, g, rfl, rfl, HDL, by omega, by omega, by omega, Lib.hid ⟨hn1l, fun h => by omega⟩, HS2, HP4, HB4, by omega, by omega, HSm, HXn⟩
        · rw [hd] at HS2 HXs HDL
          have hz : k < len := by have := HDL.out; simp at this; omega
          have HXn : Hid ((if n1 = 4094 then packF size high early g (y :: s) (bits1 ++ bitsOf high (clr size) (wM early 4094)) [] (clr size + 2) false else packF size high early g (y :: s) bits1 (((cd, y), n1) :: M) n1 true) = X) := HXs
          clear hd HXs
          obtain ⟨a2, rfl, hlt2, hy0⟩ := HS2.out.at_ (k := 0) (by simp)
          replace hy0 : w4.cell? a2 = some (.int .u8 (y.toNat : Int)) := hy0
          have hyb := byte_lt y
          by_cases hf : n1 = 4094
          · have HN := Lib.hid (note_full w4 w1.heap.size gp gw gm size high early bits1 M n1 true HP4.out h1 h2 he hf (by omega) cd y)
            have HXf : Hid (packF size high early g (y :: s) (bits1 ++ bitsOf high (clr size) (wM early n1)) [] (clr size + 2) false = X) := Lib.hid (by have := HXn.out; rw [if_pos hf] at this; rw [hf]; exact this)
            have hb2l : (bits1 ++ bitsOf high (clr size) (wM early n1)).length ≤ bits1.length + 12 := by rw [List.length_append, bitsOf_length]; unfold wM; omega
            generalize bits1 ++ bitsOf high (clr size) (wM early n1) = bits2 at *
            clear HXn hf HP4
            go_wp2_with fail
            refine HN.out.mono ?_
            rintro e w5 ⟨rfl, hp5, hb5⟩
            have HP5 := Lib.hid hp5
            have HB5 := Lib.hid (HB4.out.trans hb5)
            have HS5 := Lib.hid (HS2.out.below hb5)
            clear hp5 hb5 HN HB4 HS2 hy0
            go_wp2_with fail
            go_roundg (len - k)
            case measure => omega
            case rel => exact ⟨y :: s, bits2, [], clr size + 2, false, _, _, len - k, g, rfl, rfl, HDL, by omega, by omega, by omega, Lib.hid ⟨by omega, fun _ => by omega⟩, HS5, HP5, HB5, by omega, by simp, Lib.hid (fun c x d h => by cases h), HXf⟩
          · have HN := Lib.hid (note_more w4 w1.heap.size gp gw gm size high early bits1 M n1 true HP4.out hf (by omega) (by omega) cd y (by omega))
            have HXf : Hid (packF size high early g (y :: s) bits1 (((cd, y), n1) :: M) n1 true = X) := Lib.hid (by have := HXn.out; rw [if_neg hf] at this; exact this)
            have hn3 : n1 ≤ 4093 := by omega
            have HSm2 : Hid (Small (((cd, y), n1) :: M)) := Lib.hid (fun c x d h => by
              rw [lk_cons] at h
              split at h
              · injection h with h; omega
              · exact HSm.out c x d h)
            clear HXn hf HP4
            go_wp2_with fail
            refine HN.out.mono ?_
            rintro e w5 ⟨rfl, hp5, hb5⟩
            have HP5 := Lib.hid hp5
            have HB5 := Lib.hid (HB4.out.trans hb5)
            have HS5 := Lib.hid (HS2.out.below hb5)
            clear hp5 hb5 HN HB4 HS2 hy0
            go_wp2_with fail
            go_roundg (len - k)
            case measure => omega
            case rel => exact ⟨y :: s, bits1, _, n1, true, _, _, len - k, g, rfl, rfl, HDL, by omega, by omega, by omega, Lib.hid ⟨by omega, fun _ => hn3⟩, HS5, HP5, HB5, by omega, by simp; omega, HSm2, HXf⟩
end Go.Proofs.Ythnfnfaiicfenaa
