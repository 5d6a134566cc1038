/- The document's Paste. -/
import Derived.Test.YtfjnlbjlapbilaaGpa
import Derived.Test.YtfjnlbjlapbilaaGqc
import Derived.Deep.RegionHeld3
import Derived.Deep.CutBlock
namespace Go.Proofs.Ytfjnlbjlapbilaa
open Go.ChangeShapes Go.WideShapes Go.ChangeAt Go.RowKit

theorem set3_below {w1 w9 : World} {ob : Nat} {x y z : Value} (h : Below w1.heap.size w1 w9) (hB : w1.heap.size ≤ ob) : Below w1.heap.size w1 (((w9.setCell ⟨ob, 0, none⟩ x).setCell ⟨ob, 1, none⟩ y).setCell ⟨ob, 2, none⟩ z) :=
  h.trans ((set3_upd w9 ob x y z).below h.size (fun k hk e => by omega))
/-- The copy of a grid that is pasted into. -/
def PMem (w1 : World) (W H n : Nat) (L : List Int) (v : Value) (wx : World) : Prop := ∃ ob A c, v = .pointer (some ⟨ob, 0, none⟩) ∧ w1.heap.size ≤ ob ∧ Blk wx ob 27 #[.int .i64 (W : Int), .int .i64 (H : Int), .slice A n c] ∧ wx.ownsRow w1.heap.size 3 1 (.slice A n c) n (intsV L) ∧ Below w1.heap.size w1 wx
theorem pm_store {w1 w9 : World} {W H n ob c9 : Nat} {L : List Int} {A9 : Option Addr} {a b c : Value} (hb : Blk w9 ob 27 #[a, b, c]) (ho : w9.ownsRow w1.heap.size 3 1 (.slice A9 n c9) n (intsV L)) (hB : Below w1.heap.size w1 w9) (h : w1.heap.size ≤ ob) :
    PMem w1 W H n L (.pointer (some ⟨ob, 0, none⟩)) (((w9.setCell ⟨ob, 0, none⟩ (.int .i64 (W : Int))).setCell ⟨ob, 1, none⟩ (.int .i64 (H : Int))).setCell ⟨ob, 2, none⟩ (.slice A9 n c9)) :=
  ⟨ob, A9, c9, rfl, h, set3 hb _ _ _, own_upd ho (set3_upd w9 ob _ _ _) (fun k hk e => own_blk_ne ho hb (by decide) (by rw [← e]; exact hk)), set3_below hB h⟩
theorem pm_alloc {w1 w9 : World} {W H n c9 : Nat} {L : List Int} {A9 : Option Addr} (ho : w9.ownsRow w1.heap.size 3 1 (.slice A9 n c9) n (intsV L)) (hB : Below w1.heap.size w1 w9) :
    PMem w1 W H n L (.pointer (some ⟨w9.heap.size, 0, none⟩)) (w9.alloc (.cells #[.int .i64 (W : Int), .int .i64 (H : Int), .slice A9 n c9] 27)) :=
  ⟨w9.heap.size, A9, c9, rfl, hB.size, Blk.new w9 _ _, own_upd ho ((Upd.refl No w9).alloc _) (fun _ _ => id), hB.alloc hB.size _⟩
/-- What the document's Paste answers. -/
def RPasteR (w : World) (A : Option Addr) (c n : Nat) (l m : List Int) (W H P Q : Nat) (x y : Int) (e : Ending) (w' : World) : Prop :=
  if inB x y P Q W H = false then e = .returned (.tuple #[.agg #[.int .i64 (W : Int), .int .i64 (H : Int), .slice A n c], .int .i64 2]) ∧ Below w.heap.size w w'
  else ∃ r9 c9, w.heap.size ≤ r9 ∧ e = .returned (.tuple #[.agg #[.int .i64 (W : Int), .int .i64 (H : Int), .slice (some ⟨r9, 0, none⟩) n c9], .int .i64 0]) ∧ Is w' w'.heap.size (some ⟨r9, 0, none⟩) (pasteL l W x.toNat y.toNat m P Q) ∧ Below w.heap.size w w'
/-- Where a cell of the pasted row goes, and whence. -/
theorem paste_arith {W H X Y P Q k i : Nat} (hx : X + P ≤ W) (hy : Y + Q ≤ H) (hk : k < Q) (hi : i < P) (hf : W * H ≤ 65536) (hf' : P * Q ≤ 65536) : ∃ Z G F J G2 J2 : Nat, wrap64 ((Y : Int) + (k : Int)) = (Z : Int) ∧ wrap64 ((Z : Int) * (W : Int)) = (G : Int) ∧ wrap64 ((G : Int) + (X : Int)) = (F : Int) ∧ F = (Y + k) * W + X ∧
    wrap64 ((F : Int) + (i : Int)) = (J : Int) ∧ J = F + i ∧ J < W * H ∧ wrap64 ((k : Int) * (P : Int)) = (G2 : Int) ∧ G2 = k * P ∧ wrap64 ((G2 : Int) + (i : Int)) = (J2 : Int) ∧ J2 = G2 + i ∧ J2 < P * Q := by
  have hp := place_lt (W := W) (H := H) (n := P) (X := X) (Y := Y + k) hx (by omega)
  have hq := place_lt (W := P) (H := Q) (n := P) (X := 0) (Y := k) (by omega) hk
  have h1 : 1 ≤ W := by omega
  have hb : H ≤ 65536 := Nat.le_trans (Nat.le_mul_of_pos_left H h1) hf
  refine ⟨Y + k, (Y + k) * W, (Y + k) * W + X, (Y + k) * W + X + i, k * P, k * P + i, ?_, ?_, ?_, rfl, ?_, rfl, by omega, ?_, rfl, ?_, rfl, by omega⟩
  · rw [← Int.natCast_add]; exact IntWalk.wrap64_in _ (by omega)
  · rw [← Int.natCast_mul]
    generalize (Y + k) * W = z at *
    exact IntWalk.wrap64_in _ (by omega)
  · rw [← Int.natCast_add]
    generalize (Y + k) * W = z at *
    exact IntWalk.wrap64_in _ (by omega)
  · rw [← Int.natCast_add]
    generalize (Y + k) * W = z at *
    exact IntWalk.wrap64_in _ (by omega)
  · rw [← Int.natCast_mul]
    generalize k * P = z at *
    exact IntWalk.wrap64_in _ (by omega)
  · rw [← Int.natCast_add]
    generalize k * P = z at *
    exact IntWalk.wrap64_in _ (by omega)
set_option maxRecDepth 100000 in
set_option maxHeartbeats 4000000 in
theorem refPaste_any (W H P Q : Nat) (hW : W ≤ 4096) (hH : H ≤ 4096) (A A' : Option Addr) (c n c' n' : Nat) (l m : List Int) (hn : l.length = n) (hWH : W * H = n) (hn6 : n ≤ 65536) (hn' : m.length = n') (hPQ : P * Q = n') (hn6' : n' ≤ 65536) (B : Nat) (w : World) (h : Is w B A l) (h' : Is w B A' m) (hB : B ≤ w.heap.size) (x y : Int) :
    Calls Try.prog 20 #[.agg #[.int .i64 (W : Int), .int .i64 (H : Int), .slice A n c], .int .i64 x, .int .i64 y, .agg #[.int .i64 (P : Int), .int .i64 (Q : Int), .slice A' n' c']] w (RPasteR w A c n l m W H P Q x y) := by
  go_enter Try.func20, Try.ntmps20
  go_wp2_with fail
  obtain ⟨hbw, hsw, hb0, hb1, hb2⟩ := boxes3 w #[.int .i64 (W : Int), .int .i64 (H : Int), .slice A n c] #[.int .i64 (P : Int), .int .i64 (Q : Int), .slice A' n' c'] #[.int .i64 0, .int .i64 0, .slice none 0 0] 27 27 27
  obtain ⟨w0, hw0⟩ : ∃ w0 : World, ((w.alloc (.cells #[.int .i64 (W : Int), .int .i64 (H : Int), .slice A n c] 27)).alloc (.cells #[.int .i64 (P : Int), .int .i64 (Q : Int), .slice A' n' c'] 27)).alloc (.cells #[.int .i64 0, .int .i64 0, .slice none 0 0] 27) = w0 := ⟨_, rfl⟩
  rw [hw0] at hbw hsw hb0 hb1 hb2 ⊢
  have HI := Lib.hid (Vs.below h (hbw.mono hB))
  have HI' := Lib.hid (Vs.below h' (hbw.mono hB))
  clear hw0 h h'
  refine (within_in x y P Q W H hW hH w0).mono ?_
  rintro e w1 ⟨rfl, rfl⟩
  have k0 : w1.cell? ⟨w.heap.size, 0, none⟩ = some (.int .i64 (W : Int)) := by rw [hb0.cell]; rfl
  have k1 : w1.cell? ⟨w.heap.size, 1, none⟩ = some (.int .i64 (H : Int)) := by rw [hb0.cell]; rfl
  have k2 : w1.cell? ⟨w.heap.size, 2, none⟩ = some (.slice A n c) := by rw [hb0.cell]; rfl
  have p0 : w1.cell? ⟨w.heap.size + 1, 0, none⟩ = some (.int .i64 (P : Int)) := by rw [hb1.cell]; rfl
  have p1 : w1.cell? ⟨w.heap.size + 1, 1, none⟩ = some (.int .i64 (Q : Int)) := by rw [hb1.cell]; rfl
  have HB0 := Lib.hid hb0; have HB1 := Lib.hid hb1; have HB2 := Lib.hid hb2; have HBW := Lib.hid hbw
  clear hb0 hb1 hb2 hbw
  cases hi : inB x y P Q W H with
  | false =>
    have HR : Hid (∀ e w', e = .returned (.tuple #[.agg #[.int .i64 (W : Int), .int .i64 (H : Int), .slice A n c], .int .i64 2]) ∧ Below w.heap.size w w' → RPasteR w A c n l m W H P Q x y e w') := Lib.hid (fun e w' k => by unfold RPasteR; rw [if_pos hi]; exact k)
    have hb9 := set3 HB2.out (.int .i64 (W : Int)) (.int .i64 (H : Int)) (.slice A n c)
    have hu9 := set3_upd w1 (w.heap.size + 1 + 1) (.int .i64 (W : Int)) (.int .i64 (H : Int)) (.slice A n c)
    have HB9 := Lib.hid (HBW.out.trans (hu9.below (B := w.heap.size) (by omega) (fun k hk e => by omega)))
    have e0 : w1.cell? ⟨w.heap.size + 1 + 1, 0, none⟩ = some (.int .i64 0) := by rw [HB2.out.cell]; rfl
    have e1 : w1.cell? ⟨w.heap.size + 1 + 1, 1, none⟩ = some (.int .i64 0) := by rw [HB2.out.cell]; rfl
    have e2 : w1.cell? ⟨w.heap.size + 1 + 1, 2, none⟩ = some (.slice none 0 0) := by rw [HB2.out.cell]; rfl
    have f0 := HB2.out.frozen 0
    have f1 := HB2.out.frozen 1
    have f2 := HB2.out.frozen 2
    obtain ⟨w9, hw9⟩ : ∃ w9 : World, ((w1.setCell ⟨w.heap.size + 1 + 1, 0, none⟩ (.int .i64 (W : Int))).setCell ⟨w.heap.size + 1 + 1, 1, none⟩ (.int .i64 (H : Int))).setCell ⟨w.heap.size + 1 + 1, 2, none⟩ (.slice A n c) = w9 := ⟨_, rfl⟩
    rw [hw9] at hb9 HB9
    have n0 : w9.cell? ⟨w.heap.size + 1 + 1, 0, none⟩ = some (.int .i64 (W : Int)) := by rw [hb9.cell]; rfl
    have n1 : w9.cell? ⟨w.heap.size + 1 + 1, 1, none⟩ = some (.int .i64 (H : Int)) := by rw [hb9.cell]; rfl
    have n2 : w9.cell? ⟨w.heap.size + 1 + 1, 2, none⟩ = some (.slice A n c) := by rw [hb9.cell]; rfl
    have HW9 := Lib.hid hw9
    clear hb9 hu9 hw9 hi
    go_wp2_with fail
    rw [HW9.out]
    refine bodyPost_ret (v := .tuple #[.agg #[.int .i64 (W : Int), .int .i64 (H : Int), .slice A n c], .int .i64 2]) (by simp [results, Try.results20, go_sem, n0, n1, n2]) rfl ?_
    exact HR.out _ _ ⟨rfl, HB9.out⟩
  | true =>
    obtain ⟨i1, i2, i3, i4, i5, i6⟩ := inB_bd hi
    have HRR : Hid (∀ e w', (∃ r9 c9, w.heap.size ≤ r9 ∧ e = .returned (.tuple #[.agg #[.int .i64 (W : Int), .int .i64 (H : Int), .slice (some ⟨r9, 0, none⟩) n c9], .int .i64 0]) ∧ Is w' w'.heap.size (some ⟨r9, 0, none⟩) (pasteL l W x.toNat y.toNat m P Q) ∧ Below w.heap.size w w') → RPasteR w A c n l m W H P Q x y e w') := Lib.hid (fun e w' k => by unfold RPasteR; rw [if_neg (by rw [hi]; simp)]; exact k)
    clear hi
    obtain ⟨X, rfl⟩ : ∃ X : Nat, x = (X : Int) := ⟨x.toNat, by omega⟩
    obtain ⟨Y, rfl⟩ : ∃ Y : Nat, y = (Y : Int) := ⟨y.toNat, by omega⟩
    simp only [Int.toNat_natCast] at HRR
    have hx : X + P ≤ W := by omega
    have hy : Y + Q ≤ H := by omega
    have hP1 : 1 ≤ P := by omega
    have hQ1 : 1 ≤ Q := by omega
    clear i1 i2 i3 i4 i5 i6
    obtain ⟨i0, hi, hz0, hz1, hz2⟩ := info_parts info_int
    have hfull : Hid (∀ w', Below w1.heap.size w1 w' → (Below w1.heap.size w1 w' ∧ w'.cell? ⟨w.heap.size, 0, none⟩ = some (.int .i64 (W : Int)) ∧ w'.cell? ⟨w.heap.size, 1, none⟩ = some (.int .i64 (H : Int)) ∧ w'.cell? ⟨w.heap.size, 2, none⟩ = some (.slice A n c))) :=
      Lib.hid fun w' hb => ⟨hb, (hb.cell (p := ⟨w.heap.size, 0, none⟩) (by show w.heap.size < _; omega)).trans k0, (hb.cell (p := ⟨w.heap.size, 1, none⟩) (by show w.heap.size < _; omega)).trans k1, (hb.cell (p := ⟨w.heap.size, 2, none⟩) (by show w.heap.size < _; omega)).trans k2⟩
    have hBs : B ≤ w1.heap.size := by omega
    have hw1 : w.heap.size + 2 < w1.heap.size := by omega
    have HSW := Lib.hid hsw
    have HLN := Lib.hid ((intsV_length l).trans hn)
    have HI1 := Lib.hid (fun o => Vs.alloc HI.out hBs o)
    have HI2 := Lib.hid (fun o o' => Vs.alloc (HI1.out o) (show B ≤ (w1.alloc o).heap.size by rw [World.size_alloc]; omega) o')
    have O1 := Lib.hid (World.ownsRow_made (base := w1.heap.size) (e := 3) (size := 1) w1 #[] 0 (Nat.le_refl _) (by unfold maxLen; omega) rfl)
    have O2 := Lib.hid (fun o => World.ownsRow_made (base := w1.heap.size) (e := 3) (size := 1) (w1.alloc o) #[] 0 (by rw [World.size_alloc]; omega) (by unfold maxLen; omega) rfl)
    have O3 := Lib.hid (fun o => World.ownsRow.alloc O1.out o)
    simp only [World.size_alloc] at O2
    have HK1 := Lib.hid (fun (w' : World) (hg : ((w1.alloc (.cells #[.int .i64 0, .int .i64 0, .slice none 0 0] 27)).alloc (.cells #[] 3)).drew.grownBy w' (Value.slice (some ⟨w1.heap.size + 1, 0, none⟩) 0 0).ownBlock) =>
      (((Blk.new w1 27 #[.int .i64 0, .int .i64 0, .slice none 0 0]).alloc (.cells #[] 3)).upd ((Upd.refl No _).drew) id).upd (Upd.of_grown hg) (by simp [Value.ownBlock]))
    have HK2 := Lib.hid (fun (w' : World) (hg : ((w1.alloc (.cells #[] 3)).alloc (.cells #[.int .i64 0, .int .i64 0, .slice none 0 0] 27)).drew.grownBy w' (Value.slice (some ⟨w1.heap.size, 0, none⟩) 0 0).ownBlock) =>
      ((Blk.new (w1.alloc (.cells #[] 3)) 27 #[.int .i64 0, .int .i64 0, .slice none 0 0]).upd ((Upd.refl No _).drew) id).upd (Upd.of_grown hg) (by simp [Value.ownBlock]))
    simp only [World.size_alloc] at HK2
    clear hsw
    go_upto_region 3 with (fail)
    go_cut [10] from 26 to 34 (fun v wx => Hid (PMem w1 W H n l v wx))
    case first =>
      go_region_held3 (fun w' => Below w1.heap.size w1 w' ∧ w'.cell? ⟨w.heap.size, 0, none⟩ = some (.int .i64 (W : Int)) ∧ w'.cell? ⟨w.heap.size, 1, none⟩ = some (.int .i64 (H : Int)) ∧ w'.cell? ⟨w.heap.size, 2, none⟩ = some (.slice A n c))
        (first | exact hfull.out _ (Below.refl _ _) | exact hfull.out _ (Below.drew (Below.refl _ _)) | exact hfull.out _ (Below.drew (And.left (by assumption))) | exact hfull.out _ (Below.alloc (And.left (by assumption)) (Below.size (And.left (by assumption))) _) | exact hfull.out _ (Below.alloc (by assumption) (Below.size (by assumption)) _) | exact hfull.out _ (set3_below (by assumption) (by omega)) | exact hfull.out _ (by assumption))
        ((refine step_append_vs _ rfl (.tmp 30) (.tmp 32) _ rfl w1.heap.size 3 i0 (.int .i64 0) 8 Try.underlying22 hi hz0 hz1 hz2 rfl (.slice (some ⟨_, 0, none⟩) 0 0) 0 [] (by rfl) ?_ B A n c (intsV l) HLN.out (by rfl) ?_ (intsV_one l) (by unfold maxLen; omega) (by omega) ?_ ?_
          · first | exact O1.out | exact O2.out _ | exact O3.out _
          · first | exact HI1.out _ | exact HI2.out _ _
          · (first | (simp; done) | (simp; omega))
          intro A9 c9 w9 o9 hg9 _
          simp only [Nat.zero_add, List.nil_append] at o9 ⊢
          have hb9 := Below.grown (And.left (by assumption)) hg9 (by first | (simp; done) | (simp; omega)) (by simp [Value.ownBlock])
          have HO9 := Lib.hid o9
          have HG9 := Lib.hid hg9
          clear o9
          first
            | (have bk := HK1.out _ hg9; have b0 : w9.cell? ⟨w1.heap.size, 0, none⟩ = some (.int .i64 0) := (by rw [bk.cell]; rfl); have b1 : w9.cell? ⟨w1.heap.size, 1, none⟩ = some (.int .i64 0) := (by rw [bk.cell]; rfl); have b2 : w9.cell? ⟨w1.heap.size, 2, none⟩ = some (.slice none 0 0) := (by rw [bk.cell]; rfl); have f0 := bk.frozen 0; have f1 := bk.frozen 1; have f2 := bk.frozen 2; have HBK := Lib.hid bk; clear bk hg9)
            | (have bk := HK2.out _ hg9; have b0 : w9.cell? ⟨w1.heap.size + 1, 0, none⟩ = some (.int .i64 0) := (by rw [bk.cell]; rfl); have b1 : w9.cell? ⟨w1.heap.size + 1, 1, none⟩ = some (.int .i64 0) := (by rw [bk.cell]; rfl); have b2 : w9.cell? ⟨w1.heap.size + 1, 2, none⟩ = some (.slice none 0 0) := (by rw [bk.cell]; rfl); have f0 := bk.frozen 0; have f1 := bk.frozen 1; have f2 := bk.frozen 2; have HBK := Lib.hid bk; clear bk hg9)
            | clear hg9))
      all_goals
        go_wp2_with fail
        go_meet
        first
          | exact Lib.hid (pm_store HBK.out HO9.out (by assumption) (by omega))
          | exact Lib.hid (pm_alloc HO9.out (by assumption))
    case rest =>
      obtain ⟨ob, A2, c2, rfl, hob, hbk, ho2, hb2⟩ := hcut.out
      have hn0 : 0 < n := by rw [← hWH]; exact Nat.mul_pos (by omega) (by omega)
      obtain ⟨r2, rfl, hnc, _, hr2, hr2s⟩ := row_form ho2 hn0
      have hrob : ¬ r2 = ob := fun e => own_blk_ne ho2 hbk (by decide) (by subst e; rfl)
      have HBK := Lib.hid hbk
      have HO2 := Lib.hid ho2
      have HBC := Lib.hid hb2
      clear hcut hbk ho2 hb2 hfull HK1 HK2 O1 O2 O3 HI1 HI2 k0 k1 k2 p0 p1 hi hz0 hz1 hz2
      obtain ⟨w2, hw2⟩ : ∃ w2 : World, w2 = wc := ⟨_, rfl⟩
      rw [← hw2] at HBK HO2 HBC hr2s ⊢
      clear hw2
      have H0 := Lib.hid (HB0.out.upd (Upd.of_fresh HBC.out) id)
      have H1 := Lib.hid (HB1.out.upd (Upd.of_fresh HBC.out) id)
      have HR := Lib.hid (HB2.out.upd (Upd.of_fresh HBC.out) id)
      have HIM := Lib.hid (Vs.below HI'.out (HBC.out.mono hBs))
      have HWX := Lib.hid (And.intro hx hy)
      have hQ2 : Q ≤ 4096 := by omega
      have hP2 : P ≤ 4096 := by omega
      clear HB0 HB1 HB2 HI HI' hx hy
      go_wp2_with fail
      go_loopw [11] (fun v wr => ∃ k : Nat, k ≤ Q ∧ v = .int .i64 (k : Int) ∧ Hid (wr.ownsRow w1.heap.size 3 1 (.slice (some ⟨r2, 0, none⟩) n c2) n (intsV (pasteL l W X Y m P k))) ∧ Hid (Upd (· = r2) w2 wr)) (fun v _ => Q - (intOf v).toNat)
      case atStart => exact ⟨0, Nat.zero_le _, rfl, HO2, Lib.hid (Upd.refl _ _)⟩
      case round =>
        obtain ⟨k, hk, rfl, HO, HU⟩ := hrel
        have h1 := H1.out.upd HU.out (by omega)
        have q1 : wr.cell? ⟨w.heap.size + 1, 1, none⟩ = some (.int .i64 (Q : Int)) := by rw [h1.cell]; rfl
        clear h1
        by_cases hlt : k < Q
        · go_wp2_with fail
          obtain ⟨wo, hwo⟩ : ∃ wo : World, wo = wr := ⟨_, rfl⟩
          subst hwo
          clear q1
          go_loopw [12] (fun v wr => ∃ i : Nat, i ≤ P ∧ v = .int .i64 (i : Int) ∧ Hid (wr.ownsRow w1.heap.size 3 1 (.slice (some ⟨r2, 0, none⟩) n c2) n (intsV (spL (pasteL l W X Y m P k) ((Y + k) * W + X) (rowL m (k * P) i)))) ∧ Hid (Upd (· = r2) w2 wr)) (fun v _ => P - (intOf v).toNat)
          case atStart => exact ⟨0, Nat.zero_le _, rfl, Lib.hid (by simpa [rowL, spL_nil] using HO.out), HU⟩
          case round =>
            clear HO HU
            obtain ⟨i, hi, rfl, HO, HU⟩ := hrel
            have h1 := H1.out.upd HU.out (by omega)
            have q0 : wr.cell? ⟨w.heap.size + 1, 0, none⟩ = some (.int .i64 (P : Int)) := by rw [h1.cell]; rfl
            by_cases hlm : i < P
            · obtain ⟨Z, G, F, J, G2, J2, s1, s2, s3, hF, s4, hJ, hJl, s5, hG2, s6, hJ2, hJl2⟩ := paste_arith HWX.out.1 HWX.out.2 hlt hlm (by rw [hWH]; exact hn6) (by rw [hPQ]; exact hn6')
              rw [hWH] at hJl
              rw [hPQ] at hJl2
              rw [← hF, ← hG2] at HO
              have hml : G2 + i < m.length := by rw [hn', ← hJ2]; exact hJl2
              obtain ⟨ad, rfl, _, hcl⟩ := Is.at_ (Vs.below HIM.out (HU.out.below (B := B) (by have := HBC.out.size; omega) (fun z hz e => by omega))) hml
              have hrl : (rowL m G2 i).length = i := by unfold rowL; rw [List.length_take, List.length_drop]; omega
              have hpl := HO.out.1
              rw [intsV_length] at hpl
              have hset := row_set HO.out J m[G2 + i]
              obtain ⟨old, hold⟩ : ∃ old, wr.cell? ⟨r2, J, none⟩ = some (.int .i64 old) := ⟨_, row_at HO.out J (by omega)⟩
              have HSN : Hid ((spL (pasteL l W X Y m P k) F (rowL m G2 i)).set J m[G2 + i] = spL (pasteL l W X Y m P k) F (rowL m G2 (i + 1))) := Lib.hid (by
                rw [rowL_succ m G2 i hml, ← spL_snoc _ _ _ _ (by rw [hrl, pasteL_length (H := H) (Q := Q) (by rw [hn, hWH]) (by rw [hn', hPQ]) HWX.out.1 HWX.out.2 k (Nat.le_of_lt hlt), hWH, ← hJ]; exact hJl), hrl, hJ])
              rw [HSN.out] at hset
              clear HSN
              generalize m[G2 + i] = v at hset hcl
              rw [hF, hG2] at hset
              rw [← hJ2] at hcl
              have HSET := Lib.hid hset
              have hfz := HO.out.frozenAt J
              have HU9 : Hid (Upd (· = r2) w2 (wr.drew.setCell ⟨r2, J, none⟩ (.int .i64 v))) := Lib.hid ((HU.out.drew).setCell (p := ⟨r2, J, none⟩) (fun _ => rfl) _)
              have h0 := H0.out.upd HU.out (by omega)
              have hbk := HBK.out.upd HU.out (fun e => hrob e.symm)
              have k0 : wr.cell? ⟨w.heap.size, 0, none⟩ = some (.int .i64 (W : Int)) := by rw [h0.cell]; rfl
              have q2 : wr.cell? ⟨w.heap.size + 1, 2, none⟩ = some (.slice (some ad) n' c') := by rw [h1.cell]; rfl
              have j2 : wr.cell? ⟨ob, 2, none⟩ = some (.slice (some ⟨r2, 0, none⟩) n c2) := by rw [hbk.cell]; rfl
              have i1 : (0 : Int) ≤ (J : Int) := Int.natCast_nonneg _
              have i2 : (J : Int) < (n : Int) := Int.ofNat_lt.2 hJl
              have i3 : (0 : Int) ≤ (J2 : Int) := Int.natCast_nonneg _
              have i4 : (J2 : Int) < (n' : Int) := Int.ofNat_lt.2 hJl2
              have HFF := Lib.hid (And.intro hF (And.intro hG2 (And.intro hJ (And.intro hJ2 (And.intro hrl hpl)))))
              clear h0 h1 hbk hset hF hG2 hJ hJ2 hrl hpl hml HO HU hWH hPQ hn hn' hJl hJl2
              go_wp2_with fail
              refine wp_region_tail 23 (by kernel_rfl) (by kernel_rfl) ?_
              simp only [List.take_succ_cons, List.take_zero, List.drop_succ_cons, List.drop_zero]
              repeat (go_big_quiet_step (fail))
              refine wpQuiet_nil ?_
              go_wp2_with fail
              go_roundw
              case rel => exact ⟨i + 1, by omega, by go_num, HSET, HU9⟩
              case measure => simp [intOf]; omega
            · obtain rfl : i = P := by omega
              go_wp2_with fail
              go_roundw
              case rel => exact ⟨k + 1, by omega, by go_num, HO, HU⟩
              case measure => simp [intOf]; omega
        · obtain rfl : k = Q := by omega
          have hbk := HBK.out.upd HU.out (fun e => hrob e.symm)
          have hr := HR.out.upd HU.out (by omega)
          have j0 : wr.cell? ⟨ob, 0, none⟩ = some (.int .i64 (W : Int)) := by rw [hbk.cell]; rfl
          have j1 : wr.cell? ⟨ob, 1, none⟩ = some (.int .i64 (H : Int)) := by rw [hbk.cell]; rfl
          have j2 : wr.cell? ⟨ob, 2, none⟩ = some (.slice (some ⟨r2, 0, none⟩) n c2) := by rw [hbk.cell]; rfl
          have e0 : wr.cell? ⟨w.heap.size + 1 + 1, 0, none⟩ = some (.int .i64 0) := by rw [hr.cell]; rfl
          have e1 : wr.cell? ⟨w.heap.size + 1 + 1, 1, none⟩ = some (.int .i64 0) := by rw [hr.cell]; rfl
          have e2 : wr.cell? ⟨w.heap.size + 1 + 1, 2, none⟩ = some (.slice none 0 0) := by rw [hr.cell]; rfl
          have f0 := hr.frozen 0
          have f1 := hr.frozen 1
          have f2 := hr.frozen 2
          have hb9 := set3 hr (.int .i64 (W : Int)) (.int .i64 (H : Int)) (.slice (some ⟨r2, 0, none⟩) n c2)
          have hu9 := set3_upd wr (w.heap.size + 1 + 1) (.int .i64 (W : Int)) (.int .i64 (H : Int)) (.slice (some ⟨r2, 0, none⟩) n c2)
          have HBE := Lib.hid (((HBW.out.trans (HBC.out.mono (by omega))).trans (HU.out.below (B := w.heap.size) (by have := HBC.out.size; omega) (fun i hi e => by omega))).trans (hu9.below (B := w.heap.size) (by have := HU.out.size; have := HBC.out.size; omega) (fun i hi e => by omega)))
          have HOE := Lib.hid (Vs.of_own (own_upd HO.out hu9 (fun i hi e => by have := (HO.out.lt i hi).1; omega)))
          obtain ⟨w9, hw9⟩ : ∃ w9 : World, ((wr.setCell ⟨w.heap.size + 1 + 1, 0, none⟩ (.int .i64 (W : Int))).setCell ⟨w.heap.size + 1 + 1, 1, none⟩ (.int .i64 (H : Int))).setCell ⟨w.heap.size + 1 + 1, 2, none⟩ (.slice (some ⟨r2, 0, none⟩) n c2) = w9 := ⟨_, rfl⟩
          rw [hw9] at hb9 HBE HOE
          have n0 : w9.cell? ⟨w.heap.size + 1 + 1, 0, none⟩ = some (.int .i64 (W : Int)) := by rw [hb9.cell]; rfl
          have n1 : w9.cell? ⟨w.heap.size + 1 + 1, 1, none⟩ = some (.int .i64 (H : Int)) := by rw [hb9.cell]; rfl
          have n2 : w9.cell? ⟨w.heap.size + 1 + 1, 2, none⟩ = some (.slice (some ⟨r2, 0, none⟩) n c2) := by rw [hb9.cell]; rfl
          have HW9 := Lib.hid hw9
          clear hb9 hu9 hw9 hr hbk
          go_wp2_with fail
          rw [HW9.out]
          refine bodyPost_ret (v := .tuple #[.agg #[.int .i64 (W : Int), .int .i64 (H : Int), .slice (some ⟨r2, 0, none⟩) n c2], .int .i64 0]) (by simp [results, Try.results20, go_sem, n0, n1, n2]) rfl ?_
          exact HRR.out _ _ ⟨r2, c2, by omega, rfl, HOE.out, HBE.out⟩
end Go.Proofs.Ytfjnlbjlapbilaa
