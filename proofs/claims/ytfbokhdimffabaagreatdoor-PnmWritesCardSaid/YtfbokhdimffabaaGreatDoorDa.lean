/- Joined texts (a claim has at most 60 files): Qga Da. -/
import Derived.Test.YtfbokhdimffabaaGreatDoorQp
import Derived.Test.YtfbokhdimffabaaGreatDoorSl
/- Grids of colours in memory: Clone, Of, W, H, Cells. -/
namespace Go.Proofs.YtfbokhdimffabaaGreatDoor
open Go.ChangeShapes Go.WideShapes Go.ChangeAt Go.RowKit

theorem crow_len {w : World} {base n : Nat} {v : Value} {e : TypeId} {l : List Col} (h : w.ownsRow base e 4 v n (colsV l)) : l.length = n := by
  have := h.1
  rw [colsV_length] at this
  omega
/-- A grid of colours stands at block g, its cells in row r. -/
structure CG (w : World) (base g r c W H : Nat) (l : List Col) : Prop where
  blk : Blk w g 132 #[.int .i64 (W : Int), .int .i64 (H : Int), .slice (some ⟨r, 0, none⟩) (W * H) c]
  row : w.ownsRow base 70 4 (.slice (some ⟨r, 0, none⟩) (W * H) c) (W * H) (colsV l)
  fresh : base ≤ g
  w1 : 1 ≤ W
  w2 : W ≤ 4096
  h1 : 1 ≤ H
  h2 : H ≤ 4096
  few : W * H ≤ 65536
section
variable {w w' : World} {base g r c W H : Nat} {l : List Col}
theorem CG.c0 (h : CG w base g r c W H l) : w.cell? ⟨g, 0, none⟩ = some (.int .i64 (W : Int)) := by rw [h.blk.cell]; rfl
theorem CG.c1 (h : CG w base g r c W H l) : w.cell? ⟨g, 1, none⟩ = some (.int .i64 (H : Int)) := by rw [h.blk.cell]; rfl
theorem CG.c2 (h : CG w base g r c W H l) : w.cell? ⟨g, 2, none⟩ = some (.slice (some ⟨r, 0, none⟩) (W * H) c) := by rw [h.blk.cell]; rfl
theorem CG.pos (h : CG w base g r c W H l) : 0 < W * H := Nat.mul_pos h.w1 h.h1
theorem CG.len (h : CG w base g r c W H l) : l.length = W * H := crow_len h.row
theorem CG.form (h : CG w base g r c W H l) : W * H ≤ c ∧ c ≤ maxLen ∧ base ≤ r ∧ r < w.heap.size := by
  obtain ⟨g', e1, h1, h2, h3, h4⟩ := crow_form h.row h.pos
  injection e1 with e1
  injection e1 with e1
  subst e1
  exact ⟨h1, h2, h3, h4⟩
theorem CG.cs (h : CG w base g r c W H l) : Cs w w.heap.size (some ⟨r, 0, none⟩) l := by
  have := h.row
  rw [← List.append_nil (colsV l)] at this
  exact Cs.of_own this h.form.2.2.2
theorem CG.at_ (h : CG w base g r c W H l) {k : Nat} (hk : k < l.length) : w.cell? ⟨r, k * 4, none⟩ = some (.int .u16 l[k].r) ∧ w.cell? ⟨r, k * 4 + 1, none⟩ = some (.int .u16 l[k].g) ∧ w.cell? ⟨r, k * 4 + 2, none⟩ = some (.int .u16 l[k].b) ∧ w.cell? ⟨r, k * 4 + 3, none⟩ = some (.int .u16 l[k].a) := by
  obtain ⟨b, off, e, _, h1⟩ := h.cs.at_ hk
  injection e with e
  injection e with e1 e2
  subst e1 e2
  simpa only [Nat.zero_add] using h1
theorem CG.upd {S : Nat → Prop} (h : CG w base g r c W H l) (u : Upd S w w') (h1 : ¬ S g) (h2 : ¬ S r) : CG w' base g r c W H l :=
  ⟨h.blk.upd u h1, own_upd h.row u (fun k hk => by simp [Value.ownBlock] at hk; subst hk; exact h2), h.fresh, h.w1, h.w2, h.h1, h.h2, h.few⟩
theorem CG.call (h : CG w base g r c W H l) (hb : Below w.heap.size w w') : CG w' base g r c W H l := h.upd (Upd.of_fresh hb) id id
theorem CG.low (h : CG w base g r c W H l) {b : Nat} (hb : b ≤ base) : CG w b g r c W H l := ⟨h.blk, own_low h.row hb, by have := h.fresh; omega, h.w1, h.w2, h.h1, h.h2, h.few⟩
theorem CG.ne (h : CG w base g r c W H l) : r ≠ g := fun e => by
  subst e
  exact own_blk_ne h.row h.blk (by decide) rfl
end
set_option maxRecDepth 100000 in
set_option maxHeartbeats 1000000 in
theorem cloneC_any (r o n c : Nat) (l : List Col) (hn : l.length = n) (B : Nat) (w : World) (h : Cs w B (some ⟨r, o, none⟩) l) (hB : B ≤ w.heap.size) (h0 : 0 < n) (hl : n ≤ 1048576) :
    Calls Tryz.prog 78 #[.slice (some ⟨r, o, none⟩) n c] w fun e w' => ∃ r' c', e = .returned (.slice (some ⟨r', 0, none⟩) n c') ∧ w'.ownsRow w.heap.size 70 4 (.slice (some ⟨r', 0, none⟩) n c') n (colsV l) ∧ Below w.heap.size w w' := by
  have hlit := World.ownsRow_made (base := w.heap.size) (e := 70) (size := 4) w #[] 0 (Nat.le_refl _) (by unfold maxLen; omega) rfl
  have hbe := (Below.refl w.heap.size w).alloc (Nat.le_refl _) (.cells #[] 70)
  obtain ⟨A1, c1, w1, hrun, o1, hg1⟩ := append_cols w.heap.size (w.alloc (.cells #[] 70)) (.slice (some ⟨w.heap.size, 0, none⟩) 0 0) 0 [] hlit (by simp) B (some ⟨r, o, none⟩) n c l hn (h.below (hbe.mono hB)) (by omega) 103
  simp only [Nat.zero_add, List.nil_append] at hrun o1
  have HRN := Lib.hid hrun
  have HG1 := Lib.hid (hbe.grown hg1 (by simp) (by intro q hq; simp [Value.ownBlock] at hq; omega))
  have HO1 := Lib.hid o1
  clear hlit hbe hrun o1 hg1 h
  have q22 : ∀ (w : World) (a : Option Addr) (n c n' c' : Nat), (binOp .eql 103 (.slice a n c) (.slice none n' c')).run Tryz.prog w = .ok (.bool a.isNone) w := fun w a n c n' c' => Lib.run_eql_slice_nil w _ _ a n c n' c' Tryz.underlying103
  go_enter Tryz.func78, Tryz.ntmps78
  go_wp2_with (at_builtin; refine wpList_append_run rfl (.tmp 5) (.tmp 6) _ rfl rfl rfl HRN.out ?_)
  go_ret
  obtain ⟨g, rfl, _⟩ := crow_form HO1.out h0
  exact ⟨g, c1, rfl, HO1.out, HG1.out⟩
set_option maxRecDepth 100000 in
set_option maxHeartbeats 1000000 in
theorem ofC_any (W H n c r o : Nat) (l : List Col) (hn : l.length = n) (hWH : W * H = n) (hm : mayB (W : Int) (H : Int) = true) (B : Nat) (w : World) (h : Cs w B (some ⟨r, o, none⟩) l) (hB : B ≤ w.heap.size) :
    Calls Tryz.prog 55 #[.int .i64 (W : Int), .int .i64 (H : Int), .slice (some ⟨r, o, none⟩) n c] w fun e w' => ∃ g r' c', e = .returned (.tuple #[.pointer (some ⟨g, 0, none⟩), .int .i64 0]) ∧ CG w' w.heap.size g r' c' W H l ∧ Below w.heap.size w w' := by
  go_enter Tryz.func55, Tryz.ntmps55
  go_wp2_with fail
  refine (mayBe_any (W : Int) (H : Int) w).mono ?_
  rintro e w1 ⟨rfl, rfl⟩
  obtain ⟨b1, b2, b3, b4, b5⟩ := mayB_bd hm
  have hmul : (W : Int) * (H : Int) = (n : Int) := by rw [← Int.natCast_mul, hWH]
  rw [hmul] at b5
  have hp : 0 < n := by rw [← hWH]; exact Nat.mul_pos (by omega) (by omega)
  have hwr : wrap64 ((W : Int) * (H : Int)) = (n : Int) := by rw [hmul]; exact IntWalk.wrap64_in _ (by omega)
  have HC := Lib.hid (cloneC_any r o n c l hn B w1 h hB hp (by omega))
  have HWH := Lib.hid hWH
  rw [hm]
  clear hm hmul h hWH
  go_wp2_with fail
  refine HC.out.mono ?_
  rintro e w2 ⟨r2, c2, rfl, o2, hb2⟩
  have O2 := Lib.hid o2
  have HB2 := Lib.hid hb2
  clear o2 hb2 HC
  go_wp2_with fail
  go_ret2
  have hs := HB2.out.size
  refine ⟨w2.heap.size, r2, c2, rfl, ⟨?_, ?_, hs, by omega, by omega, by omega, by omega, by rw [HWH.out]; omega⟩, HB2.out.alloc hs _⟩
  · rw [HWH.out]
    exact Blk.new w2 _ _
  · rw [HWH.out]
    exact own_upd O2.out ((Upd.refl No w2).alloc _) (fun _ _ => id)
section
variable {w : World} {base g r c W H : Nat} {l : List Col}
theorem hC_any (h : CG w base g r c W H l) : Calls Tryz.prog 80 #[.pointer (some ⟨g, 0, none⟩)] w fun e w' => e = .returned (.int .i64 (H : Int)) ∧ w' = w := by
  go_enter Tryz.func80, Tryz.ntmps80
  have k1 := h.c1
  go_wp2_with fail
  go_ret
  exact ⟨rfl, rfl⟩
end
end Go.Proofs.YtfbokhdimffabaaGreatDoor

/- The program's scan: what goes through bytes from the front on. -/
set_option linter.unusedVariables false
set_option linter.unusedSimpArgs false
namespace Go.Proofs.YtfbokhdimffabaaGreatDoor
open Go.ChangeShapes Go.WideShapes Go.ChangeAt Go.RowKit

/-- A scan that has these bytes left. -/
def Sc (V : World) (B sb : Nat) (L : List UInt8) : Prop := ∃ A c, Blk V sb 46 #[.slice A L.length c] ∧ Bs V B A L ∧ L.length ≤ c ∧ B ≤ sb
theorem Sc.upd {V V' : World} {B sb : Nat} {L : List UInt8} {S : Nat → Prop} (h : Sc V B sb L) (u : Upd S V V') (hS : ¬ S sb) (hB : ∀ k, k < B → ¬ S k) : Sc V' B sb L := by
  obtain ⟨A, c, h1, h2, h3, h4⟩ := h
  have hlt : sb < V.heap.size := h1.lt
  exact ⟨A, c, h1.upd u hS, h2.keep (fun p hp => World.cell?_of_block (u.block _ (by omega) (hB _ hp))), h3, h4⟩
def st1 (L : List UInt8) (lo hi : Nat) : Bool := match L with
  | [] => false
  | c :: _ => decide (lo ≤ c.toNat) && decide (c.toNat ≤ hi)
def isSp (L : List UInt8) : Bool := st1 L 9 13 || st1 L 32 32
set_option maxRecDepth 100000 in
set_option maxHeartbeats 1000000 in
theorem starts_any (B sb : Nat) (L : List UInt8) (lo hi : Nat) (h1 : lo < 256) (h2 : hi < 256) (w : World) (h : Sc w B sb L) : Calls Tryz.prog 67 #[.pointer (some ⟨sb, 0, none⟩), .int .u8 (lo : Nat), .int .u8 (hi : Nat)] w fun e w' => e = .returned (.bool (st1 L lo hi)) ∧ w' = w := by
  cases L with
  | nil =>
    obtain ⟨A, c, hb, hbs, hc, _⟩ := h
    have c0 : w.cell? ⟨sb, 0, none⟩ = some (.slice A 0 c) := hb.cell 0
    clear hb hbs hc
    go_enter Tryz.func67, Tryz.ntmps67
    go_wp2_with fail
    go_ret
    exact ⟨rfl, rfl⟩
  | cons x r =>
    obtain ⟨A, c, hb, hbs, hc, _⟩ := h
    obtain ⟨ad, rfl, hb1, hx0⟩ := hbs.at_ (k := 0) (by simp)
    replace hx0 : w.cell? ad = some (.int .u8 (x.toNat : Int)) := hx0
    have c0 : w.cell? ⟨sb, 0, none⟩ = some (.slice (some ad) (r.length + 1) c) := hb.cell 0
    have hx := byte_lt x
    clear hb hbs hc
    have HE : Hid (st1 (x :: r) lo hi = (decide (lo ≤ x.toNat) && decide (x.toNat ≤ hi))) := Lib.hid rfl
    by_cases hlo : lo ≤ x.toNat
    · have d1 : ¬ ((x.toNat : Int) < (lo : Int)) := by omega
      go_enter Tryz.func67, Tryz.ntmps67
      go_wp2_with fail
      go_ret
      rw [HE.out, decide_eq_true hlo, Bool.true_and]
      exact ⟨rfl, rfl⟩
    · have d1 : ((x.toNat : Int) < (lo : Int)) := by omega
      go_enter Tryz.func67, Tryz.ntmps67
      go_wp2_with fail
      go_ret
      rw [HE.out, decide_eq_false hlo, Bool.false_and]
      exact ⟨rfl, rfl⟩
set_option maxRecDepth 100000 in
set_option maxHeartbeats 1000000 in
theorem next_any (B sb : Nat) (x : UInt8) (r : List UInt8) (w : World) (h : Sc w B sb (x :: r)) : Calls Tryz.prog 68 #[.pointer (some ⟨sb, 0, none⟩)] w fun e w' => e = .returned (.int .u8 (x.toNat : Int)) ∧ Sc w' B sb r ∧ Upd (· = sb) w w' := by
  obtain ⟨A, c, hb, hbs, hc, hB⟩ := h
  obtain ⟨ad, rfl, hb1, hx0⟩ := hbs.at_ (k := 0) (by simp)
  replace hx0 : w.cell? ad = some (.int .u8 (x.toNat : Int)) := hx0
  have c0 : w.cell? ⟨sb, 0, none⟩ = some (.slice (some ad) (r.length + 1) c) := hb.cell 0
  have hfr : w.frozen? ⟨sb, 0, none⟩ = false := hb.frozen 0
  have HH := Lib.hid hb
  have HBS := Lib.hid hbs
  have h1l : 1 ≤ r.length + 1 := by omega
  rw [List.length_cons] at hc
  have HBL := Lib.hid hB
  clear hb hbs hB
  go_enter Tryz.func68, Tryz.ntmps68
  go_wp2_with (refine wpList_slice_from _ rfl (.tmp 14) (.const (.int .i64 1)) 22 rfl Tryz.underlying22 (fun w => by kernel_rfl) (some ad) (r.length + 1) c 1 rfl rfl h1l B (x :: r) rfl hc HBS.out ?_; intro A2 hbs2)
  go_ret
  refine ⟨rfl, ⟨A2, c - 1, HH.out.set_ 0 _, hbs2.setCell HBL.out _, by omega, HBL.out⟩, (Upd.refl (· = sb) w).setCell (fun _ => rfl) _⟩
theorem st1_cons {L : List UInt8} {lo hi : Nat} (h : st1 L lo hi = true) : ∃ x r, L = x :: r ∧ lo ≤ x.toNat ∧ x.toNat ≤ hi := by
  cases L with
  | nil => cases h
  | cons x r =>
    simp [st1] at h
    exact ⟨x, r, rfl, h.1, h.2⟩
theorem isSp_cons {L : List UInt8} (h : isSp L = true) : ∃ x r, L = x :: r := by
  unfold isSp at h
  rw [Bool.or_eq_true] at h
  rcases h with h | h <;> obtain ⟨x, r, h, _⟩ := st1_cons h <;> exact ⟨x, r, h⟩
set_option maxRecDepth 100000 in
set_option maxHeartbeats 1000000 in
theorem space_any (B sb : Nat) (L : List UInt8) (w : World) (h : Sc w B sb L) : Calls Tryz.prog 44 #[.pointer (some ⟨sb, 0, none⟩)] w fun e w' => e = .returned (.bool (isSp L)) ∧ Sc w' B sb (if isSp L then L.tail else L) ∧ Upd (· = sb) w w' := by
  have H0 := Lib.hid h
  clear h
  have HS : Hid (isSp L = (st1 L 9 13 || st1 L 32 32)) := Lib.hid rfl
  cases hp : isSp L with
  | true =>
    obtain ⟨x, r, rfl⟩ := isSp_cons hp
    have HP := Lib.hid hp
    clear hp
    cases h9 : st1 (x :: r) 9 13 with
    | true =>
      have H9 := Lib.hid h9
      clear h9
      go_enter Tryz.func44, Tryz.ntmps44
      go_wp2_with (first | (go_at_call 67; refine (starts_any B sb (x :: r) 9 13 (by decide) (by decide) w H0.out).mono ?_; rintro e w1 ⟨rfl, rfl⟩; rw [H9.out]) | (go_at_call 68; refine (next_any B sb x r _ H0.out).mono ?_; rintro e w2 ⟨rfl, h2, u2⟩))
      go_ret
      exact ⟨rfl, h2, u2⟩
    | false =>
      have h3 : st1 (x :: r) 32 32 = true := by have := HP.out; rw [HS.out, h9, Bool.false_or] at this; exact this
      have H9 := Lib.hid h9
      have H3 := Lib.hid h3
      clear h9 h3
      go_enter Tryz.func44, Tryz.ntmps44
      go_wp2_with (first | (go_at_call 67; first | (refine (starts_any B sb (x :: r) 9 13 (by decide) (by decide) w H0.out).mono ?_; rintro e w1 ⟨rfl, rfl⟩; rw [H9.out]) | (refine (starts_any B sb (x :: r) 32 32 (by decide) (by decide) _ H0.out).mono ?_; rintro e w1 ⟨rfl, rfl⟩; rw [H3.out])) | (go_at_call 68; refine (next_any B sb x r _ H0.out).mono ?_; rintro e w2 ⟨rfl, h2, u2⟩))
      go_ret
      exact ⟨rfl, h2, u2⟩
  | false =>
    have h9 := HS.out
    rw [hp] at h9
    have h3 := (Bool.or_eq_false_iff.1 h9.symm)
    have H9 := Lib.hid h3.1
    have H3 := Lib.hid h3.2
    clear hp h9 h3
    go_enter Tryz.func44, Tryz.ntmps44
    go_wp2_with ((go_at_call 67; first | (refine (starts_any B sb L 9 13 (by decide) (by decide) w H0.out).mono ?_; rintro e w1 ⟨rfl, rfl⟩; rw [H9.out]) | (refine (starts_any B sb L 32 32 (by decide) (by decide) _ H0.out).mono ?_; rintro e w1 ⟨rfl, rfl⟩; rw [H3.out])))
    go_ret
    exact ⟨rfl, H0.out, Upd.refl _ _⟩
/-- What a digit is. -/
def digV (L : List UInt8) : Nat := match L with
  | [] => 0
  | c :: _ => c.toNat - 48
def isDg (L : List UInt8) : Bool := st1 L 48 57
set_option maxRecDepth 100000 in
set_option maxHeartbeats 1000000 in
theorem digit_any (B sb : Nat) (L : List UInt8) (w : World) (h : Sc w B sb L) : Calls Tryz.prog 42 #[.pointer (some ⟨sb, 0, none⟩)] w fun e w' => e = .returned (.tuple #[.int .i64 ((if isDg L then digV L else 0 : Nat) : Int), .bool (isDg L)]) ∧ Sc w' B sb (if isDg L then L.tail else L) ∧ Upd (· = sb) w w' := by
  have H0 := Lib.hid h
  clear h
  cases hp : isDg L with
  | true =>
    obtain ⟨x, r, rfl, hx1, hx2⟩ := st1_cons hp
    have HP : Hid (st1 (x :: r) 48 57 = true) := Lib.hid hp
    clear hp
    go_enter Tryz.func42, Tryz.ntmps42
    have e1 : ((x.toNat : Int) - 48) % 256 = ((x.toNat - 48 : Nat) : Int) := by omega
    go_wp2_with (first | (go_at_call 67; refine (starts_any B sb (x :: r) 48 57 (by decide) (by decide) w H0.out).mono ?_; rintro e w1 ⟨rfl, rfl⟩; rw [HP.out]) | (go_at_call 68; refine (next_any B sb x r _ H0.out).mono ?_; rintro e w2 ⟨rfl, h2, u2⟩))
    go_ret2
    refine ⟨?_, h2, u2⟩
    show Ending.returned (.tuple #[.int .i64 ((x.toNat : Int) - 48), .bool true]) = Ending.returned (.tuple #[.int .i64 ((x.toNat - 48 : Nat) : Int), .bool true])
    rw [show ((x.toNat - 48 : Nat) : Int) = (x.toNat : Int) - 48 by omega]
  | false =>
    have HP : Hid (st1 L 48 57 = false) := Lib.hid hp
    clear hp
    go_enter Tryz.func42, Tryz.ntmps42
    go_wp2_with (go_at_call 67; refine (starts_any B sb L 48 57 (by decide) (by decide) w H0.out).mono ?_; rintro e w1 ⟨rfl, rfl⟩; rw [HP.out])
    go_ret2
    exact ⟨rfl, H0.out, Upd.refl _ _⟩
end Go.Proofs.YtfbokhdimffabaaGreatDoor
