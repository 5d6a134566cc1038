/- An answered image that is written over and grown: nothing else changes. A grid's cell set. Colours written over. -/
import Derived.Test.YtkfomjdmdgddlaaQgd
import Derived.Test.YtkfomjdmdgddlaaQov
namespace Go.Proofs.Ytkfomjdmdgddlaa
open Go.ChangeShapes Go.WideShapes Go.ChangeAt Go.RowKit

def SpS (A : Option Addr) : Nat → Prop := fun k => A.map (·.block) = some k
/-- The box, and the row that it holds, behind some writing. -/
structure SpI (w1 : World) (bx base : Nat) (A0 : Option Addr) (W H : Int) (A : Option Addr) (n c : Nat) (wr : World) : Prop where
  im : IB wr bx (.int .i64 W) (.int .i64 H) (.slice A n c)
  row : ∃ xs, wr.ownsRow base 28 1 (.slice A n c) n (usV xs)
  upd : Upd (fun k => k = bx ∨ SpS A0 k) w1 wr
  at_ : ∀ k, A.map (·.block) = some k → SpS A0 k ∨ w1.heap.size ≤ k
theorem vs_one (w : World) (t : TypeId) (v : Value) : Vs (w.alloc (.cells #[v] t)) (w.heap.size + 1) (some ⟨w.heap.size, 0, none⟩) [v] := vs_lit w t [v] _ (by omega)
set_option maxHeartbeats 2000000 in
set_option maxRecDepth 100000 in
theorem spoil_any (w : World) (base : Nat) (W H : Int) (A : Option Addr) (n c : Nat) (l : List Int) (hown : w.ownsRow base 28 1 (.slice A n c) n (usV l)) (hn : n ≤ 1048576) (hbase : base ≤ w.heap.size) :
    Calls Try.prog 33 #[imgV W H A n c] w fun e w' => e = .returned (.tuple #[]) ∧ Upd (SpS A) w w' := by
  obtain ⟨i0, hi, hz0, hz1, hz2⟩ := info_parts info_u16
  obtain ⟨w1, hw1, hib, hb⟩ := newImg W H A n c w
  have HW1 := Lib.hid hw1
  have HSZ : Hid (w1.heap.size = w.heap.size + 1) := Lib.hid (by rw [← hw1]; simp)
  have HB := Lib.hid hb
  have HST : Hid (SpI w1 w.heap.size base A W H A n c w1) := Lib.hid ⟨hib, ⟨l, own_upd hown (Upd.of_fresh hb) (fun _ _ => id)⟩, Upd.refl _ _, fun k hk => .inl hk⟩
  have q2 := hib.c2
  clear hw1 hib hb hown
  go_enter Try.func33, Try.ntmps33
  go_upto_region 1 with (fail)
  rw [HW1.out]
  clear HW1
  go_wp2_with fail
  clear q2
  go_loopw [7] (fun i wr => ∃ k : Nat, k ≤ n ∧ i = .int .i64 (k : Int) ∧ Hid (SpI w1 w.heap.size base A W H A n c wr)) (fun i _ => n - (intOf i).toNat)
  case atStart => exact ⟨0, Nat.zero_le _, rfl, HST⟩
  case round =>
    obtain ⟨k, hk, rfl, HI⟩ := hrel
    by_cases hlt : k < n
    · obtain ⟨xs, ho⟩ := HI.out.row
      obtain ⟨g, rfl, hnc, _, _, hgl⟩ := row_form ho (by omega)
      have hxl : xs.length = n := by have := own_len ho; rwa [usV_length] at this
      have hcell := urow_at ho k (by omega)
      have hfz := ho.frozenAt k
      have hgb : ¬ g = w.heap.size := own_img_ne ho HI.out.im.blk g rfl
      have HNx : Hid (∀ u, SpI w1 w.heap.size base (some ⟨g, 0, none⟩) W H (some ⟨g, 0, none⟩) n c ((wr.setCell ⟨g, k, none⟩ (.int .u16 u)).drew)) := Lib.hid (fun u => by
        have us := ((Upd.refl (· = g) wr).setCell (p := ⟨g, k, none⟩) (fun _ => rfl) (.int .u16 u)).drew
        exact ⟨IB.of (HI.out.im.blk.upd us (fun e => hgb e.symm)), ⟨xs.set k u, (urow_set ho k u).drew⟩, HI.out.upd.then us (fun i _ e => by have e : i = g := e; subst e; exact .inr rfl), HI.out.at_⟩)
      generalize xs[k]'(by omega) = v at hcell
      have q2 := HI.out.im.c2
      have i0 : (k : Int) < (n : Int) := by omega
      clear ho hxl hgl
      go_wp2_with fail
      refine wp_region_tail 10 (by kernel_rfl) (by kernel_rfl) ?_
      simp only [List.take_succ_cons, List.take_zero, List.drop_succ_cons, List.drop_zero]
      repeat (go_big_quiet_step (fail))
      refine wpQuiet_nil ?_
      have hfd : wr.drew.frozen? ⟨g, k, none⟩ = false := hfz
      have hcd : wr.drew.cell? ⟨g, k, none⟩ = some (.int .u16 v) := hcell
      go_wp2_with fail
      go_roundw
      case rel => exact ⟨k + 1, by omega, by go_num, Lib.hid (HNx.out _)⟩
      case measure => simp [intOf]; omega
    · go_wp2_with fail
      go_loopw [3] (fun i wr => ∃ (m : Nat) (A2 : Option Addr) (c2 : Nat), m ≤ 20 ∧ i = .int .i64 (m : Int) ∧ Hid (SpI w1 w.heap.size base A W H A2 (n + m) c2 wr)) (fun i _ => 20 - (intOf i).toNat)
      case atStart => exact ⟨0, A, c, Nat.zero_le _, rfl, HI⟩
      case round =>
        clear HI
        obtain ⟨m, A2, c2, hm, rfl, HI⟩ := hrel
        by_cases hmt : m < 20
        · obtain ⟨xs, ho⟩ := HI.out.row
          have HO := Lib.hid ho
          have hs := HI.out.upd.size
          have hbs : base ≤ (wr.alloc (.cells #[.int .u16 5] 28)).heap.size := by rw [World.size_alloc]; have := HSZ.out; omega
          obtain ⟨A3, c3, w3, hrun, ho3, hg3, hat3⟩ := run_append_vs (P := Try.prog) (wr.alloc (.cells #[.int .u16 5] 28)) base 22 22 28 i0 (.int .u16 0) 2 Try.underlying22 hi hz0 hz1 hz2 rfl (.slice A2 (n + m) c2) (n + m) (usV xs) (ho.alloc _) (wr.heap.size + 1) (some ⟨wr.heap.size, 0, none⟩) 1 1 [.int .u16 5] rfl (vs_one wr 28 (.int .u16 5)) (by intro u hu; simp at hu; subst hu; rfl) (by unfold maxLen; omega) (by omega) hbs
          rw [show usV xs ++ [Value.int .u16 5] = usV (xs ++ [5]) by simp [usV]] at ho3
          have HRN := Lib.hid hrun
          have ha := (Upd.refl No wr).alloc (.cells #[.int .u16 5] 28)
          have hib := (HI.out.im.blk.upd ha id).upd (Upd.of_grown hg3) (fun e => own_img_ne (ho.alloc _) (HI.out.im.blk.upd ha id) _ e.symm rfl)
          have hI3 := IB.of hib
          have hu3 : Upd (fun k => k = w.heap.size ∨ SpS A k) w1 w3 := (HI.out.upd.then ha (fun _ _ h => h.elim)).then (Upd.of_grown hg3) (fun i hi e => by
            rcases HI.out.at_ i (by rw [← own_block_sl A2 (n + m) c2]; exact e.symm) with h | h
            · exact .inr h
            · omega)
          have hat : ∀ k, A3.map (·.block) = some k → SpS A k ∨ w1.heap.size ≤ k := fun k hk => by
            rcases hat3 with h | h
            · rw [own_block_sl, own_block_sl] at h
              exact HI.out.at_ k (by rw [← h]; exact hk)
            · rw [own_block_sl] at h
              rw [h] at hk
              have : (wr.alloc (.cells #[.int .u16 5] 28)).heap.size = wr.heap.size + 1 := World.size_alloc _ _
              injection hk with hk
              refine .inr ?_
              rw [this] at hk
              omega
          have us := (Upd.refl (· = w.heap.size) w3).setCell (p := ⟨w.heap.size, 2, none⟩) (fun _ => rfl) (.slice A3 (n + m + 1) c3)
          have hbF : Blk (w3.setCell ⟨w.heap.size, 2, none⟩ (.slice A3 (n + m + 1) c3)) w.heap.size 24 #[.int .i64 W, .int .i64 H, .slice A3 (n + m + 1) c3] := by simpa using hib.set_ 2 (.slice A3 (n + m + 1) c3)
          have HNx : Hid (SpI w1 w.heap.size base A W H A3 (n + m + 1) c3 (w3.setCell ⟨w.heap.size, 2, none⟩ (.slice A3 (n + m + 1) c3))) := Lib.hid ⟨IB.of hbF, ⟨xs ++ [5], own_upd ho3 us (own_img_ne ho3 hib)⟩, hu3.then us (fun i _ e => .inl e), hat⟩
          have q2 := HI.out.im.c2
          have r2 := hI3.c2; have s2 := hI3.f2
          clear ho hs hbs hrun ho3 hg3 hat3 ha hib hI3 hu3 hat us hbF
          go_wp2_with (at_builtin; refine wpList_append_run rfl (.tmp 26) (.tmp 27) _ rfl rfl rfl HRN.out ?_)
          go_roundw
          case rel => exact ⟨m + 1, A3, c3, by omega, by go_num, HNx⟩
          case measure => simp [intOf]; omega
        · obtain rfl : m = 20 := by omega
          go_wp2_with fail
          have HF : Hid (Upd (SpS A) w wr) := Lib.hid (((Upd.of_fresh HB.out).mono (fun _ _ h => h.elim)).then HI.out.upd (fun i hi e => by
            rcases e with e | e
            · omega
            · exact e))
          refine bodyPost_end (v := .tuple #[]) (by simp [results, Try.results33, go_sem]) rfl ⟨rfl, HF.out⟩
set_option maxRecDepth 100000 in
theorem holdsC_any {w : World} {base g r c W H : Nat} {l : List Col} (h : CG w base g r c W H l) (x y p q : Int) (hp : p ≤ 9223372036854775807) (hq : q ≤ 9223372036854775807) :
    Calls Try.prog 53 #[.pointer (some ⟨g, 0, none⟩), .int .i64 x, .int .i64 y, .int .i64 p, .int .i64 q] w fun e w' => e = .returned (.bool (inB x y p q W H)) ∧ Below w.heap.size w w' := by
  go_enter Try.func53, Try.ntmps53
  have hw2 := h.w2
  have hh2 := h.h2
  have HS := Lib.hid (sizesHolds_any (W : Int) (H : Int) x y p q (by omega) (by omega) hp hq w)
  go_wp2_with fail
  refine (wC_any h).mono ?_
  rintro e w2 ⟨rfl, rfl⟩
  go_wp2_with fail
  refine (hC_any h).mono ?_
  rintro e w3 ⟨rfl, rfl⟩
  go_wp2_with fail
  refine HS.out.mono ?_
  rintro e w4 ⟨rfl, hb⟩
  go_wp2_with fail
  go_ret
  exact ⟨rfl, hb⟩
theorem wC_nil (w : World) : Calls Try.prog 25 #[.pointer none] w fun e w' => e = .returned (.int .i64 0) ∧ w' = w := by
  go_enter Try.func25, Try.ntmps25
  go_wp2_with fail
  go_ret
  exact ⟨rfl, rfl⟩
theorem hC_nil (w : World) : Calls Try.prog 26 #[.pointer none] w fun e w' => e = .returned (.int .i64 0) ∧ w' = w := by
  go_enter Try.func26, Try.ntmps26
  go_wp2_with fail
  go_ret
  exact ⟨rfl, rfl⟩
set_option maxRecDepth 100000 in
theorem holdsC_nil (w : World) : Calls Try.prog 53 #[.pointer none, .int .i64 0, .int .i64 0, .int .i64 1, .int .i64 1] w fun e w' => e = .returned (.bool false) ∧ Below w.heap.size w w' := by
  have HS := sizesHolds_any 0 0 0 0 1 1 (by omega) (by omega) (by omega) (by omega) w
  rw [show inB 0 0 1 1 0 0 = false by decide] at HS
  have HH := Lib.hid HS
  clear HS
  go_enter Try.func53, Try.ntmps53
  go_wp2_with fail
  refine (wC_nil w).mono ?_
  rintro e w2 ⟨rfl, rfl⟩
  go_wp2_with fail
  refine (hC_nil w2).mono ?_
  rintro e w3 ⟨rfl, rfl⟩
  go_wp2_with fail
  refine HH.out.mono ?_
  rintro e w4 ⟨rfl, hb⟩
  go_wp2_with fail
  go_ret
  exact ⟨rfl, hb⟩
set_option maxRecDepth 100000 in
theorem setC_nil (w : World) (z : Col) : Calls Try.prog 34 #[.pointer none, .int .i64 0, .int .i64 0, colV z] w fun e w' => e = .returned (.bool false) ∧ Below w.heap.size w w' := by
  have hb := (Below.refl w.heap.size w).alloc (Nat.le_refl _) (.cells (colC z) 30)
  go_enter Try.func34, Try.ntmps34
  go_upto_region 1 with (fail)
  obtain ⟨w1, hw1⟩ : ∃ w1, w.alloc (.cells (colC z) 30) = w1 := ⟨_, rfl⟩
  rw [hw1] at hb ⊢
  have HB := Lib.hid hb
  clear hw1 hb
  go_wp2_with fail
  refine (holdsC_nil w1).mono ?_
  rintro e w2 ⟨rfl, hb2⟩
  have HB2 := Lib.hid (HB.out.trans (hb2.mono HB.out.size))
  clear HB hb2
  go_wp2_with fail
  go_ret
  exact ⟨rfl, HB2.out⟩
set_option maxRecDepth 100000 in
set_option maxHeartbeats 1000000 in
theorem setC_any {w : World} {base g r c W H : Nat} {l : List Col} (h : CG w base g r c W H l) (z : Col) :
    Calls Try.prog 34 #[.pointer (some ⟨g, 0, none⟩), .int .i64 0, .int .i64 0, colV z] w fun e w' => e = .returned (.bool true) ∧ Upd (· = r) w w' := by
  have hb := (Below.refl w.heap.size w).alloc (Nat.le_refl _) (.cells (colC z) 30)
  have hcb := CB.of (x := z) (Blk.new w 30 (colC z))
  have hin : inB 0 0 1 1 (W : Int) (H : Int) = true := by
    have := h.w1; have := h.h1
    simp only [inB, Bool.and_eq_true, decide_eq_true_eq]
    omega
  go_enter Try.func34, Try.ntmps34
  go_upto_region 1 with (fail)
  obtain ⟨w1, hw1⟩ : ∃ w1, w.alloc (.cells (colC z) 30) = w1 := ⟨_, rfl⟩
  rw [hw1] at hb hcb ⊢
  have h1 := h.call hb
  have HH := Lib.hid (holdsC_any h1 0 0 1 1 (by omega) (by omega))
  rw [hin] at HH
  have HB := Lib.hid hb; have HCB := Lib.hid hcb; have HG := Lib.hid h1
  clear hw1 hb hcb h1 h hin
  go_wp2_with fail
  refine HH.out.mono ?_
  rintro e w2 ⟨rfl, hb2⟩
  have HG2 := Lib.hid (HG.out.call hb2)
  have HB2 := Lib.hid (HB.out.trans (hb2.mono HB.out.size))
  obtain ⟨_, x0, x1, x2, x3, _⟩ := CB.of (x := z) (HCB.out.blk.upd (Upd.of_fresh hb2) id)
  have hr := runC_any (HG2.out.upd ((Upd.refl No w2).drew) id id) 0 0 1 (Nat.le_refl _) (by have := HG2.out.w1; omega) HG2.out.h1
  simp only [Nat.zero_mul, Nat.zero_add, Nat.sub_zero] at hr
  have HRun := hr
  have h0 : 0 < l.length := by rw [HG2.out.len]; exact HG2.out.pos
  obtain ⟨y0, y1, y2, y3⟩ := HG2.out.at_ h0
  simp only [Nat.zero_mul, Nat.zero_add] at y0 y1 y2 y3
  have f0 := HG2.out.row.frozenAt 0; have f1 := HG2.out.row.frozenAt 1; have f2 := HG2.out.row.frozenAt 2; have f3 := HG2.out.row.frozenAt 3
  have HU := Lib.hid (set4_upd w2 r (.int .u16 z.r) (.int .u16 z.g) (.int .u16 z.b) (.int .u16 z.a))
  have hc : (0 : Int) < ((1 : Nat) : Int) := by omega
  generalize l[0] = v0 at y0 y1 y2 y3
  clear hb2 HB HCB HG HH hr h0
  go_wp2_with fail
  refine wp_region_tail 6 (by kernel_rfl) (by kernel_rfl) ?_
  simp only [List.take_succ_cons, List.take_zero, List.drop_succ_cons, List.drop_zero]
  repeat (go_big_quiet_step (fail))
  go_big_quiet_want
  go_big_quiet_op
  refine ⟨_, HRun, ?_⟩
  go_big_quiet_on
  repeat (go_big_quiet_step (fail))
  refine wpQuiet_nil ?_
  have e0 : w2.drew.cell? ⟨r, 0, none⟩ = _ := y0
  have e1 : w2.drew.cell? ⟨r, 1, none⟩ = _ := y1
  have e2 : w2.drew.cell? ⟨r, 2, none⟩ = _ := y2
  have e3 : w2.drew.cell? ⟨r, 3, none⟩ = _ := y3
  have g0 : w2.drew.frozen? ⟨r, 0, none⟩ = false := f0
  have g1 : w2.drew.frozen? ⟨r, 1, none⟩ = false := f1
  have g2 : w2.drew.frozen? ⟨r, 2, none⟩ = false := f2
  have g3 : w2.drew.frozen? ⟨r, 3, none⟩ = false := f3
  go_wp2_with fail
  go_ret
  exact ⟨rfl, ((Upd.of_fresh HB2.out).mono (fun _ _ h => h.elim)).trans HU.out.drew⟩
end Go.Proofs.Ytkfomjdmdgddlaa
