/- Contracts of fixedCodes, mayBe, goodDecoder. -/
import Derived.Test.YthbdhpciibjnmaaIf
namespace Go.Proofs.Ythbdhpciibjnmaa
open Go.ChangeShapes Go.WideShapes Go.ChangeAt Go.RowKit

theorem fixedL_bad : fixedL.any badLen = false := by decide +kernel
theorem fixedL_room : 0 ≤ roomOf fixedL := by decide +kernel
theorem fixedD_bad : fixedD.any badLen = false := by decide +kernel
theorem fixedD_room : 0 ≤ roomOf fixedD := by decide +kernel
theorem fixedL_length : fixedL.length = 288 := by decide +kernel
theorem fixedD_length : fixedD.length = 30 := by decide +kernel
theorem DecAt.fresh {w w' : World} {base g : Nat} {l : List Int} (h : DecAt w base g l) (hb : Below w.heap.size w w') : DecAt w' base g l := h.upd (Upd.of_fresh hb) (fun _ _ _ => id)
theorem DecAt.from_ {w : World} {base B g : Nat} {l : List Int} (h : DecAt w base g l) (hB : B ≤ base) : DecAt w B g l := by
  obtain ⟨A, c, S, h1, h2, h3, h4⟩ := h
  exact ⟨A, c, S, h1, own_base h2 hB, h3, Nat.le_trans hB h4⟩
section
variable {w w' : World} {B gs gr : Nat} {A : Option Addr} {c : Nat} {b : List UInt8} {most p : Nat} {Ao : Option Addr} {co : Nat} {out : List UInt8} {fx : Option Addr}
/-- A write to a block that isn't the stream's. -/
theorem Str.other (h : Str w B gs gr A c b most p Ao co out fx) {g : Nat} {t : TypeId} {cs : Array Value} (hb : Blk w g t cs) (h1 : 48 ≠ t) (h2 : 77 ≠ t) (h3 : 5 ≠ t) (hfx : FixAt w' B fx) (hu : Upd (· = g) w w') : Str w' B gs gr A c b most p Ao co out fx :=
  ⟨h.blk.upd hu (Blk.ne_ h.blk hb h1), h.rdr.upd hu (Blk.ne_ h.rdr.1 hb h2) (fun k hk e => by subst e; exact own_blk_ne h.rdr.2.1 hb h3 hk), own_upd h.own hu (fun k hk e => by subst e; exact own_blk_ne h.own hb h3 hk), h.base, Nat.le_trans h.size hu.size, hfx, h.ne⟩
end
theorem DecAt.two {w w' : World} {base g g1 g2 : Nat} {l : List Int} {t1 t2 : TypeId} {x1 x2 : Array Value} (h : DecAt w base g l) (b1 : Blk w g1 t1 x1) (b2 : Blk w g2 t2 x2) (n1 : 129 ≠ t1) (n2 : 129 ≠ t2) (m1 : 3 ≠ t1) (m2 : 3 ≠ t2) (u : Upd (fun k => k = g1 ∨ k = g2) w w') : DecAt w' base g l := by
  obtain ⟨A, c, S, a1, a2, a3, a4⟩ := h
  refine ⟨A, c, S, a1.upd u (fun e => ?_), own_upd a2 u (fun k hk e => ?_), a3, a4⟩
  · rcases e with e | e
    · exact Blk.ne_ a1 b1 n1 e
    · exact Blk.ne_ a1 b2 n2 e
  · rcases e with e | e
    · subst e; exact own_blk_ne a2 b1 m1 hk
    · subst e; exact own_blk_ne a2 b2 m2 hk
theorem fixed_end {w w4 : World} {B gs gr : Nat} {A : Option Addr} {c : Nat} {b : List UInt8} {most p : Nat} {Ao : Option Addr} {co : Nat} {out : List UInt8} {fx : Option Addr} {x : Array Value} {gl gd : Nat} (h0 : Str w B gs gr A c b most p Ao co out fx) (h : Str w4 B gs gr A c b most p Ao co out fx) (hb : Below w.heap.size w w4)
    (hB0 : Blk w4 w.heap.size 82 x) (hl : DecAt w4 B gl fixedL) (hd : DecAt w4 B gd fixedD) (W : World) (hW : W = (((w4.setCell ⟨gs, 3, none⟩ (.pointer (some ⟨w4.heap.size, 0, none⟩))).setCell ⟨w.heap.size, 0, none⟩ (.pointer (some ⟨gl, 0, none⟩))).setCell ⟨w.heap.size, 1, none⟩ (.pointer (some ⟨gd, 0, none⟩))).alloc (.cells #[.pointer (some ⟨gl, 0, none⟩), .pointer (some ⟨gd, 0, none⟩)] 82)) :
    Str W B gs gr A c b most p Ao co out (some ⟨w4.heap.size, 0, none⟩) ∧ Left w B W ∧ DecAt W B gl fixedL ∧ DecAt W B gd fixedD := by
  have hne : w.heap.size ≠ gs := by have := h0.blk.lt; omega
  have hu1 : Upd (· = w.heap.size) (w4.setCell ⟨gs, 3, none⟩ (.pointer (some ⟨w4.heap.size, 0, none⟩))) W := by
    rw [hW]
    exact (((Upd.refl (· = w.heap.size) _).setCell (p := ⟨w.heap.size, 0, none⟩) (fun _ => rfl) _).setCell (p := ⟨w.heap.size, 1, none⟩) (fun _ => rfl) _).alloc _
  have hu0 : Upd (· = gs) w4 (w4.setCell ⟨gs, 3, none⟩ (.pointer (some ⟨w4.heap.size, 0, none⟩))) := (Upd.refl (· = gs) w4).setCell (p := ⟨gs, 3, none⟩) (fun _ => rfl) _
  have hu : Upd (fun k => k = gs ∨ k = w.heap.size) w4 W := (hu0.mono (fun _ _ e => .inl e)).trans (hu1.mono (fun _ _ e => .inr e))
  have hw : Upd (· = gs) w W := ((Upd.of_fresh hb).mono (fun _ _ e => e.elim)).then hu (fun i hi e => by rcases e with e | e <;> omega)
  have hk : Keep TS w W := Keep.of_upd hw (fun k cs t e hb => by
    subst e
    have h1 := h0.blk
    unfold Blk at hb h1
    rw [h1] at hb
    injection hb with hb
    injection hb with _ hb
    subst hb
    decide)
  have dl := hl.two h.blk hB0 (by decide) (by decide) (by decide) (by decide) hu
  have dd := hd.two h.blk hB0 (by decide) (by decide) (by decide) (by decide) hu
  have hnew : Blk W w4.heap.size 82 #[.pointer (some ⟨gl, 0, none⟩), .pointer (some ⟨gd, 0, none⟩)] := by
    rw [hW]
    have := Blk.new (((w4.setCell ⟨gs, 3, none⟩ (.pointer (some ⟨w4.heap.size, 0, none⟩))).setCell ⟨w.heap.size, 0, none⟩ (.pointer (some ⟨gl, 0, none⟩))).setCell ⟨w.heap.size, 1, none⟩ (.pointer (some ⟨gd, 0, none⟩))) 82 #[.pointer (some ⟨gl, 0, none⟩), .pointer (some ⟨gd, 0, none⟩)]
    simpa using this
  refine ⟨⟨(h.blk.set_ 3 _).upd hu1 (fun e => hne e.symm), h.rdr.upd hu (fun e => ?_) (fun k hk2 e => ?_), own_upd h.own hu (fun k hk2 e => ?_), h.base, Nat.le_trans h.size hu.size, .inr ⟨w4.heap.size, gl, gd, rfl, hnew, dl, dd, h.size⟩, h.ne⟩, ⟨hw.below h0.size (fun k hk2 e => by have := h0.base; omega), hk⟩, dl, dd⟩
  · rcases e with e | e
    · exact Blk.ne_ h.rdr.1 h.blk (by decide) e
    · exact Blk.ne_ h.rdr.1 hB0 (by decide) e
  · rcases e with e | e
    · subst e; exact own_blk_ne h.rdr.2.1 h.blk (by decide) hk2
    · subst e; exact own_blk_ne h.rdr.2.1 hB0 (by decide) hk2
  · rcases e with e | e
    · subst e; exact own_blk_ne h.own h.blk (by decide) hk2
    · subst e; exact own_blk_ne h.own hB0 (by decide) hk2
/-- The codes that a method answers, their decoders made. -/
def Codes2 (w : World) (B gs gr : Nat) (A : Option Addr) (c : Nat) (b : List UInt8) (most : Nat) (out : List UInt8) (x : Except Nat (Nat × List Int × List Int)) (e : Ending) (w' : World) : Prop :=
  match x with
  | .error k => e = gaveUp k ∧ Left w B w'
  | .ok (q, ll, ld) => ∃ gl gd, e = .returned (.agg #[.pointer (some ⟨gl, 0, none⟩), .pointer (some ⟨gd, 0, none⟩)]) ∧ DecAt w' B gl ll ∧ DecAt w' B gd ld ∧ Strm w' B gs gr A c b most q out ∧ Left w B w'
theorem codes_info : (Try.prog.info? 82).map (·.size) = some 2 := by kernel_rfl
set_option maxHeartbeats 4000000 in
set_option maxRecDepth 100000 in
theorem fixedCodes_any (w : World) (B gs gr : Nat) (A : Option Addr) (c : Nat) (b : List UInt8) (most p : Nat) (out : List UInt8) (h : Strm w B gs gr A c b most p out) :
    Calls Try.prog 37 #[.pointer (some ⟨gs, 0, none⟩)] w (Codes2 w B gs gr A c b most out (.ok (p, fixedL, fixedD))) := by
  obtain ⟨Ao, co, fx, h⟩ := h
  have hgs := h.blk.lt
  have hBw := h.size
  have HH := Lib.hid h
  have HS0 := Lib.hid (h.fresh ((Below.refl w.heap.size w).alloc (Nat.le_refl _) (.cells #[.pointer none, .pointer none] 82)))
  have hc := HS0.out.fixed_
  rcases h.fix with rfl | ⟨gf, gl, gd, rfl, f1, f2, f3, f4⟩
  · have HB0 : Hid (Blk (w.alloc (.cells #[.pointer none, .pointer none] 82)) w.heap.size 82 #[.pointer none, .pointer none]) := Lib.hid (Blk.new _ _ _)
    have HL0 : Hid (Left w B (w.alloc (.cells #[.pointer none, .pointer none] 82))) := Lib.hid (Left.fresh ((Below.refl w.heap.size w).alloc (Nat.le_refl _) _) h.size)
    have HBW : Hid (Below w.heap.size w (w.alloc (.cells #[.pointer none, .pointer none] 82))) := Lib.hid ((Below.refl w.heap.size w).alloc (Nat.le_refl _) _)
    clear h
    go_enter Try.func37, Try.ntmps37
    go_wp2_with fail
    generalize w.alloc (.cells #[.pointer none, .pointer none] 82) = w0 at *
    refine (fixedLiterals_any w0).mono ?_
    rintro e w1 ⟨A1, c1, rfl, hv1, hb1⟩
    go_wp2_with fail
    refine (decoderOf_any A1 c1 288 fixedL w1 fixedL_length hv1 (by rw [fixedL_length]; omega) fixedL_bad fixedL_room).mono ?_
    rintro e w2 ⟨gl, rfl, hd2, hb2⟩
    have hb02 := hb1.trans (hb2.mono hb1.size)
    have z1 := hb1.size
    have HD2 : Hid (DecAt w2 w0.heap.size gl fixedL) := Lib.hid (hd2.from_ hb1.size)
    clear hd2 hb1 hb2 hv1
    go_wp2_with fail
    refine (fixedDistances_any w2).mono ?_
    rintro e w3 ⟨A3, c3, rfl, hv3, hb3⟩
    go_wp2_with fail
    refine (decoderOf_any A3 c3 30 fixedD w3 fixedD_length hv3 (by rw [fixedD_length]; omega) fixedD_bad fixedD_room).mono ?_
    rintro e w4 ⟨gd, rfl, hd4, hb4⟩
    have hb24 := hb3.trans (hb4.mono hb3.size)
    have hb04 := hb02.trans (hb24.mono hb02.size)
    have HD4 : Hid (DecAt w4 w0.heap.size gd fixedD) := Lib.hid (hd4.from_ (Nat.le_trans hb02.size hb3.size))
    have HD4l : Hid (DecAt w4 w0.heap.size gl fixedL) := Lib.hid (HD2.out.fresh hb24)
    have HS4 := Lib.hid (HS0.out.fresh hb04)
    have HB4 := Lib.hid (HB0.out.upd (Upd.of_fresh hb04) id)
    have HL4 := Lib.hid (HL0.out.trans (Left.fresh hb04 HS0.out.size))
    clear hd4 hb3 hb4 hb24 hv3 hb02 HD2 HB0 HL0
    have hc4 := HS4.out.fixed_
    have hf4 := HS4.out.blk.frozen 3
    have hg4 := HS4.out.blk.lt
    have e0 := (HB4.out.cell 0).trans rfl
    have e1 := (HB4.out.cell 1).trans rfl
    have k0 := HB4.out.frozen 0
    have k1 := HB4.out.frozen 1
    have hw4 := HB4.out.lt
    have hne : w.heap.size ≠ gs := by omega
    have HBW4 := Lib.hid (HBW.out.trans (hb04.mono HBW.out.size))
    go_wp2_with fail
    obtain ⟨q1, q2, q3, q4⟩ := fixed_end HH.out HS4.out HBW4.out HB4.out (HD4l.out.from_ HS0.out.size) (HD4.out.from_ HS0.out.size) _ rfl
    have hRB := (((HB4.out.upd ((Upd.refl (· = gs) w4).setCell (p := ⟨gs, 3, none⟩) (fun _ => rfl) (.pointer (some ⟨w4.heap.size, 0, none⟩))) hne).set_ 0 (.pointer (some ⟨gl, 0, none⟩))).set_ 1 (.pointer (some ⟨gd, 0, none⟩))).alloc (.cells #[.pointer (some ⟨gl, 0, none⟩), .pointer (some ⟨gd, 0, none⟩)] 82)
    exact bodyPost_ret (v := .agg #[.pointer (some ⟨gl, 0, none⟩), .pointer (some ⟨gd, 0, none⟩)]) (results_cell_row rfl _ _ w.heap.size 82 #[.pointer (some ⟨gl, 0, none⟩), .pointer (some ⟨gd, 0, none⟩)] (0, 0) _ rfl hRB Try.underlying82 rfl codes_info) rfl ⟨gl, gd, rfl, q3, q4, q1.strm, q2⟩
  · have F1 := Lib.hid (f1.alloc (.cells #[.pointer none, .pointer none] 82))
    have F2 := Lib.hid f2
    have F3 := Lib.hid f3
    have c0 := (F1.out.cell 0).trans rfl
    have c1 := (F1.out.cell 1).trans rfl
    clear h f1 f2 f3
    go_enter Try.func37, Try.ntmps37
    go_wp2_with fail
    go_returns
    have hb : Below w.heap.size w (w.alloc (.cells #[.pointer (some ⟨gl, 0, none⟩), .pointer (some ⟨gd, 0, none⟩)] 82)) := (Below.refl w.heap.size w).alloc (Nat.le_refl _) _
    exact ⟨gl, gd, rfl, F2.out.fresh hb, F3.out.fresh hb, (HH.out.fresh hb).strm, Left.fresh hb hBw⟩
theorem sum_take (l : List Int) (hg : l.any badLen = false) (k : Nat) (hk : k ≤ l.length) : 0 ≤ (l.take k).sum ∧ (l.take k).sum ≤ 16 * (k : Int) := by
  induction k with
  | zero => simp
  | succ k ih =>
    have h1 := ih (by omega)
    have h2 := good_len l hg k (by omega)
    rw [List.take_succ_eq_append_getElem (by omega), List.sum_append]
    simp
    omega
theorem sum_succ (l : List Int) (k : Nat) (hk : k < l.length) : (l.take (k + 1)).sum = (l.take k).sum + l[k] := by
  rw [List.take_succ_eq_append_getElem hk, List.sum_append]
  simp
/-- Every length may be, and so few that Room answers. -/
theorem mayBe_any (Ai : Option Addr) (ci n : Nat) (l : List Int) (none_ : Bool) (w : World) (hn : l.length = n) (hbs : Is w w.heap.size Ai l) (hl : l.length ≤ 4096) (hg : l.any badLen = false) :
    Calls Try.prog 79 #[.slice Ai n ci, .bool none_] w fun e w' => e = .returned (.bool (mayM l none_)) ∧ w = w' := by
  subst hn
  have hr := room_any Ai ci l w.heap.size w hbs (by unfold maxLen; omega)
  have he : roomErr l = 0 := by unfold roomErr; rw [if_neg (by omega), hg]; rfl
  have ha : roomAns l = roomOf l := by unfold roomAns; rw [if_pos he]
  rw [he, ha] at hr
  have HR := Lib.hid hr
  have HG := Lib.hid hg
  obtain ⟨X, HX⟩ : ∃ X, Hid (mayM l none_ = X) := ⟨_, Lib.hid rfl⟩
  rw [HX.out]
  unfold mayM at HX
  generalize roomOf l = R at *
  clear hg hr he ha
  go_enter Try.func79, Try.ntmps79
  go_wp2_with fail
  refine HR.out.mono ?_
  rintro e w1 ⟨rfl, rfl⟩
  go_wp2_with fail
  refine (must_ok w).mono ?_
  rintro e w1 ⟨rfl, rfl⟩
  go_wp2_with fail
  go_loop [7, 19] (fun a i => ∃ (k : Nat) (s : Int), k ≤ l.length ∧ i = .int .i64 (k : Int) ∧ a = .int .i64 s ∧ Hid (s = (l.take k).sum)) (fun _ i => l.length - (intOf i).toNat)
  case atStart => exact ⟨0, 0, by omega, rfl, rfl, Lib.hid rfl⟩
  case round =>
    obtain ⟨k, s, hk, rfl, rfl, HS⟩ := hrel
    have hsb := sum_take l HG.out k hk
    rw [← HS.out] at hsb
    by_cases hlt : k < l.length
    · obtain ⟨ad, rfl, _, hcx⟩ := Is.at_ hbs hlt
      have hgl := good_len l HG.out k hlt
      have HSS := Lib.hid (sum_succ l k hlt)
      generalize l[k] = x at *
      go_wp2_with fail
      go_round
      case rel => exact ⟨k + 1, s + x, by omega, by go_num, rfl, Lib.hid (by rw [HSS.out, HS.out])⟩
      case measure => simp [intOf]; omega
    · obtain rfl : k = l.length := by omega
      have hs := HS.out
      rw [List.take_length] at hs
      rw [← hs] at HX
      clear hs HS
      by_cases c1 : R = 0
      · have d1 : (R == 0) = true := by rw [beq_iff_eq]; exact c1
        have HX2 : Hid (X = true) := Lib.hid (by rw [← HX.out]; simp [c1])
        clear c1
        go_wp2_with fail
        go_ret
        exact ⟨ret_bl HX2.out.symm, rfl⟩
      · have d1 : (R == 0) = false := by rw [beq_eq_false_iff_ne]; exact c1
        by_cases c2 : s = 1
        · have HX2 : Hid (X = true) := Lib.hid (by rw [← HX.out]; simp [c2])
          subst c2
          clear c1
          go_wp2_with fail
          go_ret
          exact ⟨ret_bl HX2.out.symm, rfl⟩
        · have d2 : (s == 1) = false := by rw [beq_eq_false_iff_ne]; exact c2
          by_cases c3 : s = 0
          · have HX2 : Hid (X = none_) := Lib.hid (by rw [← HX.out]; simp [c1, c3])
            subst c3
            clear c1 c2
            cases none_
            all_goals
              go_wp2_with fail
              go_ret
              exact ⟨ret_bl HX2.out.symm, rfl⟩
          · have d3 : (s == 0) = false := by rw [beq_eq_false_iff_ne]; exact c3
            have HX2 : Hid (X = false) := Lib.hid (by rw [← HX.out]; simp [c1, c2, c3])
            clear c1 c2 c3
            go_wp2_with fail
            go_ret
            exact ⟨ret_bl HX2.out.symm, rfl⟩
theorem taken_sum (l : List Int) (hg : l.any badLen = false) : taken l ≤ 32768 * l.sum := by
  induction l with
  | nil => simp [taken]
  | cons x r ih =>
    rw [List.any_cons, Bool.or_eq_false_iff] at hg
    have h1 := hg.1
    unfold badLen at h1
    rw [Bool.or_eq_false_iff] at h1
    have h2 : ¬ x < 0 := of_decide_eq_false h1.1
    have h3 := ih hg.2
    have e : taken (x :: r) = cost x + taken r := by simp [taken]
    have e2 : (x :: r).sum = x + r.sum := by simp
    rw [e, e2]
    by_cases hx : 0 < x
    · have := cost_le x; omega
    · rw [cost_none x hx]; omega
theorem mayM_room {l : List Int} {none_ : Bool} (hg : l.any badLen = false) (h : mayM l none_ = true) : 0 ≤ roomOf l := by
  have h1 := taken_sum l hg
  unfold mayM at h
  unfold roomOf at *
  simp at h
  omega
theorem goodDecoder_any (Ai : Option Addr) (ci n : Nat) (l : List Int) (none_ : Bool) (w : World) (hn : l.length = n) (hbs : Is w w.heap.size Ai l) (hl : l.length ≤ 4096) (hg : l.any badLen = false) (hm : mayM l none_ = true) :
    Calls Try.prog 65 #[.slice Ai n ci, .bool none_] w fun e w' => ∃ g, e = .returned (.pointer (some ⟨g, 0, none⟩)) ∧ DecAt w' w.heap.size g l ∧ Below w.heap.size w w' := by
  have HM := Lib.hid (mayBe_any Ai ci n l none_ w hn hbs hl hg)
  rw [hm] at HM
  have HD := Lib.hid (decoderOf_any Ai ci n l w hn hbs hl hg (mayM_room hg hm))
  clear hg hm hn
  go_enter Try.func65, Try.ntmps65
  go_wp2_with fail
  refine HM.out.mono ?_
  rintro e w1 ⟨rfl, rfl⟩
  go_wp2_with fail
  refine HD.out.mono ?_
  rintro e w2 ⟨g, rfl, hd, hb⟩
  go_wp2_with fail
  go_ret
  exact ⟨g, rfl, hd, hb⟩
theorem goodDecoder_no (Ai : Option Addr) (ci n : Nat) (l : List Int) (none_ : Bool) (w : World) (hn : l.length = n) (hbs : Is w w.heap.size Ai l) (hl : l.length ≤ 4096) (hg : l.any badLen = false) (hm : mayM l none_ = false) :
    Calls Try.prog 65 #[.slice Ai n ci, .bool none_] w fun e w' => e = gaveUp 41 ∧ w = w' := by
  have HM := Lib.hid (mayBe_any Ai ci n l none_ w hn hbs hl hg)
  rw [hm] at HM
  clear hg hm hn
  go_enter Try.func65, Try.ntmps65
  go_wp2_with fail
  refine HM.out.mono ?_
  rintro e w1 ⟨rfl, rfl⟩
  go_wp2_with fail
  exact ⟨rfl, rfl, rfl⟩
end Go.Proofs.Ythbdhpciibjnmaa
