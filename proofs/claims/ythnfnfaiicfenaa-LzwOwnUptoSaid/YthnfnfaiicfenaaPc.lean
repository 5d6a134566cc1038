/- The packer's methods: put, forget, note. -/
import Derived.Test.YthnfnfaiicfenaaPb
import Derived.Test.YthnfnfaiicfenaaTl
namespace Go.Proofs.Ythnfnfaiicfenaa
open Go.ChangeShapes Go.WideShapes Go.ChangeAt Go.RowKit
open Go.Maps (Keyed)

def nextN (n : Nat) (ahead : Bool) : Nat := if ahead then n + 1 else n
/-- What a method leaves. -/
def DidP (w : World) (N gp gw gm size : Nat) (high : Bool) (early : Nat) (bits : List Bool) (M : List ((Nat × UInt8) × Nat)) (n : Nat) (ahead : Bool) (e : Ending) (w' : World) : Prop :=
  e = .returned (.tuple #[]) ∧ Pck w' N gp gw gm size high early bits M n ahead ∧ Below N w w'
theorem PutAt.upd_ {w w' : World} {base g : Nat} {A : Option Addr} {high : Bool} {bs : List Bool} {len : Nat} (h : PutAt w base g A high bs len w') : Upd (WS g A) w w' := by
  obtain ⟨A', c', l', _, _, _, h4, _⟩ := h
  exact h4
set_option maxHeartbeats 4000000 in
set_option maxRecDepth 100000 in
theorem put_code (w : World) (N gp gw gm size : Nat) (high : Bool) (early : Nat) (bits : List Bool) (M : List ((Nat × UInt8) × Nat)) (n : Nat) (ahead : Bool) (h : Pck w N gp gw gm size high early bits M n ahead) (code : Nat) (hc : code < 65536) (he : early ≤ 1) (hn : n ≤ 60000) (hb : bits.length ≤ 1000000000000) :
    Calls Try.prog 51 #[.pointer (some ⟨gp, 0, none⟩), .int .i64 (code : Int)] w (DidP w N gp gw gm size high early (bits ++ bitsOf high code (wM early n)) M (nextN n ahead) true) := by
  obtain ⟨A, c, l, hw, hp⟩ := h.wr
  have hw12 : wM early n ≤ 12 := by unfold wM; omega
  have c0 := h.c0
  have c1 := h.c1
  have c2 := h.c2
  have c3 := h.c3
  have c5 := h.c5
  have hS : ∀ k, WS gw A k → k ≠ gp := fun k hk e => by
    subst e
    rcases hk with e | e
    · exact Blk.ne_ h.blk hw.1 (by decide) e
    · exact own_blk_ne hw.2.1 h.blk (by decide) (by rw [own_block_sl]; exact e)
  have hfull : Hid (∀ w', Upd (WS gw A) w w' → (Upd (WS gw A) w w' ∧ w'.cell? ⟨gp, 0, none⟩ = some (.int .i64 (size : Int)) ∧ w'.cell? ⟨gp, 1, none⟩ = some (.bool high) ∧ w'.cell? ⟨gp, 2, none⟩ = some (.int .i64 (early : Int)) ∧ w'.cell? ⟨gp, 3, none⟩ = some (.pointer (some ⟨gw, 0, none⟩)) ∧ w'.cell? ⟨gp, 5, none⟩ = some (.int .i64 (n : Int)))) := Lib.hid fun w' hu => by
    have hb := h.blk.upd hu (fun e => hS gp e rfl)
    exact ⟨hu, (hb.cell 0).trans rfl, (hb.cell 1).trans rfl, (hb.cell 2).trans rfl, (hb.cell 3).trans rfl, (hb.cell 5).trans rfl⟩
  have HWd : Hid (∀ w', Calls Try.prog 38 #[.agg #[.int .i64 (size : Int), .bool high, .int .i64 (early : Int)], .int .i64 (n : Int)] w' (AnswersB (wM early n : Nat) w')) := Lib.hid fun w' => width_any size high early n w' (by omega)
  have HPt : Hid (∀ w', Upd No w w' → Calls Try.prog 67 #[.pointer (some ⟨gw, 0, none⟩), .int .u32 (code : Int), .int .i64 ((wM early n : Nat) : Int)] w' (fun e w'' => e = .returned (.int .i64 0) ∧ PutAt w' N gw A high (bits ++ bitsOf high code (wM early n)) (bits.length + wM early n) w'')) := Lib.hid fun w' hu =>
    put_any w' N gw A c l high bits code (wM early n) (hw.upd hu id (fun _ _ => id)) hp (by omega) (by omega) (by omega) (Nat.le_trans h.room hu.size)
  have q1 : IntKind.u32.wrap (code : Int) = (code : Int) := by rw [IntKind.wrap_u32]; omega
  have HFN : Hid (∀ w1 w2, Upd No w w1 → PutAt w1 N gw A high (bits ++ bitsOf high code (wM early n)) (bits.length + wM early n) w2 → Pck w2 N gp gw gm size high early (bits ++ bitsOf high code (wM early n)) M n ahead ∧ Below N w w2) := Lib.hid fun w1 w2 hu hp2 => by
    have h1 := h.fresh hu.fresh
    have e : (bits ++ bitsOf high code (wM early n)).length = bits.length + wM early n := by rw [List.length_append, bitsOf_length]
    obtain ⟨g1, g2⟩ := h1.wrote (hw.upd hu id (fun _ _ => id)) (by rw [e]; exact hp2)
    exact ⟨g1, (hu.fresh.mono h.room).trans g2⟩
  clear h hw hp hS hb
  generalize bits ++ bitsOf high code (wM early n) = bits2 at *
  generalize bits.length + wM early n = bl2 at *
  generalize wM early n = W at *
  go_enter Try.func51, Try.ntmps51
  go_wp2_with fail
  go_region_held3 (fun w' => Upd (WS gw A) w w' ∧ w'.cell? ⟨gp, 0, none⟩ = some (.int .i64 (size : Int)) ∧ w'.cell? ⟨gp, 1, none⟩ = some (.bool high) ∧ w'.cell? ⟨gp, 2, none⟩ = some (.int .i64 (early : Int)) ∧ w'.cell? ⟨gp, 3, none⟩ = some (.pointer (some ⟨gw, 0, none⟩)) ∧ w'.cell? ⟨gp, 5, none⟩ = some (.int .i64 (n : Int)))
    (first | exact hfull.out _ (Upd.refl _ _) | exact hfull.out _ (Upd.refl _ _).drew | exact hfull.out _ (Upd.drew (And.left (by assumption))) | exact hfull.out _ (Upd.mono (by assumption) (fun _ _ e => (e : False).elim)) | exact hfull.out _ (by assumption))
    ((first
      | (go_at_call 38; refine (HWd.out _).mono ?_; rintro e w7 ⟨rfl, hb7⟩; have hN7 : Upd No w w7 := Upd.trans (by first | exact Upd.refl No _ | exact (Upd.refl No _).drew) (Upd.of_fresh hb7))
      | (go_at_call 67; refine (HPt.out _ hN7).mono ?_; rintro e w8 ⟨rfl, hp8⟩; have hU8 : Upd (WS gw A) w w8 := (Upd.mono hN7 (fun _ _ e => (e : False).elim)).trans hp8.upd_)))
  have HPk := HFN.out w7 w8 hN7 hp8
  have HP := Lib.hid HPk.1
  have HB := Lib.hid HPk.2
  clear HPk hU8 hp8 hN7 hb7 HFN HPt HWd hfull c0 c1 c2 c3 c5
  have c5 := HP.out.c5
  have c6 := HP.out.c6
  have k5 := HP.out.blk.frozen 5
  have k6 := HP.out.blk.frozen 6
  cases ahead
  · have HR := Lib.hid (HP.out.setA true)
    have HRB := Lib.hid (HB.out.setCell (p := ⟨gp, 6, none⟩) HP.out.lp (.bool true))
    go_wp2_with fail
    go_end0
    exact ⟨rfl, HR.out, HRB.out⟩
  · have HR := Lib.hid ((HP.out.setN (n + 1)).setA true)
    have HRB := Lib.hid ((HB.out.setCell (p := ⟨gp, 5, none⟩) HP.out.lp (.int .i64 ((n + 1 : Nat) : Int))).setCell (p := ⟨gp, 6, none⟩) HP.out.lp (.bool true))
    go_wp2_with fail
    go_end0
    exact ⟨rfl, HR.out, HRB.out⟩
theorem wpList_clear (w : World) {ops : Array Oper} {rest : List Oper} {o : Oper} {a : Act} {Q : Exit → Act → World → Prop} (hgd : o.guard = none) (m : Operand)
    (ho : o.op = .call { callee := .builtin .clear, args := #[m], argTypes := #[85] }) (gm : Nat) (M : List ((Nat × UInt8) × Nat)) (hm : a.eval m = .map (some gm)) (h : MapOk w gm M)
    (hK : ∀ w', MapOk w' gm [] → Upd (· = gm) w w' → wpList Try.prog ops Q rest (a.put o.dst (.tuple #[])) w') : wpList Try.prog ops Q (o :: rest) a w := by
  refine wpList_plain hgd fun K' hK' => ?_
  obtain ⟨w', hrun, h1, h2⟩ := h.cleared o.type
  unfold Oper.wp execOp
  simp only [ho, resolve, invoke, builtin, Sem.run_bind, Sem.run_pure, Result.andThen_ok, List.map_toArray, List.map_cons, List.map_nil, hm, hrun]
  exact hK' _ _ (hK w' h1 h2)
set_option maxHeartbeats 4000000 in
set_option maxRecDepth 100000 in
theorem forget_any (w : World) (N gp gw gm size : Nat) (high : Bool) (early : Nat) (bits : List Bool) (M : List ((Nat × UInt8) × Nat)) (n : Nat) (ahead : Bool) (h : Pck w N gp gw gm size high early bits M n ahead) (h1 : 2 ≤ size) (h2 : size ≤ 8) (he : early ≤ 1) (hn : n ≤ 60000) (hb : bits.length ≤ 1000000000000) :
    Calls Try.prog 49 #[.pointer (some ⟨gp, 0, none⟩)] w (DidP w N gp gw gm size high early (bits ++ bitsOf high (clr size) (wM early n)) [] (clr size + 2) false) := by
  have hcl := clr_le h1 h2
  have c0 := h.c0
  have c1 := h.c1
  have c2 := h.c2
  have H0 := Lib.hid h
  clear h
  go_enter Try.func49, Try.ntmps49
  go_wp2_with fail
  refine (clear_any size high early _ h1 h2).mono ?_
  rintro e w1 ⟨rfl, hb1⟩
  have HPt := Lib.hid (put_code w1 N gp gw gm size high early bits M n ahead (H0.out.fresh hb1) (clr size) (by omega) he hn hb)
  have HB1 := Lib.hid (hb1.mono H0.out.room)
  clear hb1 H0 c0 c1 c2
  generalize bits ++ bitsOf high (clr size) (wM early n) = bits2 at *
  go_wp2_with fail
  refine HPt.out.mono ?_
  rintro e w2 ⟨rfl, hp2, hb2⟩
  have HP2 := Lib.hid hp2
  have HB2 := Lib.hid (HB1.out.trans hb2)
  clear hp2 hb2 HPt HB1
  have c4 := HP2.out.c4
  go_wp2_with (refine wpList_clear _ rfl (.tmp 12) rfl gm M rfl HP2.out.map ?_; intro w3 hm3 hu3; have HP3 := Lib.hid (HP2.out.turn hu3 hm3); have HB3 := Lib.hid (HB2.out.trans (hu3.below HP2.out.room (fun k hk e => (by have := HP2.out.lm; omega)))); have c0 := HP3.out.c0; have c1 := HP3.out.c1; have c2 := HP3.out.c2)
  refine (first_any size high early _ h1 h2).mono ?_
  rintro e w4 ⟨rfl, hb4⟩
  have HP4 := Lib.hid (HP3.out.fresh hb4)
  have HB4 := Lib.hid (HB3.out.trans (hb4.mono HP3.out.room))
  clear hb4 HP3 HB3 HP2 HB2 c0 c1 c2 c4 hm3 hu3
  have c5 := HP4.out.c5
  have c6 := HP4.out.c6
  have k5 := HP4.out.blk.frozen 5
  have k6 := HP4.out.blk.frozen 6
  have HR := Lib.hid ((HP4.out.setN (clr size + 2)).setA false)
  have HRB := Lib.hid ((HB4.out.setCell (p := ⟨gp, 5, none⟩) HP4.out.lp (.int .i64 ((clr size + 2 : Nat) : Int))).setCell (p := ⟨gp, 6, none⟩) HP4.out.lp (.bool false))
  go_wp2_with fail
  go_end0
  exact ⟨rfl, HR.out, HRB.out⟩
set_option maxHeartbeats 4000000 in
set_option maxRecDepth 100000 in
theorem note_full (w : World) (N gp gw gm size : Nat) (high : Bool) (early : Nat) (bits : List Bool) (M : List ((Nat × UInt8) × Nat)) (n : Nat) (ahead : Bool) (h : Pck w N gp gw gm size high early bits M n ahead) (h1 : 2 ≤ size) (h2 : size ≤ 8) (he : early ≤ 1) (hn : n = 4094) (hb : bits.length ≤ 1000000000000) (c : Nat) (x : UInt8) :
    Calls Try.prog 52 #[.pointer (some ⟨gp, 0, none⟩), .agg #[.int .i64 (c : Int), .int .u8 (x.toNat : Int)]] w (DidP w N gp gw gm size high early (bits ++ bitsOf high (clr size) (wM early n)) [] (clr size + 2) false) := by
  have c5 := h.c5
  have d1 : ((n : Int) == 4094) = true := by simp; omega
  have hlt := h.blk.lt
  have hb1 := (Below.refl w.heap.size w).alloc (Nat.le_refl _) (.cells #[.int .i64 (c : Int), .int .u8 (x.toNat : Int)] 92)
  have HF := Lib.hid (forget_any (w.alloc (.cells #[.int .i64 (c : Int), .int .u8 (x.toNat : Int)] 92)) N gp gw gm size high early bits M n ahead (h.fresh hb1) h1 h2 he (by omega) hb)
  have HB := Lib.hid (hb1.mono h.room)
  clear h hn hb1
  generalize bits ++ bitsOf high (clr size) (wM early n) = bits2 at *
  go_enter Try.func52, Try.ntmps52
  go_wp2_with fail
  refine HF.out.mono ?_
  rintro e w2 ⟨rfl, hp2, hb2⟩
  have HP := Lib.hid hp2
  have HB2 := Lib.hid (HB.out.trans hb2)
  clear hp2 hb2 HF HB
  go_wp2_with fail
  go_end0
  exact ⟨rfl, HP.out, HB2.out⟩
set_option maxHeartbeats 4000000 in
set_option maxRecDepth 100000 in
theorem note_more (w : World) (N gp gw gm size : Nat) (high : Bool) (early : Nat) (bits : List Bool) (M : List ((Nat × UInt8) × Nat)) (n : Nat) (ahead : Bool) (h : Pck w N gp gw gm size high early bits M n ahead) (hn : n ≠ 4094) (hn2 : n ≤ 60000) (hM : M.length ≤ 1000000000000) (c : Nat) (x : UInt8) (hc : c < 65536) :
    Calls Try.prog 52 #[.pointer (some ⟨gp, 0, none⟩), .agg #[.int .i64 (c : Int), .int .u8 (x.toNat : Int)]] w (DidP w N gp gw gm size high early bits (((c, x), n) :: M) n ahead) := by
  have d1 : ((n : Int) == 4094) = false := by simp; omega
  have hlt := h.blk.lt
  have hb1 := (Below.refl w.heap.size w).alloc (Nat.le_refl _) (.cells #[.int .i64 (c : Int), .int .u8 (x.toNat : Int)] 92)
  have HP := Lib.hid (h.fresh hb1)
  have HB := Lib.hid (hb1.mono h.room)
  have c5 := h.c5
  have c4 := h.c4
  clear h hn hb1
  obtain ⟨kl, hkl⟩ := key_of c x hc
  have HK := Lib.hid hkl
  clear hkl
  go_enter Try.func52, Try.ntmps52
  go_wp2_with fail
  refine wp_region_tail 9 (by kernel_rfl) (by kernel_rfl) ?_
  simp only [List.take_succ_cons, List.take_zero, List.drop_succ_cons, List.drop_zero]
  repeat (go_big_quiet_step (fail))
  refine wpQuiet_nil ?_
  obtain ⟨D, nn, ho, m1, m2, m3⟩ := HP.out.map
  have HO := Lib.hid ho
  have HM3 := Lib.hid m3
  have HM1 := Lib.hid m1
  clear ho m3 m1
  have hnn : nn < maxLen := by unfold maxLen; omega
  have hwf : (Lit.int .i64 (n : Int)).wf = true := WalkArith.wf_i64 (by omega)
  go_wp2_with (at_mapUpdate; refine wpList_mapUpdate_own _ rfl (.tmp 14) (.tmp 15) (.tmp 19) 85 rfl 92 3 key_law Try.underlying85 (plainElem Try.prog 3) gm nn D rfl HO.out hnn (keyV c x) (.int .i64 (n : Int)) kl rfl rfl HK.out (.lit (.int .i64 (n : Int))) [] (plainElem_int Try.underlying3 hwf) ?_; intro w1 hown1 hg1)
  go_end0
  have hm := MapOk.put HM1.out m2 HM3.out HK.out hown1
  have hu : Upd (· = gm) (w.alloc (.cells #[.int .i64 (c : Int), .int .u8 (x.toNat : Int)] 92)).drew w1 := (Upd.of_grown hg1).mono (fun k _ e => by injection e)
  have hp := (HP.out.fresh (Below.refl _ _).drew).turn hu hm
  exact ⟨rfl, hp, (HB.out.drew).trans (hu.below HP.out.room (fun k hk e => by have := HP.out.lm; omega))⟩
end Go.Proofs.Ythnfnfaiicfenaa
