/- Joined texts (a claim has at most 60 files). -/
import Derived.Test.YthbdhpciibjnmaaDd
import Derived.Deep.LoopGhost
import Derived.Deep.CutBlock
/- The document's reader of deflated bytes, sixth part: a frame whose row is written, a stored block. -/
namespace Go.Proofs.Ythbdhpciibjnmaa
open Go.ChangeShapes Go.WideShapes Go.ChangeAt Go.RowKit

theorem results_cell0 {P : Program} {fn : Func} {p : Tmp} {ty : TypeId} (h : fn.results = #[.cell p ty]) (tmps : Array Value) (w : World) (g : Nat) (t : TypeId) (cs : Array Value) (d : TypeDesc)
    (hp : tmps.getD p undef = .pointer (some ⟨g, 0, none⟩)) (hg : Blk w g t cs)
    (hu : P.underlying ty = some d) (hd : (match d with | .struct _ | .array _ _ => true | _ => false) = true) (hi : (P.info? ty).map (·.size) = some cs.size) :
    (results fn tmps).run P w = .ok (.agg cs) w := by
  have hp' : tmps[p]?.getD undef = .pointer (some ⟨g, 0, none⟩) := by simpa using hp
  have hr := run_loadVar_row (P := P) w g t ty cs (0, 0) d hg hu hd hi
  simp [results, h, hp', asAddr, hr]
theorem updAny {P : Nat → Prop} {w w' : World} (h : Below w.heap.size w w') : Upd P w w' := (Upd.of_fresh h).mono fun _ _ k => absurd k id
/-- A frame within which blocks of P are written too. -/
structure FrG (w : World) (P : Nat → Prop) (g z : Nat) (S Z : Array Value) (w' : World) : Prop where
  box : Blk w' g 53 S
  res : Blk w' z 53 Z
  ne : g ≠ z
  lo : w.heap.size ≤ g
  lo2 : w.heap.size ≤ z
  up : Upd P w w'
section
variable {w w1 w2 : World} {P : Nat → Prop} {g z : Nat} {S Z : Array Value} {ops : Array Oper} {rest : List Oper} {o : Oper} {a : Act} {Q : Exit → Act → World → Prop}
theorem FrG.of (h : FrS w g z S Z w1) (P : Nat → Prop) : FrG w P g z S Z w1 := ⟨h.box, h.res, h.ne, h.lo, h.lo2, updAny h.bel⟩
theorem FrG.call (h : FrG w P g z S Z w1) (hb : Below w1.heap.size w1 w2) : FrG w P g z S Z w2 :=
  ⟨h.box.upd (Upd.of_fresh hb) id, h.res.upd (Upd.of_fresh hb) id, h.ne, h.lo, h.lo2, h.up.then (Upd.of_fresh hb) (fun _ _ k => absurd k id)⟩
theorem FrG.alloc (h : FrG w P g z S Z w1) (o : Obj) : FrG w P g z S Z (w1.alloc o) := h.call ((Below.refl _ _).alloc (Nat.le_refl _) o)
theorem FrG.set_ (h : FrG w P g z S Z w1) (i : Nat) (v : Value) : FrG w P g z (S.setIfInBounds i v) Z (w1.setCell ⟨g, i, none⟩ v) :=
  ⟨h.box.set_ i v, h.res.upd ((Upd.refl (· = g) w1).setCell (p := ⟨g, i, none⟩) (fun _ => rfl) v) (fun e => h.ne e.symm), h.ne, h.lo, h.lo2, h.up.setCell (p := ⟨g, i, none⟩) (fun k => absurd k (Nat.not_lt.2 h.lo)) v⟩
/-- A row of bytes of the call's own grows. -/
theorem FrG.grow {B n : Nat} {v : Value} {xs : List Value} (h : FrG w P g z S Z w1) (hO : w1.ownsRow B 5 1 v n xs) (hP : ∀ k, v.ownBlock = some k → P k ∨ w.heap.size ≤ k) (hg : w1.grownBy w2 v.ownBlock) : FrG w P g z S Z w2 := by
  have hu : Upd (fun k => some k = v.ownBlock) w1 w2 := Upd.of_grown hg
  exact ⟨h.box.upd hu (fun e => own_blk_ne hO h.box (by decide) e.symm), h.res.upd hu (fun e => own_blk_ne hO h.res (by decide) e.symm), h.ne, h.lo, h.lo2, h.up.then hu (fun i hi e => (hP i e.symm).resolve_right (by omega))⟩
theorem FrG.ld (h : FrG w P g z S Z w1) (hs : S.size = 6) (hgd : o.guard = none) (x : Operand) (ho : o.op = .load 53 x) (hx : a.eval x = .pointer (some ⟨g, 0, none⟩))
    (k : wpList Try.prog ops Q rest (a.put o.dst (.agg S)) w1) : wpList Try.prog ops Q (o :: rest) a w1 :=
  wpList_load_row hgd 53 x ho g hx 53 S (0, 0) _ h.box Try.underlying53 rfl (by rw [hs]; exact st_info) k
theorem FrG.st (h : FrG w P g z S Z w1) (hs : S.size = 6) (hgd : o.guard = none) (x y : Operand) (ho : o.op = .store 53 x y) (hx : a.eval x = .pointer (some ⟨g, 0, none⟩)) {S' : Array Value} (hy : a.eval y = .agg S')
    (hs' : S'.size = 6) (h1 : S'.all (·.oneCell') = true) (k : ∀ w2, FrG w P g z S' Z w2 → Upd (· = g) w1 w2 → wpList Try.prog ops Q rest (a.put o.dst undef) w2) : wpList Try.prog ops Q (o :: rest) a w1 :=
  wpB_store hgd 53 x y ho g S' hx hy 53 S h.box (by rw [hs']; exact st_info) (by rw [hs, hs']) h1 fun w2 hb hu =>
    k w2 ⟨hb, h.res.upd hu (fun e => h.ne e.symm), h.ne, h.lo, h.lo2, h.up.then hu (fun i hi e => absurd h.lo (by omega))⟩ hu
theorem FrG.stZ (h : FrG w P g z S Z w1) (hs : Z.size = 6) (hgd : o.guard = none) (x y : Operand) (ho : o.op = .store 53 x y) (hx : a.eval x = .pointer (some ⟨z, 0, none⟩)) {S' : Array Value} (hy : a.eval y = .agg S')
    (hs' : S'.size = 6) (h1 : S'.all (·.oneCell') = true) (k : ∀ w2, FrG w P g z S S' w2 → Upd (· = z) w1 w2 → wpList Try.prog ops Q rest (a.put o.dst undef) w2) : wpList Try.prog ops Q (o :: rest) a w1 :=
  wpB_store hgd 53 x y ho z S' hx hy 53 Z h.res (by rw [hs']; exact st_info) (by rw [hs, hs']) h1 fun w2 hb hu =>
    k w2 ⟨h.box.upd hu (fun e => h.ne e), hb, h.ne, h.lo, h.lo2, h.up.then hu (fun i hi e => absurd h.lo2 (by omega))⟩ hu
end
/-- A state answered whose row has grown, or an error. -/
def DOut (w : World) (B : Nat) (A : Option Addr) (n c most : Nat) (v : Value) (x : Except Nat (Nat × List UInt8)) (e : Ending) (w' : World) : Prop :=
  match x with
  | .error k => (∃ p Ao m co, e = .returned (.agg (stA A n c p Ao m co most k))) ∧ Upd (fun k => some k = v.ownBlock) w w'
  | .ok (q, out) => ∃ Ao m co, e = .returned (.agg (stA A n c q Ao m co most 0)) ∧ out.length = m ∧ w'.ownsRow B 5 1 (.slice Ao m co) m (bytesV out) ∧
      (∀ k, (Value.slice Ao m co).ownBlock = some k → v.ownBlock = some k ∨ w.heap.size ≤ k) ∧ Upd (fun k => some k = v.ownBlock) w w'
theorem FrS.c34 {w w1 : World} {g z : Nat} {A : Option Addr} {n c p : Nat} {Ao : Option Addr} {m co most E : Nat} {Z : Array Value} (h : FrS w g z (stA A n c p Ao m co most E) Z w1) : w1.cell? ⟨g, 3, none⟩ = some (.slice Ao m co) ∧ w1.cell? ⟨g, 4, none⟩ = some (.int .i64 (most : Int)) := ⟨h.box.cell 3, h.box.cell 4⟩
set_option maxHeartbeats 8000000 in
set_option maxRecDepth 100000 in
theorem dStored (w : World) (B : Nat) (A : Option Addr) (c : Nat) (b : List UInt8) (p : Nat) (Ao : Option Addr) (m co most : Nat) (out : List UInt8) (hbs : Bs w w.heap.size A b) (hbl : b.length ≤ 140737488355328) (hc : b.length ≤ c) (hcm : c ≤ maxLen) (hp1 : p ≤ 8 * b.length)
    (hB : B ≤ w.heap.size) (hout : out.length = m) (ho : w.ownsRow B 5 1 (.slice Ao m co) m (bytesV out)) (hm : m ≤ most) (hmost : most ≤ 9223372036854775807) (hsz : m ≤ 140737488000000) :
    Calls Try.prog 22 #[.agg (stA A b.length c p Ao m co most 0)] w (DOut w B A b.length c most (.slice Ao m co) (storedM b most p out)) := by
  obtain ⟨i0, hi, hz0, hz1, hz2⟩ := info_parts info_u8
  obtain ⟨X, HX⟩ : ∃ X, Hid (storedM b most p out = X) := ⟨_, Lib.hid rfl⟩
  rw [HX.out]
  have hx := HX.out
  unfold storedM at hx
  have HF0 := Lib.hid (FrS.start w (stA A b.length c p Ao m co most 0))
  have HBS := Lib.hid hbs
  have HO := Lib.hid ho
  have HC := Lib.hid hc
  have HCM := Lib.hid hcm
  have HOL := Lib.hid hout
  have HAL := Lib.hid (refAlign_any A b.length c false p ((w.alloc (.cells (stA A b.length c p Ao m co most 0) 53)).alloc (.cells st0 53)) hp1 hbl)
  obtain ⟨pa, hpa⟩ : ∃ pa, (p + 7) / 8 * 8 = pa := ⟨_, rfl⟩
  have hp2 : pa ≤ 8 * b.length := by omega
  rw [hpa] at hx HAL
  rw [hout] at hx
  clear hbs HX ho hc hcm hout hpa
  go_enter Try.func22, Try.ntmps22
  go_wp2_with (first
    | ((with_reducible refine at_ld 51 8 ?_); refine HF0.out.ldR rfl (.tmp 8) rfl rfl ?_))
  refine HAL.out.mono ?_
  rintro e w1 ⟨rfl, hb⟩
  have HF1 := Lib.hid (HF0.out.call hb)
  clear hb HAL
  go_wp2_with (first
    | ((with_reducible refine at_st 51 11 10 ?_); refine FrS.stR HF1.out rfl (.tmp 11) (.tmp 10) rfl rfl rfl (rd_one _ _ _ _ _) ?_; intro w2 hF2 _; have HF2 : Hid (FrS w w.heap.size (w.heap.size + 1) (stA A b.length c pa Ao m co most 0) st0 w2) := Lib.hid hF2; clear hF2)
    | ((with_reducible refine at_ld 53 1 ?_); refine HF2.out.ld rfl rfl (.tmp 1) rfl rfl ?_))
  have HBS2 := Lib.hid ((HBS.out.below HF2.out.bel).more HF2.out.bel.size)
  have HT1 := Lib.hid (dTake w2 A c b pa Ao m co most HBS2.out hbl hp2 16 (by omega))
  rcases hx1 : takeM b pa 16 with ke | ⟨y1, q1⟩
  · rw [hx1] at HT1 hx
    have hke := takeM_err hx1
    have HXE : Hid (X = .error ke) := Lib.hid hx.symm
    have d2 : ((ke : Int) != 0) = true := by rw [bne_iff_ne]; omega
    clear hx1 hx hke
    refine HT1.out.mono ?_
    rintro e wc ⟨⟨pe, rfl⟩, hb⟩
    have HF3 := Lib.hid (HF2.out.call hb)
    clear hb HT1
    go_wp2_with (first
      | ((with_reducible refine at_st 53 1 15 ?_); refine HF3.out.st rfl rfl (.tmp 1) (.tmp 15) rfl rfl rfl rfl (st_oneA _ _ _ _ _ _ _ _ _) ?_; intro w4 hF4 _; have HF4 := Lib.hid hF4; have c5 := hF4.err; clear hF4)
      | ((with_reducible refine at_ld 53 1 ?_); refine HF4.out.ld rfl rfl (.tmp 1) rfl rfl ?_)
      | ((with_reducible refine at_st 53 2 20 ?_); refine HF4.out.stZ rfl rfl (.tmp 2) (.tmp 20) rfl rfl rfl rfl (st_oneA _ _ _ _ _ _ _ _ _) ?_; intro w9 hF9; have HF9 := Lib.hid hF9; clear hF9))
    rw [HXE.out]
    exact bodyPost_ret (v := .agg _) (results_cell0 rfl _ _ (w.heap.size + 1) 53 _ _ rfl HF9.out.res Try.underlying53 rfl st_info) rfl ⟨⟨_, _, _, _, rfl⟩, updAny HF9.out.bel⟩
  · rw [hx1] at HT1 hx
    dsimp only at hx
    obtain ⟨hy1, hqe1, hq1⟩ := takeM_ok hx1
    clear hx1 hqe1
    refine HT1.out.mono ?_
    rintro e wc ⟨rfl, hb⟩
    have HF3 := Lib.hid (HF2.out.call hb)
    clear hb HT1 HBS2
    go_wp2_with (first
      | ((with_reducible refine at_st 53 1 15 ?_); refine HF3.out.st rfl rfl (.tmp 1) (.tmp 15) rfl rfl rfl rfl (st_oneA _ _ _ _ _ _ _ _ _) ?_; intro w4 hF4 _; have HF4 := Lib.hid hF4; have c5 := hF4.err; clear hF4)
      | ((with_reducible refine at_ld 53 1 ?_); refine HF4.out.ld rfl rfl (.tmp 1) rfl rfl ?_))
    have HBS4 := Lib.hid ((HBS.out.below HF4.out.bel).more HF4.out.bel.size)
    have HT2 := Lib.hid (dTake w4 A c b q1 Ao m co most HBS4.out hbl hq1 16 (by omega))
    rcases hx2 : takeM b q1 16 with ke | ⟨y2, q2⟩
    · rw [hx2] at HT2 hx
      have hke := takeM_err hx2
      have HXE : Hid (X = .error ke) := Lib.hid hx.symm
      have d2 : ((ke : Int) != 0) = true := by rw [bne_iff_ne]; omega
      clear hx2 hx hke
      refine HT2.out.mono ?_
      rintro e wc ⟨⟨pe, rfl⟩, hb⟩
      have HF5 := Lib.hid (HF4.out.call hb)
      clear hb HT2 c5
      go_wp2_with (first
        | ((with_reducible refine at_st 53 1 24 ?_); refine HF5.out.st rfl rfl (.tmp 1) (.tmp 24) rfl rfl rfl rfl (st_oneA _ _ _ _ _ _ _ _ _) ?_; intro w6 hF6 _; have HF6 := Lib.hid hF6; have c5 := hF6.err; clear hF6)
        | ((with_reducible refine at_ld 53 1 ?_); refine HF6.out.ld rfl rfl (.tmp 1) rfl rfl ?_)
        | ((with_reducible refine at_st 53 2 29 ?_); refine HF6.out.stZ rfl rfl (.tmp 2) (.tmp 29) rfl rfl rfl rfl (st_oneA _ _ _ _ _ _ _ _ _) ?_; intro w9 hF9; have HF9 := Lib.hid hF9; clear hF9))
      rw [HXE.out]
      exact bodyPost_ret (v := .agg _) (results_cell0 rfl _ _ (w.heap.size + 1) 53 _ _ rfl HF9.out.res Try.underlying53 rfl st_info) rfl ⟨⟨_, _, _, _, rfl⟩, updAny HF9.out.bel⟩
    · rw [hx2] at HT2 hx
      dsimp only at hx
      obtain ⟨hy2, hqe2, hq2⟩ := takeM_ok hx2
      clear hx2 hqe2
      refine HT2.out.mono ?_
      rintro e wc ⟨rfl, hb⟩
      have HF5 := Lib.hid (HF4.out.call hb)
      clear hb HT2 HBS4 c5
      have hy1' : y1 < 65536 := hy1
      have hy2' : y2 < 65536 := hy2
      clear hy1 hy2
      by_cases hbad : y2 + y1 ≠ 65535
      · rw [if_pos hbad] at hx
        have HXE : Hid (X = .error 40) := Lib.hid hx.symm
        have d1 : ((y2 : Int) != 65535 - (y1 : Int)) = true := by rw [bne_iff_ne]; omega
        clear hx hbad
        go_wp2_with (first
          | ((with_reducible refine at_st 53 1 24 ?_); refine HF5.out.st rfl rfl (.tmp 1) (.tmp 24) rfl rfl rfl rfl (st_oneA _ _ _ _ _ _ _ _ _) ?_; intro w6 hF6 _; have HF6 := Lib.hid hF6; have HF7 := Lib.hid (hF6.setE 40); have c5 := hF6.err; have c5f := hF6.box.frozen 5; clear hF6)
          | ((with_reducible refine at_ld 53 1 ?_); refine HF7.out.ld rfl rfl (.tmp 1) rfl rfl ?_)
          | ((with_reducible refine at_st 53 2 35 ?_); refine HF7.out.stZ rfl rfl (.tmp 2) (.tmp 35) rfl rfl rfl rfl (st_oneA _ _ _ _ _ _ _ _ _) ?_; intro w9 hF9; have HF9 := Lib.hid hF9; clear hF9))
        rw [HXE.out]
        exact bodyPost_ret (v := .agg _) (results_cell0 rfl _ _ (w.heap.size + 1) 53 _ _ rfl HF9.out.res Try.underlying53 rfl st_info) rfl ⟨⟨_, _, _, _, rfl⟩, updAny HF9.out.bel⟩
      rw [if_neg hbad] at hx
      have d1 : ((y2 : Int) != 65535 - (y1 : Int)) = false := by simp; omega
      by_cases hlong : most - m < y1
      · rw [if_pos hlong] at hx
        have HXE : Hid (X = .error 3) := Lib.hid hx.symm
        have d2 : decide ((most : Int) - (m : Int) < (y1 : Int)) = true := by simp; omega
        clear hx hbad hlong
        go_wp2_with (first
          | ((with_reducible refine at_st 53 1 24 ?_); refine HF5.out.st rfl rfl (.tmp 1) (.tmp 24) rfl rfl rfl rfl (st_oneA _ _ _ _ _ _ _ _ _) ?_; intro w6 hF6 _; have HF6 := Lib.hid hF6; have HF7 := Lib.hid (hF6.setE 3); have c5 := hF6.err; have c5f := hF6.box.frozen 5; obtain ⟨c3, c4⟩ := hF6.c34; clear hF6)
          | ((with_reducible refine at_ld 53 1 ?_); refine HF7.out.ld rfl rfl (.tmp 1) rfl rfl ?_)
          | ((with_reducible refine at_st 53 2 45 ?_); refine HF7.out.stZ rfl rfl (.tmp 2) (.tmp 45) rfl rfl rfl rfl (st_oneA _ _ _ _ _ _ _ _ _) ?_; intro w9 hF9; have HF9 := Lib.hid hF9; clear hF9))
        rw [HXE.out]
        exact bodyPost_ret (v := .agg _) (results_cell0 rfl _ _ (w.heap.size + 1) 53 _ _ rfl HF9.out.res Try.underlying53 rfl st_info) rfl ⟨⟨_, _, _, _, rfl⟩, updAny HF9.out.bel⟩
      rw [if_neg hlong] at hx
      have d2 : decide ((most : Int) - (m : Int) < (y1 : Int)) = false := by simp; omega
      clear hbad hlong
      have HX2 := Lib.hid hx
      clear hx
      go_wp2_with (first
        | ((with_reducible refine at_st 53 1 24 ?_); refine HF5.out.st rfl rfl (.tmp 1) (.tmp 24) rfl rfl rfl rfl (st_oneA _ _ _ _ _ _ _ _ _) ?_; intro w6 hF6 _; have HF6 := Lib.hid hF6; have c5 := hF6.err; obtain ⟨c3, c4⟩ := hF6.c34; clear hF6)
        | ((with_reducible refine at_ld 51 47 ?_); refine HF6.out.ldR rfl (.tmp 47) rfl rfl ?_))
      clear c5 c3 c4 d1 d2
      have hx := HX2.out
      by_cases hend : b.length < (q2 + 7) / 8 + y1
      · rw [if_pos hend] at hx
        have HXE : Hid (X = .error 5) := Lib.hid hx.symm
        refine (refBytes_end A b.length c false q2 (y1 : Int) w6 hq2 hbl (by omega) (by omega)).mono ?_
        rintro e w7 ⟨rfl, hb⟩
        have HF7 := Lib.hid ((HF6.out.call hb).alloc (.cells #[.slice A b.length c, .bool false, .int .i64 (q2 : Int)] 51))
        have HF8 := Lib.hid (HF7.out.setE 5)
        have c5 := HF7.out.err
        have c5f := HF7.out.box.frozen 5
        clear hb hx hend HX2
        go_wp2_with (first
          | ((with_reducible refine at_ld 53 1 ?_); refine HF8.out.ld rfl rfl (.tmp 1) rfl rfl ?_)
          | ((with_reducible refine at_st 53 2 57 ?_); refine HF8.out.stZ rfl rfl (.tmp 2) (.tmp 57) rfl rfl rfl rfl (st_oneA _ _ _ _ _ _ _ _ _) ?_; intro w9 hF9; have HF9 := Lib.hid hF9; clear hF9))
        rw [HXE.out]
        exact bodyPost_ret (v := .agg _) (results_cell0 rfl _ _ (w.heap.size + 1) 53 _ _ rfl HF9.out.res Try.underlying53 rfl st_info) rfl ⟨⟨_, _, _, _, rfl⟩, updAny HF9.out.bel⟩
      · rw [if_neg hend] at hx
        have HBY := Lib.hid (refBytes_ok A c b false q2 y1 w6 ((HBS.out.below HF6.out.bel).more HF6.out.bel.size) hbl HC.out HCM.out (by omega) hq2)
        have hl2 : ((b.drop ((q2 + 7) / 8)).take y1).length = y1 := by rw [List.length_take, List.length_drop]; omega
        generalize (b.drop ((q2 + 7) / 8)).take y1 = l2 at hx hl2 HBY
        obtain ⟨qn, hqn⟩ : ∃ qn, 8 * ((q2 + 7) / 8 + y1) = qn := ⟨_, rfl⟩
        rw [hqn] at hx HBY
        have HXE : Hid (X = .ok (qn, out ++ l2)) := Lib.hid hx.symm
        have HL2 := Lib.hid hl2
        have hqb : qn ≤ 8 * b.length := by omega
        clear hx hend HX2 hqn hl2
        refine HBY.out.mono ?_
        rintro e w7 ⟨A7, c7, rfl, ho7, hb⟩
        have HF7 := Lib.hid ((HF6.out.call hb).alloc (.cells #[.slice A b.length c, .bool false, .int .i64 (qn : Int)] 51))
        have HR7 := Lib.hid (ho7.alloc (.cells #[.slice A b.length c, .bool false, .int .i64 (qn : Int)] 51))
        have HO7 := Lib.hid (own_upd HO.out (Upd.of_fresh HF7.out.bel) (fun _ _ => id))
        clear hb ho7 HBY
        have hm63 : m + y1 ≤ maxLen := by unfold maxLen; omega
        have hm47 : (m + y1) * 1 ≤ 140737488355328 := by omega
        go_wp2_with (first
          | ((with_reducible refine at_st 51 59 58 ?_); refine FrS.stR HF7.out rfl (.tmp 59) (.tmp 58) rfl rfl rfl (rd_one _ _ _ _ _) ?_; intro w8 hF8 hu8;
             have HF8 : Hid (FrS w w.heap.size (w.heap.size + 1) (stA A b.length c qn Ao m co most 0) st0 w8) := Lib.hid hF8;
             have HO8 := Lib.hid (own_upd HO7.out hu8 (fun k hk e => by subst e; exact own_blk_ne HO7.out HF7.out.box (by decide) hk));
             have HR8 := Lib.hid (own_upd HR7.out hu8 (fun k hk e => by subst e; exact own_blk_ne HR7.out HF7.out.box (by decide) hk));
             have hB8 : B ≤ w8.heap.size := Nat.le_trans hB HF8.out.bel.size;
             obtain ⟨c3, c4⟩ := HF8.out.c34; clear hF8 hu8)
          | (at_builtin
             have h1 : (bytesV l2).length = y1 := by rw [bytesV_length]; exact HL2.out
             have h2 : Vs w8 w8.heap.size A7 (bytesV l2) := Vs.of_own HR8.out
             have h3 := bytesV_oneCell l2
             have h4 := HO8.out
             refine wpList_append_vs _ rfl (.tmp 61) (.tmp 62) _ rfl B 5 i0 (.int .u8 0) 1 Try.underlying22 hi hz0 hz1 hz2 rfl (.slice Ao m co) m (bytesV out) rfl h4 w8.heap.size A7 y1 c7 (bytesV l2) h1 rfl h2 h3 hm63 hm47 hB8 ?_
             clear h1 h2 h3 h4
             intro A9 c9 w9 o9 hg9 ob9;
             have HG9 := Lib.hid ((FrG.of HF8.out (fun k => some k = (Value.slice Ao m co).ownBlock)).grow HO8.out (fun k hk => .inl hk.symm) hg9);
             have HGa : Hid (FrG w (fun k => some k = (Value.slice Ao m co).ownBlock) w.heap.size (w.heap.size + 1) (stA A b.length c qn A9 (m + y1) c9 most 0) st0 (w9.setCell ⟨w.heap.size, 3, none⟩ (.slice A9 (m + y1) c9))) := Lib.hid (HG9.out.set_ 3 (.slice A9 (m + y1) c9));
             have c3' : w9.cell? ⟨w.heap.size, 3, none⟩ = some (.slice Ao m co) := HG9.out.box.cell 3;
             have c3f := HG9.out.box.frozen 3;
             have HOa := Lib.hid (own_upd o9 ((Upd.refl (· = w.heap.size) w9).setCell (p := ⟨w.heap.size, 3, none⟩) (fun _ => rfl) (.slice A9 (m + y1) c9)) (fun k hk e => by subst e; exact own_blk_ne o9 HG9.out.box (by decide) hk));
             have HOB := Lib.hid ob9; clear o9 hg9 ob9)
          | ((with_reducible refine at_ld 53 1 ?_); refine HGa.out.ld rfl rfl (.tmp 1) rfl rfl ?_)
          | ((with_reducible refine at_st 53 2 65 ?_); refine HGa.out.stZ rfl rfl (.tmp 2) (.tmp 65) rfl rfl rfl rfl (st_oneA _ _ _ _ _ _ _ _ _) ?_; intro w10 hF10 hu10; have HF10 := Lib.hid hF10; have HOz := Lib.hid (own_upd HOa.out hu10 (fun k hk e => by subst e; exact own_blk_ne HOa.out HGa.out.res (by decide) hk)); clear hF10 hu10))
        rw [HXE.out]
        refine bodyPost_ret (v := .agg _) (results_cell0 rfl _ _ (w.heap.size + 1) 53 _ _ rfl HF10.out.res Try.underlying53 rfl st_info) rfl ⟨_, _, _, rfl, by rw [List.length_append, HOL.out, HL2.out], by rw [bytesV_append]; exact HOz.out, fun k hk => ?_, HF10.out.up⟩
        rcases HOB.out with h | h
        · exact .inl (h ▸ hk)
        · refine .inr ?_
          rw [h] at hk
          have := HF8.out.bel.size
          injection hk
          omega
end Go.Proofs.Ythbdhpciibjnmaa

/- The document's reader of deflated bytes, seventh part: a match. -/
namespace Go.Proofs.Ythbdhpciibjnmaa
open Go.ChangeShapes Go.WideShapes Go.ChangeAt Go.RowKit

/-- A length and a distance, and the bytes that they say. -/
def matchM (b : List UInt8) (most : Nat) (ld : List Int) (v p : Nat) (out : List UInt8) : Except Nat (Nat × List UInt8) :=
  match lengthM b v p with
  | .error e => .error e
  | .ok (n, q) => match distM b ld q with
    | .error e => .error e
    | .ok (far, q) => match repeatM most n far out with
      | .error e => .error e
      | .ok out => .ok (q, out)
theorem lengthM_B {b : List UInt8} {v p : Nat} (hp : p ≤ 8 * b.length) (h1 : 257 ≤ v) (h2 : v ≤ 285) : ∃ nb more, nb ≤ 200010 ∧ more ≤ 14 ∧ (v = 285 → nb = 258 ∧ more = 0) ∧ (v ≠ 285 → 3 + (baseL (v - 257) 4).1 = nb ∧ (baseL (v - 257) 4).2 = more) ∧
    lengthM b v p = match takeM b p more with
      | .error e => .error e
      | .ok (x, q) => .ok (nb + x, q) := by
  by_cases h : v = 285
  · refine ⟨258, 0, by omega, by omega, fun _ => ⟨rfl, rfl⟩, fun h2 => absurd h h2, ?_⟩
    unfold lengthM
    rw [if_neg (by omega), if_pos h, takeM_zero b p hp]
  · have hb := baseL_le (v - 257) 4 (by omega) (by omega) (by omega)
    refine ⟨3 + (baseL (v - 257) 4).1, (baseL (v - 257) 4).2, by omega, hb.2, fun h2 => absurd h2 h, fun _ => ⟨rfl, rfl⟩, ?_⟩
    unfold lengthM
    rw [if_neg (by omega), if_neg h, steppedM_B b _ _ _ hp]
    cases takeM b p (baseL (v - 257) 4).2 with
    | error e => rfl
    | ok r => obtain ⟨x, q⟩ := r; exact congrArg Except.ok (Prod.ext (by dsimp only; omega) rfl)
theorem distM_E {b : List UInt8} {l : List Int} {p e : Nat} (h : nextM b l p = .error e) : distM b l p = .error e := by unfold distM; rw [h]
theorem distM_B {b : List UInt8} {l : List Int} {p d q : Nat} (h : nextM b l p = .ok (d, q)) (hq : q ≤ 8 * b.length) (hd : d ≤ 29) : ∃ fb wd, fb ≤ 200010 ∧ 1 ≤ fb ∧ wd ≤ 14 ∧ 1 + (baseL d 2).1 = fb ∧ (baseL d 2).2 = wd ∧
    distM b l p = match takeM b q wd with
      | .error e => .error e
      | .ok (x, q) => .ok (fb + x, q) := by
  have hb := baseL_le d 2 (by omega) (by omega) (by omega)
  refine ⟨1 + (baseL d 2).1, (baseL d 2).2, by omega, by omega, hb.2, rfl, rfl, ?_⟩
  unfold distM
  rw [h]
  dsimp only
  rw [steppedM_B b _ _ _ hq]
  cases takeM b q (baseL d 2).2 with
  | error e => rfl
  | ok r => obtain ⟨x, q⟩ := r; exact congrArg Except.ok (Prod.ext (by dsimp only; omega) rfl)
theorem FrT.c34 {w w1 : World} {T : Array Value} {A : Option Addr} {n c p : Nat} {Ao : Option Addr} {m co most E : Nat} {Z : Array Value} (h : FrT w T (stA A n c p Ao m co most E) Z w1) : w1.cell? ⟨w.heap.size, 3, none⟩ = some (.slice Ao m co) ∧ w1.cell? ⟨w.heap.size, 4, none⟩ = some (.int .i64 (most : Int)) := h.fr.c34
set_option maxHeartbeats 8000000 in
set_option maxRecDepth 100000 in
theorem dMatch (w : World) (B : Nat) (A : Option Addr) (c : Nat) (b : List UInt8) (p v : Nat) (Ao : Option Addr) (m co most : Nat) (out : List UInt8) (ld : List Int) (cs : List Value) (hT : TblV w w.heap.size ld cs) (hld : ld.length ≤ 30) (hro : 0 ≤ roomOf ld)
    (hbs : Bs w w.heap.size A b) (hbl : b.length ≤ 140737488355328) (hp1 : p ≤ 8 * b.length) (hv1 : 257 ≤ v) (hv2 : v ≤ 300)
    (hB : B ≤ w.heap.size) (hout : out.length = m) (ho : w.ownsRow B 5 1 (.slice Ao m co) m (bytesV out)) (hm : m ≤ most) (hmost : most ≤ 9223372036854775807) (hsz : m ≤ 140737488000000) :
    Calls Try.prog 43 #[.agg (stA A b.length c p Ao m co most 0), .int .i64 (v : Int), .agg cs.toArray] w (DOut w B A b.length c most (.slice Ao m co) (matchM b most ld v p out)) := by
  obtain ⟨i0, hi, hz0, hz1, hz2⟩ := info_parts info_u8
  obtain ⟨X, HX⟩ : ∃ X, Hid (matchM b most ld v p out = X) := ⟨_, Lib.hid rfl⟩
  rw [HX.out]
  have hx := HX.out
  unfold matchM at hx
  have HF0 := Lib.hid (FrT.start w (stA A b.length c p Ao m co most 0) cs.toArray)
  have HCL : Hid (cs.toArray.size = 37) := Lib.hid (by rw [List.size_toArray]; exact hT.1)
  have HTB := Lib.hid hT
  have HRO := Lib.hid hro
  have HLD := Lib.hid hld
  have HBS := Lib.hid hbs
  have HO := Lib.hid ho
  have HOL := Lib.hid hout
  clear hT hld hro hbs ho HX hout
  go_enter Try.func43, Try.ntmps43
  by_cases h285 : 285 < v
  · have hl : lengthM b v p = .error 32 := by unfold lengthM; rw [if_pos h285]
    rw [hl] at hx
    have HXE : Hid (X = .error 32) := Lib.hid hx.symm
    have d0 : decide ((285 : Int) < (v : Int)) = true := by simp; omega
    have HF1 := Lib.hid (FrT.start w ((stA A b.length c p Ao m co most 0).setIfInBounds 5 (.int .i64 32)) cs.toArray)
    clear hx hl
    go_wp2_with (first
      | ((with_reducible refine at_ld 53 3 ?_); refine HF1.out.ld rfl rfl (.tmp 3) rfl rfl ?_)
      | ((with_reducible refine at_st 53 6 17 ?_); refine HF1.out.stZ rfl rfl (.tmp 6) (.tmp 17) rfl rfl rfl rfl (st_oneA A b.length c p Ao m co most 32) ?_; intro w9 hF9 _; have HF9 := Lib.hid hF9; clear hF9))
    rw [HXE.out]
    exact bodyPost_ret (v := .agg _) (results_cell0 rfl _ _ (w.heap.size + 1 + 1) 53 _ _ rfl HF9.out.res Try.underlying53 rfl st_info) rfl ⟨⟨_, _, _, _, rfl⟩, updAny HF9.out.bel⟩
  obtain ⟨nb, more, hnb, hmo, g1, g2, hl⟩ := lengthM_B (b := b) (v := v) (p := p) hp1 hv1 (by omega)
  rw [hl] at hx
  have hb1 := dBase (((w.alloc (.cells (stA A b.length c p Ao m co most 0) 53)).alloc (.cells cs.toArray 63)).alloc (.cells st0 53)) (v - 257) 4 3 (by omega) (by omega) (by omega) (by omega)
  rw [show ((v - 257 : Nat) : Int) = (v : Int) - 257 by omega] at hb1
  have HB1 := Lib.hid hb1
  have HX0 := Lib.hid hx
  have HLB := Lib.hid hl
  have G1 := Lib.hid g1
  have HNB := Lib.hid hnb
  have G2 := Lib.hid g2
  have d0 : decide ((285 : Int) < (v : Int)) = false := by simp; omega
  clear hb1 hl hx g1 g2
  go_wp2_with fail
  refine HB1.out.mono ?_
  rintro e w1 ⟨rfl, mm, hw1⟩
  have HF1 := Lib.hid (HF0.out.call (w2 := w1) (by rw [hw1]; exact below_drewN (Below.refl _ _) mm))
  clear hw1 mm HB1
  go_upto_if 25 with (fail)
  go_cut [7, 8] (fun x1 x2 wx => wx = w1 ∧ x1 = .int .i64 (nb : Int) ∧ x2 = .int .i64 (more : Int))
  case first =>
    by_cases h : v = 285
    · obtain ⟨rfl, rfl⟩ := G1.out h
      have d1 : ((v : Int) == 285) = true := by simp; omega
      clear h
      go_wp2_with fail
      go_meet
      exact ⟨rfl, rfl, rfl⟩
    · obtain ⟨rfl, rfl⟩ := G2.out h
      have d1 : ((v : Int) == 285) = false := by simp; omega
      clear h
      go_wp2_with fail
      go_meet
      exact ⟨rfl, rfl, rfl⟩
  case rest =>
    obtain ⟨rfl, rfl, rfl⟩ := hcut
    clear G1 G2 hnb d0
    have hnb : nb ≤ 200010 := HNB.out
    have HBS1 := Lib.hid ((HBS.out.below HF1.out.fr.bel).more HF1.out.fr.bel.size)
    have hx := HX0.out
    have HT1 := Lib.hid (dTake wc A c b p Ao m co most HBS1.out hbl hp1 more (by omega))
    rcases hx1 : takeM b p more with ke | ⟨x1, q1⟩
    · rw [hx1] at HT1 hx
      have hke := takeM_err hx1
      have HXE : Hid (X = .error ke) := Lib.hid hx.symm
      have d2 : ((ke : Int) != 0) = true := by rw [bne_iff_ne]; omega
      clear hx1 hx hke HX0
      go_wp2_with (first
        | ((with_reducible refine at_ld 53 3 ?_); refine HF1.out.ld rfl rfl (.tmp 3) rfl rfl ?_))
      refine HT1.out.mono ?_
      rintro e wc ⟨⟨pe, rfl⟩, hb⟩
      have HF2 := Lib.hid (HF1.out.call hb)
      clear hb HT1
      go_wp2_with (first
        | ((with_reducible refine at_st 53 3 30 ?_); refine HF2.out.st rfl rfl (.tmp 3) (.tmp 30) rfl rfl rfl rfl (st_oneA _ _ _ _ _ _ _ _ _) ?_; intro w3 hF3 _; have HF3 := Lib.hid hF3; have c5 := hF3.err; clear hF3)
        | ((with_reducible refine at_ld 53 3 ?_); refine HF3.out.ld rfl rfl (.tmp 3) rfl rfl ?_)
        | ((with_reducible refine at_st 53 6 35 ?_); refine HF3.out.stZ rfl rfl (.tmp 6) (.tmp 35) rfl rfl rfl rfl (st_oneA _ _ _ _ _ _ _ _ _) ?_; intro w9 hF9 _; have HF9 := Lib.hid hF9; clear hF9))
      rw [HXE.out]
      exact bodyPost_ret (v := .agg _) (results_cell0 rfl _ _ (w.heap.size + 1 + 1) 53 _ _ rfl HF9.out.res Try.underlying53 rfl st_info) rfl ⟨⟨_, _, _, _, rfl⟩, updAny HF9.out.bel⟩
    · rw [hx1] at HT1 hx
      dsimp only at hx
      obtain ⟨hx14, hqe1, hq1⟩ := takeM_ok hx1
      have hn258 : nb + x1 ≤ 258 := (lengthM_ok (b := b) (v := v) (p := p) (q := q1) (k := nb + x1) (by rw [HLB.out, hx1]) hv1 hp1).1
      have hx1b : x1 < 16384 := Nat.lt_of_lt_of_le hx14 (Nat.le_trans (Nat.pow_le_pow_right (n := 2) (by omega) hmo) (by decide))
      have HXX := Lib.hid hx
      clear hx1 hqe1 hx14 hx HX0
      go_wp2_with (first
        | ((with_reducible refine at_ld 53 3 ?_); refine HF1.out.ld rfl rfl (.tmp 3) rfl rfl ?_))
      refine HT1.out.mono ?_
      rintro e wc ⟨rfl, hb⟩
      have HF2 := Lib.hid (HF1.out.call hb)
      clear hb HT1 HBS1 hmo
      go_wp2_with (first
        | ((with_reducible refine at_st 53 3 30 ?_); refine HF2.out.st rfl rfl (.tmp 3) (.tmp 30) rfl rfl rfl rfl (st_oneA _ _ _ _ _ _ _ _ _) ?_; intro w3 hF3 _; have HF3 := Lib.hid hF3; have c5 := hF3.err; clear hF3)
        | ((with_reducible refine at_ld 53 3 ?_); refine HF3.out.ld rfl rfl (.tmp 3) rfl rfl ?_)
        | ((with_reducible refine at_ld 63 5 ?_); refine HF3.out.ldT HCL.out rfl (.tmp 5) rfl rfl ?_))
      have hx := HXX.out
      have HN := Lib.hid (dNext w3 A c b q1 Ao m co most ld cs ((HTB.out.below HF3.out.fr.bel).more HF3.out.fr.bel.size) (by have := HLD.out; omega) HRO.out ((HBS.out.below HF3.out.fr.bel).more HF3.out.fr.bel.size) hbl hq1)
      clear c5
      rcases hx2 : nextM b ld q1 with ke | ⟨d, q2⟩
      · rw [hx2] at HN
        rw [distM_E hx2] at hx
        have hke := nextM_err hx2
        have HXE : Hid (X = .error ke) := Lib.hid hx.symm
        have d2 : ((ke : Int) != 0) = true := by rw [bne_iff_ne]; omega
        clear hx2 hx hke HXX
        refine HN.out.mono ?_
        rintro e wc ⟨⟨pe, rfl⟩, hb⟩
        have HF4 := Lib.hid (HF3.out.call hb)
        clear hb HN
        go_wp2_with (first
          | ((with_reducible refine at_st 53 3 43 ?_); refine HF4.out.st rfl rfl (.tmp 3) (.tmp 43) rfl rfl rfl rfl (st_oneA _ _ _ _ _ _ _ _ _) ?_; intro w5 hF5 _; have HF5 := Lib.hid hF5; have c5 := hF5.err; clear hF5)
          | ((with_reducible refine at_ld 53 3 ?_); refine HF5.out.ld rfl rfl (.tmp 3) rfl rfl ?_)
          | ((with_reducible refine at_st 53 6 48 ?_); refine HF5.out.stZ rfl rfl (.tmp 6) (.tmp 48) rfl rfl rfl rfl (st_oneA _ _ _ _ _ _ _ _ _) ?_; intro w9 hF9 _; have HF9 := Lib.hid hF9; clear hF9))
        rw [HXE.out]
        exact bodyPost_ret (v := .agg _) (results_cell0 rfl _ _ (w.heap.size + 1 + 1) 53 _ _ rfl HF9.out.res Try.underlying53 rfl st_info) rfl ⟨⟨_, _, _, _, rfl⟩, updAny HF9.out.bel⟩
      · rw [hx2] at HN
        obtain ⟨hd30, hq12, hq2⟩ := nextM_ok hx2
        have hd29 : d ≤ 29 := by have := HLD.out; omega
        obtain ⟨fb, wd, hfb, hfb1, hwd, e1, e2, hd⟩ := distM_B hx2 hq2 hd29
        rw [hd] at hx
        have HXX := Lib.hid hx
        have d3 : decide ((29 : Int) < (d : Int)) = false := by simp; omega
        clear hx2 hx hd hd30 hq12
        refine HN.out.mono ?_
        rintro e wc ⟨rfl, hb⟩
        have HF4 := Lib.hid (HF3.out.call hb)
        clear hb HN
        go_wp2_with (first
          | ((with_reducible refine at_st 53 3 43 ?_); refine HF4.out.st rfl rfl (.tmp 3) (.tmp 43) rfl rfl rfl rfl (st_oneA _ _ _ _ _ _ _ _ _) ?_; intro w5 hF5 _; have HF5 := Lib.hid hF5; have c5 := hF5.err; clear hF5))
        have hb1 := dBase w5 d 2 1 (by omega) (by omega) (by omega) (by omega)
        rw [e1, e2] at hb1
        refine hb1.mono ?_
        rintro e w6 ⟨rfl, mm, hw6⟩
        have HF6 := Lib.hid (HF5.out.call (w2 := w6) (by rw [hw6]; exact below_drewN (Below.refl _ _) mm))
        clear hw6 mm hb1 e1 e2 c5 d3
        go_wp2_with (first
          | ((with_reducible refine at_ld 53 3 ?_); refine HF6.out.ld rfl rfl (.tmp 3) rfl rfl ?_))
        have hx := HXX.out
        have HT2 := Lib.hid (dTake w6 A c b q2 Ao m co most ((HBS.out.below HF6.out.fr.bel).more HF6.out.fr.bel.size) hbl hq2 wd (by omega))
        rcases hx3 : takeM b q2 wd with ke | ⟨x2, q3⟩
        · rw [hx3] at HT2 hx
          have hke := takeM_err hx3
          have HXE : Hid (X = .error ke) := Lib.hid hx.symm
          have d2 : ((ke : Int) != 0) = true := by rw [bne_iff_ne]; omega
          clear hx3 hx hke HXX
          refine HT2.out.mono ?_
          rintro e wc ⟨⟨pe, rfl⟩, hb⟩
          have HF7 := Lib.hid (HF6.out.call hb)
          clear hb HT2
          go_wp2_with (first
            | ((with_reducible refine at_st 53 3 62 ?_); refine HF7.out.st rfl rfl (.tmp 3) (.tmp 62) rfl rfl rfl rfl (st_oneA _ _ _ _ _ _ _ _ _) ?_; intro w8 hF8 _; have HF8 := Lib.hid hF8; have c5 := hF8.err; clear hF8)
            | ((with_reducible refine at_ld 53 3 ?_); refine HF8.out.ld rfl rfl (.tmp 3) rfl rfl ?_)
            | ((with_reducible refine at_st 53 6 67 ?_); refine HF8.out.stZ rfl rfl (.tmp 6) (.tmp 67) rfl rfl rfl rfl (st_oneA _ _ _ _ _ _ _ _ _) ?_; intro w9 hF9 _; have HF9 := Lib.hid hF9; clear hF9))
          rw [HXE.out]
          exact bodyPost_ret (v := .agg _) (results_cell0 rfl _ _ (w.heap.size + 1 + 1) 53 _ _ rfl HF9.out.res Try.underlying53 rfl st_info) rfl ⟨⟨_, _, _, _, rfl⟩, updAny HF9.out.bel⟩
        · rw [hx3] at HT2 hx
          dsimp only at hx
          obtain ⟨hx14, hqe3, hq3⟩ := takeM_ok hx3
          have hx2b : x2 < 16384 := Nat.lt_of_lt_of_le hx14 (Nat.le_trans (Nat.pow_le_pow_right (n := 2) (by omega) hwd) (by decide))
          have HXX := Lib.hid hx
          clear hx3 hqe3 hx14 hx hwd
          refine HT2.out.mono ?_
          rintro e wc ⟨rfl, hb⟩
          have HF7 := Lib.hid (HF6.out.call hb)
          clear hb HT2
          have hx := HXX.out
          unfold repeatM at hx
          rw [HOL.out] at hx
          by_cases hfar : m < fb + x2
          · rw [if_pos hfar] at hx
            have HXE : Hid (X = .error 42) := Lib.hid hx.symm
            have d3 : decide ((m : Int) < (fb : Int) + (x2 : Int)) = true := by simp; omega
            clear hx hfar HXX
            go_wp2_with (first
              | ((with_reducible refine at_st 53 3 62 ?_); refine HF7.out.st rfl rfl (.tmp 3) (.tmp 62) rfl rfl rfl rfl (st_oneA _ _ _ _ _ _ _ _ _) ?_; intro w8 hF8 _; have HF8 := Lib.hid hF8; have c5 := hF8.err; obtain ⟨c3, c4⟩ := hF8.c34; have c5f := hF8.fr.box.frozen 5; have HFe := Lib.hid (hF8.setE 42); clear hF8)
              | ((with_reducible refine at_ld 53 3 ?_); refine HFe.out.ld rfl rfl (.tmp 3) rfl rfl ?_)
              | ((with_reducible refine at_st 53 6 77 ?_); refine HFe.out.stZ rfl rfl (.tmp 6) (.tmp 77) rfl rfl rfl rfl (st_oneA _ _ _ _ _ _ _ _ _) ?_; intro w9 hF9 _; have HF9 := Lib.hid hF9; clear hF9))
            rw [HXE.out]
            exact bodyPost_ret (v := .agg _) (results_cell0 rfl _ _ (w.heap.size + 1 + 1) 53 _ _ rfl HF9.out.res Try.underlying53 rfl st_info) rfl ⟨⟨_, _, _, _, rfl⟩, updAny HF9.out.bel⟩
          rw [if_neg hfar] at hx
          have d3 : decide ((m : Int) < (fb : Int) + (x2 : Int)) = false := by simp; omega
          by_cases hlong : most - m < nb + x1
          · rw [if_pos hlong] at hx
            have HXE : Hid (X = .error 3) := Lib.hid hx.symm
            have d4 : decide ((most : Int) - (m : Int) < (nb : Int) + (x1 : Int)) = true := by simp; omega
            clear hx hfar hlong HXX
            go_wp2_with (first
              | ((with_reducible refine at_st 53 3 62 ?_); refine HF7.out.st rfl rfl (.tmp 3) (.tmp 62) rfl rfl rfl rfl (st_oneA _ _ _ _ _ _ _ _ _) ?_; intro w8 hF8 _; have HF8 := Lib.hid hF8; have c5 := hF8.err; obtain ⟨c3, c4⟩ := hF8.c34; have c5f := hF8.fr.box.frozen 5; have HFe := Lib.hid (hF8.setE 3); clear hF8)
              | ((with_reducible refine at_ld 53 3 ?_); refine HFe.out.ld rfl rfl (.tmp 3) rfl rfl ?_)
              | ((with_reducible refine at_st 53 6 87 ?_); refine HFe.out.stZ rfl rfl (.tmp 6) (.tmp 87) rfl rfl rfl rfl (st_oneA _ _ _ _ _ _ _ _ _) ?_; intro w9 hF9 _; have HF9 := Lib.hid hF9; clear hF9))
            rw [HXE.out]
            exact bodyPost_ret (v := .agg _) (results_cell0 rfl _ _ (w.heap.size + 1 + 1) 53 _ _ rfl HF9.out.res Try.underlying53 rfl st_info) rfl ⟨⟨_, _, _, _, rfl⟩, updAny HF9.out.bel⟩
          rw [if_neg hlong] at hx
          have d4 : decide ((most : Int) - (m : Int) < (nb : Int) + (x1 : Int)) = false := by simp; omega
          have HXX := Lib.hid hx
          clear hx
          go_wp2_with (first
            | ((with_reducible refine at_st 53 3 62 ?_); refine HF7.out.st rfl rfl (.tmp 3) (.tmp 62) rfl rfl rfl rfl (st_oneA _ _ _ _ _ _ _ _ _) ?_; intro w8 hF8 _; have HF8 := Lib.hid hF8; have c5 := hF8.err; obtain ⟨c3, c4⟩ := hF8.c34; clear hF8))
          obtain ⟨F, hF⟩ : ∃ F, fb + x2 = F := ⟨_, rfl⟩
          obtain ⟨N, hN⟩ : ∃ N, nb + x1 = N := ⟨_, rfl⟩
          rw [show (fb : Int) + (x2 : Int) = (F : Int) by omega, show (nb : Int) + (x1 : Int) = (N : Int) by omega]
          rw [hF] at hfar HXX
          rw [hN] at hn258 hlong HXX
          have hF1 : 1 ≤ F := by omega
          have hFm : F ≤ m := by omega
          have hNm : m + N ≤ most := by omega
          have HXE : Hid (X = .ok (q3, copyM F N out)) := Lib.hid HXX.out.symm
          have HG8 := Lib.hid (FrG.of HF8.out.fr (fun k => some k = (Value.slice Ao m co).ownBlock))
          have HO8 := Lib.hid (own_upd HO.out (Upd.of_fresh HF8.out.fr.bel) (fun _ _ => id))
          clear c5 c3 c4 d3 d4 hfar hlong hfb hfb1 hx2b hx1b HXX hnb hF hN
          go_loopw [13] (fun i wr => ∃ (k mk ck : Nat) (Ak : Option Addr) (o : List UInt8), k ≤ N ∧ Hid (mk = m + k) ∧ Hid (o.length = mk) ∧ i = .int .i64 (k : Int) ∧ Hid (FrG w (fun k => some k = (Value.slice Ao m co).ownBlock) w.heap.size (w.heap.size + 1 + 1) (stA A b.length c q3 Ak mk ck most 0) st0 wr) ∧ Hid (wr.ownsRow B 5 1 (.slice Ak mk ck) mk (bytesV o)) ∧
              Hid (∀ k, (Value.slice Ak mk ck).ownBlock = some k → (Value.slice Ao m co).ownBlock = some k ∨ w.heap.size ≤ k) ∧ Hid (copyM F (N - k) o = copyM F N out)) (fun i _ => N - (intOf i).toNat)
          case atStart => exact ⟨0, m, co, Ao, out, by omega, Lib.hid rfl, HOL, rfl, HG8, HO8, Lib.hid (fun k hk => .inl hk), Lib.hid rfl⟩
          case round =>
            obtain ⟨k, mk, ck, Ak, o, hk, HMK, HOK, rfl, HG, HOr, HBk, HCM⟩ := hrel
            by_cases hlt : k < N
            · have hmk := HMK.out
              have hok := HOK.out
              obtain ⟨ga, rfl, hrc, hrm, _, _⟩ := row_form HOr.out (by omega)
              have hx := HOr.out.cellAt (mk - F) (by omega)
              rw [bytesV_get o (mk - F) (by omega)] at hx
              have hcm := HCM.out
              obtain ⟨r, hr⟩ : ∃ r, N - k = r + 1 := ⟨N - k - 1, by omega⟩
              rw [hr, copyM, hok] at hcm
              have hgd : o.getD (mk - F) 0 = o[mk - F]'(by omega) := by rw [List.getD_eq_getElem?_getD, List.getElem?_eq_getElem (by omega)]; rfl
              rw [hgd] at hcm
              generalize o[mk - F]'(by omega) = x at hx hcm
              have HCN : Hid (copyM F (N - (k + 1)) (o ++ [x]) = copyM F N out) := Lib.hid (by rw [show N - (k + 1) = r by omega]; exact hcm)
              have hc3 : wr.cell? ⟨w.heap.size, 3, none⟩ = some (.slice (some ⟨ga, 0, none⟩) mk ck) := HG.out.box.cell 3
              have HGa := Lib.hid ((HG.out.call ((Below.refl _ _).drew)).alloc (.cells #[.int .u8 (x.toNat : Int)] 5))
              have hcA : (wr.alloc (.cells #[.int .u8 (x.toNat : Int)] 5)).cell? ⟨w.heap.size, 3, none⟩ = some (.slice (some ⟨ga, 0, none⟩) mk ck) := HGa.out.box.cell 3
              have hO := own_upd HOr.out (updAny (P := No) (((Below.refl _ _).drew).alloc (Nat.le_refl _) (.cells #[.int .u8 (x.toNat : Int)] 5))) (fun _ _ => id)
              have hsz : B ≤ (wr.drew.alloc (.cells #[.int .u8 (x.toNat : Int)] 5)).heap.size := Nat.le_trans hB HGa.out.up.size
              have s1 : IntKind.i64.wrap ((mk : Int) - (F : Int)) = (mk : Int) - (F : Int) := IntWalk.i64_in _ (by omega)
              have s2 : 0 ≤ (mk : Int) - (F : Int) := by omega
              have s3 : ((mk : Int) - (F : Int)).toNat = mk - F := by omega
              have s4 : (mk : Int) - (F : Int) < (mk : Int) := by omega
              have s5 : mk - F < mk := by omega
              have s6 : F ≤ mk := by omega
              have s7 : (F : Int) ≤ (mk : Int) := by omega
              have hL2 : mk + 1 ≤ 140737488355000 := by omega
              have hxb := byte_lt x
              clear hcm hgd hmk hok hr
              go_wp2_with fail
              go_region_law (refine step_append_vs (wr.drew.alloc (.cells #[.int .u8 (x.toNat : Int)] 5)) rfl (.tmp 94) (.tmp 104) _ rfl B 5 i0 (.int .u8 0) 1 Try.underlying22 hi hz0 hz1 hz2 rfl (.slice (some ⟨ga, 0, none⟩) mk ck) mk (bytesV o) (by simp [Act.eval]) hO (wr.heap.size + 1) (some ⟨wr.heap.size, 0, none⟩) 1 1 [.int .u8 (x.toNat : Int)] rfl (by simp [Act.eval]) (vs_lit wr.drew 5 [.int .u8 (x.toNat : Int)] (wr.heap.size + 1) (by simp)) (by simp [Value.oneCell']) (by unfold maxLen; omega) (by omega) hsz ?_; intro A6 c6 w6 o6 hg6 hat6; have HG6 := Lib.hid (HGa.out.grow hO (fun k hk => (HBk.out k hk).imp Eq.symm id) hg6); have hc6 : w6.cell? ⟨w.heap.size, 3, none⟩ = some (.slice (some ⟨ga, 0, none⟩) mk ck) := HG6.out.box.cell 3; have hf6 := HG6.out.box.frozen 3)
              all_goals
                have HG7 : Hid (FrG w (fun k => some k = (Value.slice Ao m co).ownBlock) w.heap.size (w.heap.size + 1 + 1) (stA A b.length c q3 A6 (mk + 1) c6 most 0) st0 (w6.setCell ⟨w.heap.size, 3, none⟩ (.slice A6 (mk + 1) c6))) := Lib.hid (HG6.out.set_ 3 (.slice A6 (mk + 1) c6))
                have HO7 := Lib.hid (own_upd o6 ((Upd.refl (· = w.heap.size) w6).setCell (p := ⟨w.heap.size, 3, none⟩) (fun _ => rfl) (.slice A6 (mk + 1) c6)) (fun k hk e => by subst e; exact own_blk_ne o6 HG6.out.box (by decide) hk))
                have HB7 : Hid (∀ k, (Value.slice A6 (mk + 1) c6).ownBlock = some k → (Value.slice Ao m co).ownBlock = some k ∨ w.heap.size ≤ k) := Lib.hid (fun k hk => by
                  rcases hat6 with h | h
                  · exact HBk.out k (h ▸ hk)
                  · rw [h] at hk
                    have := HGa.out.up.size
                    injection hk with hk
                    exact .inr (by omega))
                clear s1 s2 s3 s4 s5 s6 s7 hg6 hat6 o6 hc6 hf6 hO hx hc3 hcA
                go_wp2_with fail
                go_roundw
                case rel => exact ⟨k + 1, mk + 1, c6, A6, o ++ [x], by omega, Lib.hid (by have := HMK.out; omega), Lib.hid (by rw [List.length_append, HOK.out]; rfl), by go_num, HG7, by rw [bytesV_append]; exact HO7, HB7, HCN⟩
                case measure => simp [intOf]; omega
            · obtain rfl : k = N := by omega
              have hcm := HCM.out
              rw [Nat.sub_self, copyM] at hcm
              have HCN := Lib.hid hcm
              clear hcm
              go_wp2_with (first
                | ((with_reducible refine at_ld 53 3 ?_); refine HG.out.ld rfl rfl (.tmp 3) rfl rfl ?_)
                | ((with_reducible refine at_st 53 6 107 ?_); refine HG.out.stZ rfl rfl (.tmp 6) (.tmp 107) rfl rfl rfl rfl (st_oneA _ _ _ _ _ _ _ _ _) ?_; intro w9 hF9 hu9; have HF9 := Lib.hid hF9; have HO9 := Lib.hid (own_upd HOr.out hu9 (fun k hk e => by subst e; exact own_blk_ne HOr.out HG.out.res (by decide) hk)); clear hF9 hu9))
              rw [HXE.out, ← HCN.out]
              exact bodyPost_ret (v := .agg _) (results_cell0 rfl _ _ (w.heap.size + 1 + 1) 53 _ _ rfl HF9.out.res Try.underlying53 rfl st_info) rfl ⟨_, _, _, rfl, HOK.out, HO9.out, HBk.out, HF9.out.up⟩
end Go.Proofs.Ythbdhpciibjnmaa

/- The document's reader of deflated bytes, eighth part: the symbols of a block. -/
namespace Go.Proofs.Ythbdhpciibjnmaa
open Go.ChangeShapes Go.WideShapes Go.ChangeAt Go.RowKit

theorem own_own_ne {w : World} {base base2 : Nat} {e e2 : TypeId} {size size2 n n2 : Nat} {v v2 : Value} {xs xs2 : List Value} (h : w.ownsRow base e size v n xs) (h2 : w.ownsRow base2 e2 size2 v2 n2 xs2) (hne : e ≠ e2) : ∀ k, v.ownBlock = some k → ¬ some k = v2.ownBlock := by
  intro k hk hk2
  rcases h2.2 with ⟨rfl, _⟩ | ⟨g', cap, cur, rfl, _, hh, _⟩
  · simp [Value.ownBlock] at hk2
  · have e1 : k = g' := by simpa [Value.ownBlock] using hk2
    subst e1
    exact own_blk_ne h (show Blk w k e2 _ from hh) hne hk
/-- A table whose rows are rows of numbers of their own. -/
def TblO (w : World) (l : List Int) (cs : List Value) : Prop :=
  cs.length = 37 ∧ (∀ k, k < 18 → cs[k]? = some (.int .i64 (firstOf l 16 k))) ∧
    (∀ k, k < 18 → ∃ A c base, cs[18 + k]? = some (.slice A (symsOf l k).length c) ∧ w.ownsRow base 3 1 (.slice A (symsOf l k).length c) (symsOf l k).length (intsV (natsI (symsOf l k)))) ∧ cs[36]? = some (.bool (anyOf l))
theorem TblO.v {w : World} {l : List Int} {cs : List Value} (h : TblO w l cs) : TblV w w.heap.size l cs := by
  obtain ⟨h1, h2, h3, h4⟩ := h
  exact ⟨h1, h2, fun k hk => by obtain ⟨A, c, base, h5, h6⟩ := h3 k hk; exact ⟨A, c, h5, Vs.of_own h6⟩, h4⟩
theorem TblO.of {w w' : World} {l : List Int} {e : Ending} (h : TblRes w l e w') : ∃ cs : List Value, e = .returned (.agg cs.toArray) ∧ TblO w' l cs ∧ Below w.heap.size w w' := by
  obtain ⟨cs, h1, h2, h3, h4, h5, h6⟩ := h
  refine ⟨cs, h1, ⟨h2, h3, fun k hk => ?_, h5⟩, h6⟩
  obtain ⟨A, c, a1, a2⟩ := h4 k hk
  exact ⟨A, c, _, a1, a2⟩
theorem TblO.keep {w w' : World} {l : List Int} {cs : List Value} (h : TblO w l cs) (hk : ∀ (v : Value) (base n : Nat) (xs : List Value), w.ownsRow base 3 1 v n xs → w'.ownsRow base 3 1 v n xs) : TblO w' l cs := by
  obtain ⟨h1, h2, h3, h4⟩ := h
  exact ⟨h1, h2, fun k hk2 => by obtain ⟨A, c, base, h5, h6⟩ := h3 k hk2; exact ⟨A, c, base, h5, hk _ _ _ _ h6⟩, h4⟩
theorem TblO.call {w w' : World} {l : List Int} {cs : List Value} (h : TblO w l cs) (hb : Below w.heap.size w w') : TblO w' l cs := h.keep fun _ _ _ _ ho => own_upd ho (Upd.of_fresh hb) (fun _ _ => id)
theorem TblO.row {w w' : World} {l : List Int} {cs : List Value} {B n : Nat} {v : Value} {xs : List Value} (h : TblO w l cs) (hO : w.ownsRow B 5 1 v n xs) (hu : Upd (fun k => some k = v.ownBlock) w w') : TblO w' l cs := h.keep fun _ _ _ _ ho => own_upd ho hu (own_own_ne ho hO (by decide))
theorem TblO.put {w w' : World} {l : List Int} {cs : List Value} {g : Nat} {S : Array Value} (h : TblO w l cs) (hb : Blk w g 53 S) (hu : Upd (· = g) w w') : TblO w' l cs := h.keep fun _ _ _ _ ho => own_upd ho hu (fun k hk e => by subst e; exact own_blk_ne ho hb (by decide) hk)
/-- The frame of symbols: two tables besides. -/
structure FrU (w : World) (P : Nat → Prop) (T1 T2 S Z : Array Value) (w' : World) : Prop where
  fr : FrG w P w.heap.size (w.heap.size + 1 + 1 + 1) S Z w'
  t1 : Blk w' (w.heap.size + 1) 63 T1
  t2 : Blk w' (w.heap.size + 1 + 1) 63 T2
section
variable {w w1 w2 : World} {P : Nat → Prop} {T1 T2 S Z : Array Value} {ops : Array Oper} {rest : List Oper} {o : Oper} {a : Act} {Q : Exit → Act → World → Prop}
theorem FrU.start (w : World) (P : Nat → Prop) (S T1 T2 : Array Value) : FrU w P T1 T2 S st0 ((((w.alloc (.cells S 53)).alloc (.cells T1 63)).alloc (.cells T2 63)).alloc (.cells st0 53)) := by
  have e1 : ((w.alloc (.cells S 53)).alloc (.cells T1 63)).heap.size = w.heap.size + 1 + 1 := by simp
  have e2 : (((w.alloc (.cells S 53)).alloc (.cells T1 63)).alloc (.cells T2 63)).heap.size = w.heap.size + 1 + 1 + 1 := by simp
  have b0 := (((Blk.new w 53 S).alloc (.cells T1 63)).alloc (.cells T2 63)).alloc (.cells st0 53)
  have b0' : Blk ((w.alloc (.cells S 53)).alloc (.cells T1 63)) (w.heap.size + 1) 63 T1 := blk_second w _ _ _
  have b1 := (b0'.alloc (.cells T2 63)).alloc (.cells st0 53)
  have b2 := (Blk.new ((w.alloc (.cells S 53)).alloc (.cells T1 63)) 63 T2).alloc (.cells st0 53)
  have b3 := Blk.new (((w.alloc (.cells S 53)).alloc (.cells T1 63)).alloc (.cells T2 63)) 53 st0
  rw [e1] at b2
  rw [e2] at b3
  exact ⟨⟨b0, b3, by omega, Nat.le_refl _, by omega, updAny ((((Below.refl _ _).alloc (Nat.le_refl _) _).alloc (by simp) _).alloc (by simp; omega) _ |>.alloc (by simp; omega) _)⟩, b1, b2⟩
theorem FrU.call (h : FrU w P T1 T2 S Z w1) (hb : Below w1.heap.size w1 w2) : FrU w P T1 T2 S Z w2 := ⟨h.fr.call hb, h.t1.upd (Upd.of_fresh hb) id, h.t2.upd (Upd.of_fresh hb) id⟩
theorem FrU.alloc (h : FrU w P T1 T2 S Z w1) (o : Obj) : FrU w P T1 T2 S Z (w1.alloc o) := h.call ((Below.refl _ _).alloc (Nat.le_refl _) o)
theorem FrU.set_ (h : FrU w P T1 T2 S Z w1) (i : Nat) (v : Value) : FrU w P T1 T2 (S.setIfInBounds i v) Z (w1.setCell ⟨w.heap.size, i, none⟩ v) :=
  ⟨h.fr.set_ i v, h.t1.upd ((Upd.refl (· = w.heap.size) w1).setCell (p := ⟨w.heap.size, i, none⟩) (fun _ => rfl) v) (by omega), h.t2.upd ((Upd.refl (· = w.heap.size) w1).setCell (p := ⟨w.heap.size, i, none⟩) (fun _ => rfl) v) (by omega)⟩
theorem FrU.row {B n : Nat} {v : Value} {xs : List Value} (h : FrU w P T1 T2 S Z w1) (hO : w1.ownsRow B 5 1 v n xs) (hP : ∀ k, v.ownBlock = some k → P k ∨ w.heap.size ≤ k) (hu : Upd (fun k => some k = v.ownBlock) w1 w2) : FrU w P T1 T2 S Z w2 :=
  ⟨⟨h.fr.box.upd hu (fun e => own_blk_ne hO h.fr.box (by decide) e.symm), h.fr.res.upd hu (fun e => own_blk_ne hO h.fr.res (by decide) e.symm), h.fr.ne, h.fr.lo, h.fr.lo2, h.fr.up.then hu (fun i hi e => (hP i e.symm).resolve_right (by omega))⟩,
    h.t1.upd hu (fun e => own_blk_ne hO h.t1 (by decide) e.symm), h.t2.upd hu (fun e => own_blk_ne hO h.t2 (by decide) e.symm)⟩
theorem FrU.ld (h : FrU w P T1 T2 S Z w1) (hs : S.size = 6) (hgd : o.guard = none) (x : Operand) (ho : o.op = .load 53 x) (hx : a.eval x = .pointer (some ⟨w.heap.size, 0, none⟩))
    (k : wpList Try.prog ops Q rest (a.put o.dst (.agg S)) w1) : wpList Try.prog ops Q (o :: rest) a w1 := h.fr.ld hs hgd x ho hx k
theorem FrU.ld1 (h : FrU w P T1 T2 S Z w1) (hs : T1.size = 37) (hgd : o.guard = none) (x : Operand) (ho : o.op = .load 63 x) (hx : a.eval x = .pointer (some ⟨w.heap.size + 1, 0, none⟩))
    (k : wpList Try.prog ops Q rest (a.put o.dst (.agg T1)) w1) : wpList Try.prog ops Q (o :: rest) a w1 :=
  wpList_load_row hgd 63 x ho (w.heap.size + 1) hx 63 T1 (0, 0) _ h.t1 Try.underlying63 rfl (by rw [hs]; exact tbl_info) k
theorem FrU.ld2 (h : FrU w P T1 T2 S Z w1) (hs : T2.size = 37) (hgd : o.guard = none) (x : Operand) (ho : o.op = .load 63 x) (hx : a.eval x = .pointer (some ⟨w.heap.size + 1 + 1, 0, none⟩))
    (k : wpList Try.prog ops Q rest (a.put o.dst (.agg T2)) w1) : wpList Try.prog ops Q (o :: rest) a w1 :=
  wpList_load_row hgd 63 x ho (w.heap.size + 1 + 1) hx 63 T2 (0, 0) _ h.t2 Try.underlying63 rfl (by rw [hs]; exact tbl_info) k
theorem FrU.st (h : FrU w P T1 T2 S Z w1) (hs : S.size = 6) (hgd : o.guard = none) (x y : Operand) (ho : o.op = .store 53 x y) (hx : a.eval x = .pointer (some ⟨w.heap.size, 0, none⟩)) {S' : Array Value} (hy : a.eval y = .agg S')
    (hs' : S'.size = 6) (h1 : S'.all (·.oneCell') = true) (k : ∀ w2, FrU w P T1 T2 S' Z w2 → Upd (· = w.heap.size) w1 w2 → wpList Try.prog ops Q rest (a.put o.dst undef) w2) : wpList Try.prog ops Q (o :: rest) a w1 :=
  h.fr.st hs hgd x y ho hx hy hs' h1 fun w2 hf hu => k w2 ⟨hf, h.t1.upd hu (by omega), h.t2.upd hu (by omega)⟩ hu
theorem FrU.stZ (h : FrU w P T1 T2 S Z w1) (hs : Z.size = 6) (hgd : o.guard = none) (x y : Operand) (ho : o.op = .store 53 x y) (hx : a.eval x = .pointer (some ⟨w.heap.size + 1 + 1 + 1, 0, none⟩)) {S' : Array Value} (hy : a.eval y = .agg S')
    (hs' : S'.size = 6) (h1 : S'.all (·.oneCell') = true) (k : ∀ w2, FrG w P w.heap.size (w.heap.size + 1 + 1 + 1) S S' w2 → Upd (· = w.heap.size + 1 + 1 + 1) w1 w2 → wpList Try.prog ops Q rest (a.put o.dst undef) w2) : wpList Try.prog ops Q (o :: rest) a w1 :=
  h.fr.stZ hs hgd x y ho hx hy hs' h1 k
theorem FrU.c345 {A : Option Addr} {n c p : Nat} {Ao : Option Addr} {m co most E : Nat} (h : FrU w P T1 T2 (stA A n c p Ao m co most E) Z w1) : w1.cell? ⟨w.heap.size, 3, none⟩ = some (.slice Ao m co) ∧ w1.cell? ⟨w.heap.size, 4, none⟩ = some (.int .i64 (most : Int)) ∧ w1.cell? ⟨w.heap.size, 5, none⟩ = some (.int .i64 (E : Int)) := ⟨h.fr.box.cell 3, h.fr.box.cell 4, h.fr.box.cell 5⟩
end
theorem symD_E {b : List UInt8} {most : Nat} {ll ld : List Int} {p e : Nat} {out : List UInt8} (h : nextM b ll p = .error e) : symM b most ll ld p out = .error e := by unfold symM; rw [h]
theorem symD_lit {b : List UInt8} {most : Nat} {ll ld : List Int} {p v q : Nat} {out : List UInt8} (h : nextM b ll p = .ok (v, q)) (hv : v < 256) : symM b most ll ld p out = if most - out.length < 1 then .error 3 else .ok (q, out ++ [UInt8.ofNat v], false) := by unfold symM; rw [h]; dsimp only; rw [if_pos hv]
theorem symD_end {b : List UInt8} {most : Nat} {ll ld : List Int} {p q : Nat} {out : List UInt8} (h : nextM b ll p = .ok (256, q)) : symM b most ll ld p out = .ok (q, out, true) := by unfold symM; rw [h]; dsimp only; rw [if_neg (by omega), if_pos rfl]
theorem symD_match {b : List UInt8} {most : Nat} {ll ld : List Int} {p v q : Nat} {out : List UInt8} (h : nextM b ll p = .ok (v, q)) (hv : ¬ v < 256) (hv2 : v ≠ 256) : symM b most ll ld p out = match matchM b most ld v q out with
    | .error e => .error e
    | .ok (q, out) => .ok (q, out, false) := by
  unfold symM matchM
  rw [h]
  dsimp only
  rw [if_neg hv, if_neg hv2]
  cases lengthM b v q with
  | error e => rfl
  | ok r =>
    obtain ⟨n, q1⟩ := r
    dsimp only
    cases distM b ld q1 with
    | error e => rfl
    | ok r =>
      obtain ⟨far, q2⟩ := r
      dsimp only
      cases repeatM most n far out with
      | error e => rfl
      | ok o => rfl
theorem bytesV_one {v : Nat} (hv : v < 256) (out : List UInt8) : bytesV (out ++ [UInt8.ofNat v]) = bytesV out ++ [.int .u8 (v : Int)] := by
  rw [bytesV_append]
  congr 1
  simp [bytesV, bv]
  omega
set_option maxHeartbeats 8000000 in
set_option maxRecDepth 100000 in
theorem dSymbols (w : World) (B : Nat) (A : Option Addr) (c : Nat) (b : List UInt8) (p : Nat) (Ao : Option Addr) (m co most : Nat) (out : List UInt8) (ll ld : List Int) (cs1 cs2 : List Value) (hT1 : TblO w ll cs1) (hT2 : TblO w ld cs2) (hll : ll.length ≤ 288) (hld : ld.length ≤ 30) (hro1 : 0 ≤ roomOf ll) (hro2 : 0 ≤ roomOf ld)
    (hbs : Bs w B A b) (hbl : b.length ≤ 140737488355328) (hp1 : p ≤ 8 * b.length)
    (hB : B ≤ w.heap.size) (hout : out.length = m) (ho : w.ownsRow B 5 1 (.slice Ao m co) m (bytesV out)) (hm : m ≤ most) (hmost : most ≤ 9223372036854775807) (hsz : m + 258 * (8 * b.length + 1 - p) ≤ 140737488000000) :
    Calls Try.prog 24 #[.agg (stA A b.length c p Ao m co most 0), .agg cs1.toArray, .agg cs2.toArray] w (DOut w B A b.length c most (.slice Ao m co) (symsM b most ll ld p out)) := by
  obtain ⟨i0, hi, hz0, hz1, hz2⟩ := info_parts info_u8
  obtain ⟨X, HX⟩ : ∃ X, Hid (symsM b most ll ld p out = X) := ⟨_, Lib.hid rfl⟩
  rw [HX.out]
  have HF0 := Lib.hid (FrU.start w (fun k => some k = (Value.slice Ao m co).ownBlock) (stA A b.length c p Ao m co most 0) cs1.toArray cs2.toArray)
  have HC1 : Hid (cs1.toArray.size = 37) := Lib.hid (by rw [List.size_toArray]; exact hT1.1)
  have HC2 : Hid (cs2.toArray.size = 37) := Lib.hid (by rw [List.size_toArray]; exact hT2.1)
  have hbel : Below w.heap.size w ((((w.alloc (.cells (stA A b.length c p Ao m co most 0) 53)).alloc (.cells cs1.toArray 63)).alloc (.cells cs2.toArray 63)).alloc (.cells st0 53)) :=
    (((Below.refl _ _).alloc (Nat.le_refl _) _).alloc (by simp) _).alloc (by simp; omega) _ |>.alloc (by simp; omega) _
  have HTA := Lib.hid (hT1.call hbel)
  have HTB := Lib.hid (hT2.call hbel)
  have HO0 := Lib.hid (own_upd ho (updAny (P := No) hbel) (fun _ _ => id))
  have HR1 := Lib.hid hro1
  have HR2 := Lib.hid hro2
  have HLL := Lib.hid hll
  have HLD := Lib.hid hld
  have HOL := Lib.hid hout
  have HSZ := Lib.hid hsz
  have HBS : Hid (∀ wx, Upd (fun k => some k = (Value.slice Ao m co).ownBlock) w wx → Bs wx wx.heap.size A b) := Lib.hid (fun wx hu => (hbs.upd hu hB (fun ad _ hlt e => by have := (ho.lt _ e.symm).1; omega)).more (Nat.le_trans hB hu.size))
  clear hT1 hT2 hll hld hro1 hro2 hbs ho hout hbel hsz
  go_enter Try.func24, Try.ntmps24
  go_wp2_with fail
  go_loopg [] (8 * b.length + 1 - p) (fun gk wr => (∃ (q mk ck : Nat) (Ak : Option Addr) (o : List UInt8), gk = 8 * b.length + 1 - q ∧ q ≤ 8 * b.length ∧ mk ≤ most ∧ Hid (o.length = mk) ∧ Hid (mk + 258 * (8 * b.length + 1 - q) ≤ 140737488000000) ∧
      Hid (FrU w (fun k => some k = (Value.slice Ao m co).ownBlock) cs1.toArray cs2.toArray (stA A b.length c q Ak mk ck most 0) st0 wr) ∧ Hid (wr.ownsRow B 5 1 (.slice Ak mk ck) mk (bytesV o)) ∧
      Hid (∀ k, (Value.slice Ak mk ck).ownBlock = some k → (Value.slice Ao m co).ownBlock = some k ∨ w.heap.size ≤ k) ∧ Hid (TblO wr ll cs1) ∧ Hid (TblO wr ld cs2) ∧ Hid (symsM b most ll ld q o = X)) ∨
      (gk = 0 ∧ ∃ (ke q mk ck : Nat) (Ak : Option Addr), ke ≠ 0 ∧ Hid (X = .error ke) ∧ Hid (FrU w (fun k => some k = (Value.slice Ao m co).ownBlock) cs1.toArray cs2.toArray (stA A b.length c q Ak mk ck most ke) st0 wr)))
  case atStart => exact .inl ⟨p, m, co, Ao, out, rfl, hp1, hm, HOL, HSZ, HF0, HO0, Lib.hid (fun k hk => .inl hk), HTA, HTB, HX⟩
  case round =>
    clear HF0 HTA HTB HO0 HX
    rcases hrel with ⟨q, mk, ck, Ak, o, rfl, hq, hmk, HOK, HSK, HF, HOr, HBk, HT1, HT2, HXq⟩ | ⟨rfl, ke, q, mk, ck, Ak, hke, HXE, HF⟩
    · obtain ⟨c3, c4, c5⟩ := HF.out.c345
      have hx := HXq.out
      rw [symsM_step HLD.out hq (by rw [HOK.out]; exact hmk)] at hx
      have HN := Lib.hid (dNext wr A c b q Ak mk ck most ll cs1 HT1.out.v (by have := HLL.out; omega) HR1.out (HBS.out wr HF.out.fr.up) hbl hq)
      rcases hx1 : nextM b ll q with ke | ⟨v, q1⟩
      · rw [hx1] at HN
        rw [symD_E hx1] at hx
        have hke := nextM_err hx1
        have HXE : Hid (X = .error ke) := Lib.hid hx.symm
        have d2 : ((ke : Int) != 0) = true := by rw [bne_iff_ne]; omega
        clear hx1 hx hke HXq
        go_wp2_with (first
          | ((with_reducible refine at_ld 53 3 ?_); refine HF.out.ld rfl rfl (.tmp 3) rfl rfl ?_)
          | ((with_reducible refine at_ld 63 4 ?_); refine HF.out.ld1 HC1.out rfl (.tmp 4) rfl rfl ?_))
        refine HN.out.mono ?_
        rintro e wc ⟨⟨pe, rfl⟩, hb⟩
        have HF2 := Lib.hid (HF.out.call hb)
        clear hb HN c3 c4 c5
        go_wp2_with (first
          | ((with_reducible refine at_st 53 3 15 ?_); refine HF2.out.st rfl rfl (.tmp 3) (.tmp 15) rfl rfl rfl rfl (st_oneA _ _ _ _ _ _ _ _ _) ?_; intro w3 hF3 hu3; have HF3 := Lib.hid hF3; obtain ⟨c3, c4, c5⟩ := hF3.c345; clear hF3 hu3)
          | ((with_reducible refine at_ld 53 3 ?_); refine HF3.out.ld rfl rfl (.tmp 3) rfl rfl ?_)
          | ((with_reducible refine at_st 53 6 24 ?_); refine HF3.out.stZ rfl rfl (.tmp 6) (.tmp 24) rfl rfl rfl rfl (st_oneA _ _ _ _ _ _ _ _ _) ?_; intro w9 hF9 hu9; have HF9 := Lib.hid hF9; clear hF9 hu9))
        rw [HXE.out]
        exact bodyPost_ret (v := .agg _) (results_cell0 rfl _ _ (w.heap.size + 1 + 1 + 1) 53 _ _ rfl HF9.out.res Try.underlying53 rfl st_info) rfl ⟨⟨_, _, _, _, rfl⟩, HF9.out.up⟩
      · rw [hx1] at HN
        obtain ⟨hv, hqq, hq1⟩ := nextM_ok hx1
        have hv288 : v < 288 := by have := HLL.out; omega
        have HX1 := Lib.hid hx1
        have HXX := Lib.hid hx
        clear hx hx1 hv
        go_wp2_with (first
          | ((with_reducible refine at_ld 53 3 ?_); refine HF.out.ld rfl rfl (.tmp 3) rfl rfl ?_)
          | ((with_reducible refine at_ld 63 4 ?_); refine HF.out.ld1 HC1.out rfl (.tmp 4) rfl rfl ?_))
        refine HN.out.mono ?_
        rintro e wc ⟨rfl, hb⟩
        have HF2 := Lib.hid (HF.out.call hb)
        have HO2 := Lib.hid (own_upd HOr.out (Upd.of_fresh hb) (fun _ _ => id))
        have HTA2 := Lib.hid (HT1.out.call hb)
        have HTB2 := Lib.hid (HT2.out.call hb)
        clear hb HN c3 c4 c5 HF HOr HT1 HT2
        have hx := HXX.out
        by_cases h256 : v = 256
        · subst h256
          rw [symD_end HX1.out] at hx
          have HXE : Hid (X = .ok (q1, o)) := Lib.hid hx.symm
          clear hx HXX HX1 hv288 HXq
          go_wp2_with (first
            | ((with_reducible refine at_st 53 3 15 ?_); refine HF2.out.st rfl rfl (.tmp 3) (.tmp 15) rfl rfl rfl rfl (st_oneA _ _ _ _ _ _ _ _ _) ?_; intro w3 hF3 hu3; have HF3 := Lib.hid hF3; obtain ⟨c3, c4, c5⟩ := hF3.c345; have HO3 := Lib.hid (own_upd HO2.out hu3 (fun k hk e => by subst e; exact own_blk_ne HO2.out HF2.out.fr.box (by decide) hk)); have HTA3 := Lib.hid (HTA2.out.put HF2.out.fr.box hu3); have HTB3 := Lib.hid (HTB2.out.put HF2.out.fr.box hu3); clear hF3 hu3)
            | ((with_reducible refine at_ld 53 3 ?_); refine HF3.out.ld rfl rfl (.tmp 3) rfl rfl ?_)
            | ((with_reducible refine at_st 53 6 24 ?_); refine HF3.out.stZ rfl rfl (.tmp 6) (.tmp 24) rfl rfl rfl rfl (st_oneA _ _ _ _ _ _ _ _ _) ?_; intro w9 hF9 hu9; have HF9 := Lib.hid hF9; have HO9 := Lib.hid (own_upd HO3.out hu9 (fun k hk e => by subst e; exact own_blk_ne HO3.out HF3.out.fr.res (by decide) hk)); clear hF9 hu9))
          rw [HXE.out]
          exact bodyPost_ret (v := .agg _) (results_cell0 rfl _ _ (w.heap.size + 1 + 1 + 1) 53 _ _ rfl HF9.out.res Try.underlying53 rfl st_info) rfl ⟨_, _, _, rfl, HOK.out, HO9.out, HBk.out, HF9.out.up⟩
        · have e2 : ((v : Int) == 256) = false := by simp; omega
          by_cases hlt : v < 256
          · rw [symD_lit HX1.out hlt, HOK.out] at hx
            have e3 : decide ((v : Int) < 256) = true := by simp; omega
            by_cases hfull : most - mk < 1
            · rw [if_pos hfull] at hx
              have HXE : Hid (X = .error 3) := Lib.hid hx.symm
              have e4 : most ≤ mk := by omega
              clear hx HXX HX1 hv288 HXq hlt hfull h256
              go_wp2_with (first
                | ((with_reducible refine at_st 53 3 15 ?_); refine HF2.out.st rfl rfl (.tmp 3) (.tmp 15) rfl rfl rfl rfl (st_oneA _ _ _ _ _ _ _ _ _) ?_; intro w3 hF3 hu3; have HF3 := Lib.hid hF3; obtain ⟨c3, c4, c5⟩ := hF3.c345; have c5f := HF3.out.fr.box.frozen 5; have HF4 : Hid (FrU w (fun k => some k = (Value.slice Ao m co).ownBlock) cs1.toArray cs2.toArray (stA A b.length c q1 Ak mk ck most 3) st0 (w3.setCell ⟨w.heap.size, 5, none⟩ (.int .i64 3))) := Lib.hid (HF3.out.set_ 5 (.int .i64 3)); clear hF3 hu3)
                | ((with_reducible refine at_ld 53 3 ?_); refine HF4.out.ld rfl rfl (.tmp 3) rfl rfl ?_)
                | ((with_reducible refine at_st 53 6 34 ?_); refine HF4.out.stZ rfl rfl (.tmp 6) (.tmp 34) rfl rfl rfl rfl (st_oneA _ _ _ _ _ _ _ _ _) ?_; intro w9 hF9 hu9; have HF9 := Lib.hid hF9; clear hF9 hu9))
              rw [HXE.out]
              exact bodyPost_ret (v := .agg _) (results_cell0 rfl _ _ (w.heap.size + 1 + 1 + 1) 53 _ _ rfl HF9.out.res Try.underlying53 rfl st_info) rfl ⟨⟨_, _, _, _, rfl⟩, HF9.out.up⟩
            · rw [if_neg hfull] at hx
              have HXN : Hid (symsM b most ll ld q1 (o ++ [UInt8.ofNat v]) = X) := Lib.hid hx
              have e4 : ¬ most ≤ mk := by omega
              have hsk := HSK.out
              have hm63 : mk + 1 ≤ maxLen := by unfold maxLen; omega
              have hm47 : (mk + 1) * 1 ≤ 140737488355328 := by omega
              have HSN : Hid (mk + 1 + 258 * (8 * b.length + 1 - q1) ≤ 140737488000000) := Lib.hid (by omega)
              have hv256 : (v : Int) < 256 := by omega
              have HVV := Lib.hid hlt
              clear hx HXX HX1 hv288 HXq hlt h256 hsk
              go_wp2_with (first
                | ((with_reducible refine at_st 53 3 15 ?_); refine HF2.out.st rfl rfl (.tmp 3) (.tmp 15) rfl rfl rfl rfl (st_oneA _ _ _ _ _ _ _ _ _) ?_; intro w3 hF3 hu3; have HF3 := Lib.hid hF3; obtain ⟨c3, c4, c5⟩ := hF3.c345; have HO3 := Lib.hid (own_upd HO2.out hu3 (fun k hk e => by subst e; exact own_blk_ne HO2.out HF2.out.fr.box (by decide) hk)); have HTA3 := Lib.hid (HTA2.out.put HF2.out.fr.box hu3); have HTB3 := Lib.hid (HTB2.out.put HF2.out.fr.box hu3); have hO4 := HO3.out.alloc (.cells #[.int .u8 (v : Int)] 5); have HF4 := Lib.hid (HF3.out.alloc (.cells #[.int .u8 (v : Int)] 5)); have HTA4 := Lib.hid (HTA3.out.call ((Below.refl _ _).alloc (Nat.le_refl _) (.cells #[.int .u8 (v : Int)] 5))); have HTB4 := Lib.hid (HTB3.out.call ((Below.refl _ _).alloc (Nat.le_refl _) (.cells #[.int .u8 (v : Int)] 5))); have hsz4 : B ≤ (w3.alloc (.cells #[.int .u8 (v : Int)] 5)).heap.size := Nat.le_trans hB HF4.out.fr.up.size; clear hF3 hu3)
                | (at_builtin; refine wpList_append_vs _ rfl (.tmp 36) (.tmp 39) _ rfl B 5 i0 (.int .u8 0) 1 Try.underlying22 hi hz0 hz1 hz2 rfl (.slice Ak mk ck) mk (bytesV o) rfl hO4 (w3.heap.size + 1) (some ⟨w3.heap.size, 0, none⟩) 1 1 [.int .u8 (v : Int)] rfl rfl (vs_lit1 w3 5 _) (by simp [Value.oneCell']) hm63 hm47 hsz4 ?_; intro A6 c6 w6 o6 hg6 hat6; have HF6 := Lib.hid (HF4.out.row hO4 (fun k hk => (HBk.out k hk).imp Eq.symm id) (Upd.of_grown hg6)); have HTA6 := Lib.hid (HTA4.out.row hO4 (Upd.of_grown hg6)); have HTB6 := Lib.hid (HTB4.out.row hO4 (Upd.of_grown hg6)); have hc6 : w6.cell? ⟨w.heap.size, 3, none⟩ = some (.slice Ak mk ck) := HF6.out.fr.box.cell 3; have hf6 := HF6.out.fr.box.frozen 3))
              have HF7 : Hid (FrU w (fun k => some k = (Value.slice Ao m co).ownBlock) cs1.toArray cs2.toArray (stA A b.length c q1 A6 (mk + 1) c6 most 0) st0 (w6.setCell ⟨w.heap.size, 3, none⟩ (.slice A6 (mk + 1) c6))) := Lib.hid (HF6.out.set_ 3 (.slice A6 (mk + 1) c6))
              have hu7 := (Upd.refl (· = w.heap.size) w6).setCell (p := ⟨w.heap.size, 3, none⟩) (fun _ => rfl) (.slice A6 (mk + 1) c6)
              have HO7 := Lib.hid (own_upd o6 hu7 (fun k hk e => by subst e; exact own_blk_ne o6 HF6.out.fr.box (by decide) hk))
              have HTA7 := Lib.hid (HTA6.out.put HF6.out.fr.box hu7)
              have HTB7 := Lib.hid (HTB6.out.put HF6.out.fr.box hu7)
              have HB7 : Hid (∀ k, (Value.slice A6 (mk + 1) c6).ownBlock = some k → (Value.slice Ao m co).ownBlock = some k ∨ w.heap.size ≤ k) := Lib.hid (fun k hk => by
                rcases hat6 with h | h
                · exact HBk.out k (h ▸ hk)
                · rw [h] at hk
                  have := HF4.out.fr.up.size
                  injection hk with hk
                  exact .inr (by omega))
              clear hu7 hg6 hat6 o6 hc6 hf6 hO4
              go_roundg (8 * b.length + 1 - q1)
              case measure => omega
              case rel => exact .inl ⟨q1, mk + 1, c6, A6, o ++ [UInt8.ofNat v], rfl, hq1, by omega, Lib.hid (by rw [List.length_append, HOK.out]; rfl), HSN, HF7, by rw [bytesV_one HVV.out]; exact HO7, HB7, HTA7, HTB7, HXN⟩
          · rw [symD_match HX1.out hlt h256] at hx
            have e3 : decide ((v : Int) < 256) = false := by simp; omega
            have hsk := HSK.out
            have hmk2 : mk ≤ 140737488000000 := by omega
            have hv1 : 257 ≤ v := by omega
            have HXm := Lib.hid hx
            clear hx HXX hsk h256
            go_wp2_with (first
              | ((with_reducible refine at_st 53 3 15 ?_); refine HF2.out.st rfl rfl (.tmp 3) (.tmp 15) rfl rfl rfl rfl (st_oneA _ _ _ _ _ _ _ _ _) ?_; intro w3 hF3 hu3; have HF3 := Lib.hid hF3; obtain ⟨c3, c4, c5⟩ := hF3.c345; have HO3 := Lib.hid (own_upd HO2.out hu3 (fun k hk e => by subst e; exact own_blk_ne HO2.out HF2.out.fr.box (by decide) hk)); have HTA3 := Lib.hid (HTA2.out.put HF2.out.fr.box hu3); have HTB3 := Lib.hid (HTB2.out.put HF2.out.fr.box hu3); clear hF3 hu3)
              | ((with_reducible refine at_ld 53 3 ?_); refine HF3.out.ld rfl rfl (.tmp 3) rfl rfl ?_)
              | ((with_reducible refine at_ld 63 5 ?_); refine HF3.out.ld2 HC2.out rfl (.tmp 5) rfl rfl ?_))
            have HM := dMatch w3 B A c b q1 v Ak mk ck most o ld cs2 HTB3.out.v HLD.out HR2.out (HBS.out w3 HF3.out.fr.up) hbl hq1 hv1 (by omega) (Nat.le_trans hB HF3.out.fr.up.size) HOK.out HO3.out hmk hmost hmk2
            refine HM.mono ?_
            clear HM c3 c4 c5
            intro e w4 h4
            have hx := HXm.out
            rcases hmm : matchM b most ld v q1 o with ke | ⟨q2, o2⟩
            · rw [hmm] at h4 hx
              obtain ⟨⟨p4, A4, m4, c4, rfl⟩, hu4⟩ := h4
              have hke : ke ≠ 0 := symM_err (b := b) (most := most) (ll := ll) (ld := ld) (p := q) (out := o) (by rw [symD_match HX1.out hlt (by omega), hmm])
              have HXE : Hid (X = .error ke) := Lib.hid hx.symm
              have HF4 := Lib.hid (HF3.out.row HO3.out (fun k hk => (HBk.out k hk).imp Eq.symm id) hu4)
              have hlt0 : 0 < 8 * b.length + 1 - q := by omega
              clear hmm hx hu4 HX1 HXm
              go_wp2_with (first
                | ((with_reducible refine at_st 53 3 45 ?_); refine HF4.out.st rfl rfl (.tmp 3) (.tmp 45) rfl rfl rfl rfl (st_oneA _ _ _ _ _ _ _ _ _) ?_; intro w5 hF5 hu5; have HF5 := Lib.hid hF5; clear hF5 hu5))
              go_roundg 0
              case measure => omega
              case rel => exact .inr ⟨rfl, ke, p4, m4, c4, A4, hke, HXE, HF5⟩
            · rw [hmm] at h4 hx
              obtain ⟨A4, m4, c4, rfl, hl4, ho4, hb4, hu4⟩ := h4
              have hok := symM_ok (b := b) (most := most) (ll := ll) (ld := ld) (p := q) (out := o) (q := q2) (out2 := o2) (last := false) (by rw [symD_match HX1.out hlt (by omega), hmm]) HLD.out (by rw [HOK.out]; exact hmk)
              obtain ⟨k1, k2, k3, k4⟩ := hok
              rw [hl4] at k3 k4
              rw [HOK.out] at k4
              have HXN : Hid (symsM b most ll ld q2 o2 = X) := Lib.hid hx
              have HF4 := Lib.hid (HF3.out.row HO3.out (fun k hk => (HBk.out k hk).imp Eq.symm id) hu4)
              have HTA4 := Lib.hid (HTA3.out.row HO3.out hu4)
              have HTB4 := Lib.hid (HTB3.out.row HO3.out hu4)
              have HB4 : Hid (∀ k, (Value.slice A4 m4 c4).ownBlock = some k → (Value.slice Ao m co).ownBlock = some k ∨ w.heap.size ≤ k) := Lib.hid (fun k hk => by
                rcases hb4 k hk with h | h
                · exact HBk.out k h
                · exact .inr (Nat.le_trans HF3.out.fr.up.size h))
              have HO4 := Lib.hid ho4
              have HL4 := Lib.hid hl4
              have hsk := HSK.out
              have HSN : Hid (m4 + 258 * (8 * b.length + 1 - q2) ≤ 140737488000000) := Lib.hid (by omega)
              clear hmm hx hu4 HX1 HXm k4 ho4 hb4 hsk hl4
              go_wp2_with (first
                | ((with_reducible refine at_st 53 3 45 ?_); refine HF4.out.st rfl rfl (.tmp 3) (.tmp 45) rfl rfl rfl rfl (st_oneA _ _ _ _ _ _ _ _ _) ?_; intro w5 hF5 hu5; have HF5 := Lib.hid hF5; have HO5 := Lib.hid (own_upd HO4.out hu5 (fun k hk e => by subst e; exact own_blk_ne HO4.out HF4.out.fr.box (by decide) hk)); have HTA5 := Lib.hid (HTA4.out.put HF4.out.fr.box hu5); have HTB5 := Lib.hid (HTB4.out.put HF4.out.fr.box hu5); clear hF5 hu5))
              go_roundg (8 * b.length + 1 - q2)
              case measure => omega
              case rel => exact .inl ⟨q2, m4, c4, A4, o2, rfl, k2, k3, HL4, HSN, HF5, HO5, HB4, HTA5, HTB5, HXN⟩
    · obtain ⟨c3, c4, c5⟩ := HF.out.c345
      have d5 : ((ke : Int) == 0) = false := by rw [beq_eq_false_iff_ne]; omega
      clear hke
      go_wp2_with (first
        | ((with_reducible refine at_ld 53 3 ?_); refine HF.out.ld rfl rfl (.tmp 3) rfl rfl ?_)
        | ((with_reducible refine at_st 53 6 46 ?_); refine HF.out.stZ rfl rfl (.tmp 6) (.tmp 46) rfl rfl rfl rfl (st_oneA _ _ _ _ _ _ _ _ _) ?_; intro w9 hF9 hu9; have HF9 := Lib.hid hF9; clear hF9 hu9))
      rw [HXE.out]
      exact bodyPost_ret (v := .agg _) (results_cell0 rfl _ _ (w.heap.size + 1 + 1 + 1) 53 _ _ rfl HF9.out.res Try.underlying53 rfl st_info) rfl ⟨⟨_, _, _, _, rfl⟩, HF9.out.up⟩
end Go.Proofs.Ythbdhpciibjnmaa
