/- Contract of the program's Raw. -/
import Derived.Test.YthbdhpciibjnmaaIo
import Derived.Defers
import Derived.Recover
import Derived.Deep.RegionHeld3
namespace Go.Proofs.Ythbdhpciibjnmaa
open Go.ChangeShapes Go.WideShapes Go.ChangeAt Go.RowKit

theorem assert_errno (v : Value) (w : World) : (Instr.typeAssert (.iface 24 v) 20 24 false).run Try.prog w = .ok v w := by kernel_rfl
theorem catch_panicking (p : Addr) (x : Int) (k : Nat) (older : List PanicEntry) (w : World) (hc : w.cell? p = some (.int .i64 x)) (hz : w.frozen? p = false) :
    CallsD Try.prog 17 #[.pointer (some p)] (.panicking ({ v := .iface 24 (.int .i64 (k : Int)), recovered := false } :: older)) w fun e u' w' =>
      e = .returned (.tuple #[]) ∧ u' = .panicking ({ v := .iface 24 (.int .i64 (k : Int)), recovered := true } :: older) ∧ w' = w.setCell p (.int .i64 (k : Int)) := by
  refine callsD_of_wpS Try.func17 rfl fun c₀ cs hu => ?_
  apply wpS_seq
  apply wpS_region
  simp [wpOpsS, go_sem, recoverD, hu, Try.ntmps17, Exit.thenS]
  apply wpS_seq
  apply wpS_region
  simp [wpOpsS, go_sem, Exit.thenS, Array.replicate]
  refine wpS_cond (t := true) (by simp [Act.eval]) ?_
  simp only [if_true]
  apply wpS_region
  simp [wpOpsS, go_sem, assert_errno, hc, hz, bodyPostS, results, Try.results17]
theorem catch_idle (p : Addr) (w : World) :
    CallsD Try.prog 17 #[.pointer (some p)] .returning w fun e u' w' => e = .returned (.tuple #[]) ∧ u' = .returning ∧ w' = w := by
  refine callsD_of_wpS Try.func17 rfl fun c₀ cs hu => ?_
  apply wpS_seq
  apply wpS_region
  simp [wpOpsS, go_sem, recoverD, hu, Try.ntmps17, Exit.thenS]
  apply wpS_seq
  apply wpS_region
  simp [wpOpsS, go_sem, Exit.thenS, Array.replicate]
  refine wpS_cond (t := false) (by simp [Act.eval]) ?_
  simp only [Bool.false_eq_true, if_false]
  refine wpS_of_wp (wp_skip ?_)
  cases c₀
  simp_all [bodyPostS, results, Try.results17]
section
variable {b : List UInt8} {most : Nat}
theorem rawF_fuel : ∀ r r' p out, 8 * b.length + 1 - p ≤ r → 8 * b.length + 1 - p ≤ r' → p ≤ 8 * b.length → out.length ≤ most → rawF b most r p out = rawF b most r' p out := by
  intro r
  induction r with
  | zero => intro r' p out h1 _ h3; omega
  | succ r ih =>
    intro r' p out h1 h2 h3 h4
    obtain ⟨s, rfl⟩ : ∃ s, r' = s + 1 := ⟨r' - 1, by omega⟩
    rw [rawF, rawF]
    rcases hx : blockM b most p out with ke | ⟨q, o2, last⟩
    · rfl
    · obtain ⟨g1, g2, g3, _⟩ := blockM_ok hx h4
      cases last
      · exact ih s q o2 (by omega) (by omega) (by omega) g3
      · rfl
/-- The blocks from a place on. -/
def blocksM (b : List UInt8) (most p : Nat) (out : List UInt8) : Except Nat (Nat × List UInt8) := rawF b most (8 * b.length + 1 - p) p out
theorem blocksM_step {p : Nat} {out : List UInt8} (hp : p ≤ 8 * b.length) (hol : out.length ≤ most) : blocksM b most p out = match blockM b most p out with
    | .error e => .error e
    | .ok (q, out, true) => .ok (q, out)
    | .ok (q, out, false) => blocksM b most q out := by
  conv => lhs; unfold blocksM
  rw [show 8 * b.length + 1 - p = (8 * b.length - p) + 1 by omega, rawF]
  rcases hx : blockM b most p out with ke | ⟨q, o2, last⟩
  · rfl
  · obtain ⟨g1, g2, g3, _⟩ := blockM_ok hx hol
    cases last
    · exact rawF_fuel _ _ _ _ (by omega) (by omega) (by omega) g3
    · rfl
def finM (x : Except Nat (Nat × List UInt8)) : Except Nat (List UInt8 × Nat) := match x with
    | .error e => .error e
    | .ok (p, out) => .ok (out, (p + 7) / 8)
theorem rawM_blocks : rawM b most = finM (blocksM b most 0 []) := rfl
end
def RawR (w : World) (x : Except Nat (List UInt8 × Nat)) (e : Ending) (w' : World) : Prop :=
  match x with
  | .error k => e = .returned (.tuple #[.slice none 0 0, .int .i64 0, .int .i64 (k : Int)]) ∧ Below w.heap.size w w'
  | .ok (out, n) => ∃ Ao co, e = .returned (.tuple #[.slice Ao out.length co, .int .i64 (n : Int), .int .i64 0]) ∧ w'.ownsRow w.heap.size 5 1 (.slice Ao out.length co) out.length (bytesV out) ∧ Below w.heap.size w w'
set_option maxHeartbeats 8000000 in
set_option maxRecDepth 100000 in
theorem raw_any (w : World) (A : Option Addr) (c : Nat) (b : List UInt8) (mo : Int) (hbs : Bs w w.heap.size A b) (hmo : -9223372036854775808 ≤ mo ∧ mo ≤ 9223372036854775807) (hcap : CapOk mo.toNat b.length) :
    Calls Try.prog 10 #[.slice A b.length c, .int .i64 mo] w (RawR w (rawM b mo.toNat)) := by
  obtain ⟨X, HX⟩ : ∃ X, Hid (rawM b mo.toNat = X) := ⟨_, Lib.hid rfl⟩
  rw [HX.out]
  have hmf : ∀ (fn : Fn) (first cap : Array Value) (w : World), (Instr.makeFunc fn first cap).run Try.prog w = .ok (.func fn first cap) w := fun _ _ _ _ => rfl
  have HCAP := Lib.hid hcap
  have HBS := Lib.hid hbs
  clear hcap hbs
  go_enter_defers Try.func10, Try.ntmps10
  go_wp2_with fail
  have hb0 := (Below.refl w.heap.size w).alloc (Nat.le_refl _) (.cells #[.int .i64 0] 24)
  have hR0 : Blk (w.alloc (.cells #[.int .i64 0] 24)) w.heap.size 24 #[.int .i64 0] := Blk.new _ _ _
  have hz0 : (w.alloc (.cells #[.int .i64 0] 24)).heap.size = w.heap.size + 1 := by simp
  have HB0 := Lib.hid hb0
  have HR0 := Lib.hid hR0
  have HZ0 := Lib.hid hz0
  clear hb0 hR0 hz0
  generalize w.alloc (.cells #[.int .i64 0] 24) = w0 at *
  refine (newReader_any A c b false w.heap.size w0 (HBS.out.below HB0.out) HB0.out.size (by have := HCAP.out.2.2; omega)).mono ?_
  rintro e w1 ⟨gr, A1, c1, rfl, hr1, hb1⟩
  have HR1 := Lib.hid hr1
  have HB1 := Lib.hid hb1
  clear hr1 hb1
  obtain ⟨m, hm⟩ : ∃ m, mo.toNat = m := ⟨_, rfl⟩
  rw [hm] at HX HCAP
  have HM := Lib.hid hm
  clear hm
  have hbl : b.length ≤ 70368744000000 := HCAP.out.2.2
  have HSt : Hid (∀ v, v = Value.int .i64 (m : Int) → Str (w1.alloc (.cells #[.pointer (some ⟨gr, 0, none⟩), .slice none 0 0, v, .pointer none] 48)) (w.heap.size + 1) w1.heap.size gr A1 c1 b m 0 none 0 [] none) := Lib.hid (fun v hv => by
    subst hv
    have h1 := HR1.out
    rw [HZ0.out] at h1
    have h2 := HB1.out.size
    have h3 := HZ0.out
    exact ⟨Blk.new _ _ _, h1.upd ((Upd.refl No w1).alloc _) id (fun _ _ => id), World.ownsRow_nil _ _ _ _, by omega, by simp; omega, .inl rfl, fun k hk => by cases hk⟩)
  have HLt : Hid (∀ v, Left w0 (w.heap.size + 1) (w1.alloc (.cells #[.pointer (some ⟨gr, 0, none⟩), .slice none 0 0, v, .pointer none] 48))) := Lib.hid (fun v => by
    have h1 := HB1.out.alloc HB1.out.size (.cells #[.pointer (some ⟨gr, 0, none⟩), .slice none 0 0, v, .pointer none] 48)
    exact Left.fresh h1 (by have := HZ0.out; omega))
  obtain ⟨Y, HY⟩ : ∃ Y, Hid (blocksM b m 0 [] = Y) := ⟨_, Lib.hid rfl⟩
  have HXY : Hid (finM Y = X) := Lib.hid (by rw [← HX.out, rawM_blocks, HY.out])
  have hcase : (mo < 0 ∧ m = 0) ∨ mo = (m : Int) := by have := HM.out; omega
  clear HX HM
  rcases hcase with ⟨hneg, rfl⟩ | rfl
  all_goals
    go_wp2_with fail
    first
    | (have HS2 := Lib.hid (HSt.out (.int .i64 0) rfl); have HL2 := Lib.hid (HLt.out (.int .i64 0)); generalize w1.alloc (.cells #[.pointer (some ⟨gr, 0, none⟩), .slice none 0 0, .int .i64 0, .pointer none] 48) = w2 at *; clear hneg)
    | (have HS2 := Lib.hid (HSt.out (.int .i64 (m : Int)) rfl); have HL2 := Lib.hid (HLt.out (.int .i64 (m : Int))); generalize w1.alloc (.cells #[.pointer (some ⟨gr, 0, none⟩), .slice none 0 0, .int .i64 (m : Int), .pointer none] 48) = w2 at *)
    clear HSt HLt
    go_loopg [8] (8 * b.length) (fun gk v wr => ∃ (q : Nat) (o : List UInt8) (last : Bool), gk = 8 * b.length - q ∧ v = .bool last ∧ q ≤ 8 * b.length ∧ Hid (OutOk _ q o) ∧ Hid (Strm wr (w.heap.size + 1) w1.heap.size gr A1 c1 b _ q o) ∧ Hid (Left w0 (w.heap.size + 1) wr) ∧ Hid ((if last then .ok (q, o) else blocksM b _ q o) = Y))
    case atStart => exact ⟨0, [], false, rfl, rfl, by omega, Lib.hid ⟨Nat.zero_le _, Nat.zero_le _⟩, Lib.hid HS2.out.strm, HL2, HY⟩
    case round =>
      obtain ⟨q, o, last, rfl, rfl, hq, HOo, HS, HL, HYq⟩ := hrel
      have hR := (HL.out.1.block w.heap.size (Nat.lt_succ_self _)).trans HR0.out
      have HRr : Hid (Blk wr w.heap.size 24 #[.int .i64 0]) := Lib.hid hR
      cases last
      · have hyq := HYq.out
        rw [if_neg (by decide), blocksM_step hq HOo.out.1] at hyq
        have HBK := Lib.hid (block_any wr (w.heap.size + 1) w1.heap.size gr A1 c1 b _ q o HS.out HCAP.out HOo.out)
        rcases hb : blockM b _ q o with ke | ⟨q2, o2, l2⟩
        · rw [hb] at HBK hyq
          have HXE : Hid (X = .error ke) := Lib.hid (by rw [← HXY.out, ← hyq]; rfl)
          clear hb hyq hR
          go_wp2_with fail
          refine HBK.out.mono ?_
          rintro e w3 ⟨rfl, hl3⟩
          have hR3 : Blk w3 w.heap.size 24 #[.int .i64 0] := ((HL.out.trans hl3).1.block w.heap.size (Nat.lt_succ_self _)).trans HR0.out
          refine leaves_cons (f := 17) (args := #[.pointer (some ⟨w.heap.size, 0, none⟩)]) (by simp) (by simp [go_sem]) ?_
          refine (catch_panicking ⟨w.heap.size, 0, none⟩ 0 ke [] w3 ((hR3.cell 0).trans rfl) (hR3.frozen 0)).mono ?_
          rintro e u' w'' ⟨rfl, rfl, rfl⟩
          have hbf : Below w.heap.size w (w3.setCell ⟨w.heap.size, 0, none⟩ (.int .i64 (ke : Int))) := (HB0.out.trans ((HL.out.trans hl3).1.mono (Nat.le_succ _))).setCell (p := ⟨w.heap.size, 0, none⟩) (Nat.le_refl _) _
          have hce : (w3.setCell ⟨w.heap.size, 0, none⟩ (.int .i64 (ke : Int))).cell? ⟨w.heap.size, 0, none⟩ = some (.int .i64 (ke : Int)) := ((hR3.set_ 0 (.int .i64 (ke : Int))).cell 0).trans rfl
          rw [HXE.out]
          simp [Leaves, settle, results, Try.results10, go_sem, hce]
          exact ⟨rfl, hbf⟩
        · rw [hb] at HBK hyq
          obtain ⟨g1, g2, g3, g4⟩ := blockM_ok hb HOo.out.1
          have HO2 : Hid (OutOk _ q2 o2) := Lib.hid ⟨g3, by have := HOo.out.2; omega⟩
          have HY2 : Hid ((if l2 then .ok (q2, o2) else blocksM b _ q2 o2) = Y) := Lib.hid (by rw [← hyq]; cases l2 <;> rfl)
          clear hb hyq g3 g4 hR
          go_wp2_with fail
          refine HBK.out.mono ?_
          rintro e w3 ⟨rfl, hs3, hl3⟩
          have HS3 := Lib.hid hs3
          have HL3 := Lib.hid (HL.out.trans hl3)
          clear hs3 hl3
          go_wp2_with fail
          go_roundg (8 * b.length - q2)
          case measure => omega
          case rel => exact ⟨q2, o2, l2, rfl, rfl, g2, HO2, HS3, HL3, HY2⟩
      · have hyq := HYq.out
        rw [if_pos rfl] at hyq
        have HXE : Hid (X = .ok (o, (q + 7) / 8)) := Lib.hid (by rw [← HXY.out, ← hyq]; rfl)
        clear hyq hR
        obtain ⟨Ao, co, fx, hS⟩ := HS.out
        have HSS := Lib.hid hS
        have c0 := hS.in_
        have c1' := hS.out_
        have k0 := (HRr.out.cell 0).trans rfl
        have f0 := HRr.out.frozen 0
        have HRD : Hid (Rdr wr.drew (w.heap.size + 1) gr A1 c1 b false q) := Lib.hid hS.drew.rdr
        have s1 : IntKind.i64.wrap ((q : Int) + 7) = (q : Int) + 7 := IntWalk.i64_in _ (by omega)
        have s2 : 0 ≤ (q : Int) + 7 := by omega
        clear hS HS
        go_wp2_with fail
        refine wp_region_noPanic ?_
        go_region_with (go_at_call 20; refine (place_any _ _ _ _ _ _ _ _ HRD.out).mono ?_; rintro e w9 ⟨rfl, rfl⟩)
        all_goals
          refine NoPanic.normal ?_
          go_wp2_with fail
          refine leaves_cons (f := 17) (args := #[.pointer (some ⟨w.heap.size, 0, none⟩)]) (by simp) (by simp [go_sem]) ?_
          refine (catch_idle ⟨w.heap.size, 0, none⟩ _).mono ?_
          rintro e u' w'' ⟨rfl, rfl, rfl⟩
          have hq8 : IntKind.i64.wrap (((q : Int) + 7).tdiv 8) = (((q + 7) / 8 : Nat) : Int) := by
            rw [Int.tdiv_eq_ediv_of_nonneg (by omega), IntWalk.i64_in _ (by omega)]
            omega
          have hce : ((wr.setCell ⟨w.heap.size, 0, none⟩ (.int .i64 0)).drew).cell? ⟨w.heap.size, 0, none⟩ = some (.int .i64 0) := ((HRr.out.set_ 0 (.int .i64 0)).cell 0).trans rfl
          have hce2 : (wr.setCell ⟨w.heap.size, 0, none⟩ (.int .i64 0)).cell? ⟨w.heap.size, 0, none⟩ = some (.int .i64 0) := hce
          have hbf : Below w.heap.size w ((wr.setCell ⟨w.heap.size, 0, none⟩ (.int .i64 0)).drew) := ((HB0.out.trans (HL.out.1.mono (Nat.le_succ _))).setCell (p := ⟨w.heap.size, 0, none⟩) (Nat.le_refl _) _).drew
          have hof : ((wr.setCell ⟨w.heap.size, 0, none⟩ (.int .i64 0)).drew).ownsRow w.heap.size 5 1 (.slice Ao o.length co) o.length (bytesV o) :=
            own_base (own_upd HSS.out.own (((Upd.refl (· = w.heap.size) wr).setCell (p := ⟨w.heap.size, 0, none⟩) (fun _ => rfl) (.int .i64 0)).drew) (fun k hk e => by have := HSS.out.own.lt k hk; omega)) (Nat.le_succ _)
          rw [HXE.out]
          simp [Leaves, settle, results, Try.results10, go_sem, hce2]
          exact ⟨Ao, co, by rw [hq8], hof, hbf⟩
end Go.Proofs.Ythbdhpciibjnmaa
