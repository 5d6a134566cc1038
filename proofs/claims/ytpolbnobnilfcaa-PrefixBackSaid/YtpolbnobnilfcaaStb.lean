/- Contracts: the comparison that the sort is handed, and the library's exchange of two ranges. -/
import Derived.Test.YtpolbnobnilfcaaSta
import Derived.Test.YtpolbnobnilfcaaVs
import Derived.Test.YtpolbnobnilfcaaTl
import Derived.Test.YtpolbnobnilfcaaRows
import Derived.WalkKit
import Derived.ProofKit
import Derived.ChangeOld
import Derived.Below
import Derived.Lib.Hide
import Derived.Outline
import Derived.BigQuiet
import Derived.BigRegion
import Derived.Handy
import Derived.Deep.QuietTactic
namespace Go.Proofs.Ytpolbnobnilfcaa
open Go.ChangeShapes Go.WideShapes Go.ChangeAt Go.RowKit

theorem re_rot {l l' : List Int} {a m b : Nat} (hp : l'.Perm l) (h : ∀ p, itm l' p = rotv l a m b p) (ha : a ≤ m) (hb : m ≤ b) : Re l l' a b := by
  refine ⟨hp.length_eq, hp, fun p hp => ?_, fun p h1 h2 => ?_⟩
  · rw [h]; unfold rotv; rw [if_neg (by omega)]
  · by_cases c : p < a + (b - m)
    · exact ⟨p - a + m, by omega, by omega, by rw [h]; unfold rotv; rw [if_pos (by omega), if_pos c]⟩
    · exact ⟨p - (b - m), by omega, by omega, by rw [h]; unfold rotv; rw [if_pos (by omega), if_neg c]⟩
theorem swpRange_zero (l : List Int) (a b p : Nat) : itm l p = swpRange l a b 0 p := by
  unfold swpRange
  rw [if_neg (by omega), if_neg (by omega)]
theorem swpRange_step {l l' : List Int} {a b k : Nat} (h : ∀ p, itm l' p = swpRange l a b k p) (hab : a + k < b) (hl : b + k < l'.length) (p : Nat) : itm (swp l' (a + k) (b + k)) p = swpRange l a b (k + 1) p := by
  rw [itm_swp l' (a + k) (b + k) p (by omega) hl]
  simp only [h]
  unfold swpRange
  by_cases e : p = b + k
  · subst e
    rw [if_pos rfl, if_neg (by omega), if_neg (by omega), if_neg (by omega), if_pos (by omega)]
    congr 1; omega
  · rw [if_neg e]
    by_cases e' : p = a + k
    · subst e'
      rw [if_pos rfl, if_neg (by omega), if_neg (by omega), if_pos (by omega)]
      congr 1; omega
    · rw [if_neg e']
      by_cases c : a ≤ p ∧ p < a + k
      · rw [if_pos c, if_pos (by omega)]
      · rw [if_neg c]
        by_cases c' : b ≤ p ∧ p < b + k
        · rw [if_pos c', if_neg (by omega), if_pos (by omega)]
        · rw [if_neg c', if_neg (by omega), if_neg (by omega)]

/-- The numbers l lie in a row of the call's own in block g. -/
def Row (w : World) (base g N c : Nat) (l : List Int) : Prop := w.ownsRow base 3 1 (.slice (some ⟨g, 0, none⟩) N c) N (intsV l)
section
variable {w w' : World} {base g N c : Nat} {l : List Int}
theorem Row.len (h : Row w base g N c l) : l.length = N := by
  have := own_len h
  rwa [intsV_length] at this
theorem Row.cell (h : Row w base g N c l) {k : Nat} (hk : k < N) : w.cell? ⟨g, k, none⟩ = some (.int .i64 (itm l k)) := by
  have hl := h.len
  rw [row_at h k (by omega), itm_get l k (by omega)]
theorem Row.free (h : Row w base g N c l) (k : Nat) : w.frozen? ⟨g, k, none⟩ = false := h.frozenAt k
theorem Row.set_ (h : Row w base g N c l) (k : Nat) (x : Int) : Row (w.setCell ⟨g, k, none⟩ (.int .i64 x)) base g N c (l.set k x) := row_set h k x
theorem Row.swap (h : Row w base g N c l) (i j : Nat) : Row ((w.setCell ⟨g, i, none⟩ (.int .i64 (itm l j))).setCell ⟨g, j, none⟩ (.int .i64 (itm l i))) base g N c (swp l i j) := (h.set_ i _).set_ j _
theorem Row.drewN (h : Row w base g N c l) (n : Nat) : Row (w.drewN n) base g N c l := h
end
/-- Nothing but block g was written. -/
def OnG (g : Nat) (w w' : World) : Prop := Upd (· = g) w w'
theorem OnG.refl (g : Nat) (w : World) : OnG g w w := Upd.refl _ w
theorem OnG.trans {g : Nat} {w w' w'' : World} (h : OnG g w w') (k : OnG g w' w'') : OnG g w w'' := Upd.trans h k
theorem OnG.set_ {g : Nat} {w w' : World} (h : OnG g w w') (k : Nat) (u : Value) : OnG g w (w'.setCell ⟨g, k, none⟩ u) := Upd.setCell h (p := ⟨g, k, none⟩) (fun _ => rfl) u
theorem OnG.drew {g : Nat} {w w' : World} (h : OnG g w w') : OnG g w w'.drew := Upd.drew h
theorem OnG.drewN {g : Nat} {w w' : World} (h : OnG g w w') (n : Nat) : OnG g w (w'.drewN n) := Upd.drewN h n

def cmpI (a b : Int) : Int := if a < b then -1 else if b < a then 1 else 0
theorem cmpI_lt {a b : Int} (h : a < b) : cmpI a b = -1 := if_pos h
theorem cmpI_ge {a b : Int} (h : ¬ a < b) : 0 ≤ cmpI a b := by unfold cmpI; rw [if_neg h]; split <;> omega
theorem isNaN_any (x : Int) (w : World) : Calls Try.prog 57 #[.int .i64 x] w fun e w' => e = .returned (.bool false) ∧ w = w' := by
  go_enter Try.func57, Try.ntmps57
  go_wp2_with fail
  go_ret
  exact ⟨by simp, rfl⟩
theorem ret_i64 {a b : Int} (h : a = b) : Ending.returned (.int .i64 a) = .returned (.int .i64 b) := by rw [h]
theorem compare_any (a b : Int) (w : World) : Calls Try.prog 52 #[.int .i64 a, .int .i64 b] w fun e w' => e = .returned (.int .i64 (cmpI a b)) ∧ w = w' := by
  by_cases h : a < b
  · have e := Lib.hid (cmpI_lt h)
    go_enter Try.func52, Try.ntmps52
    go_wp2_with (go_at_call 57; refine (isNaN_any _ _).mono ?_; rintro e w' ⟨rfl, rfl⟩)
    go_ret
    exact ⟨ret_i64 e.out.symm, rfl⟩
  · by_cases h2 : b < a
    · have e : Hid (cmpI a b = 1) := Lib.hid (by unfold cmpI; rw [if_neg h, if_pos h2])
      go_enter Try.func52, Try.ntmps52
      go_wp2_with (go_at_call 57; refine (isNaN_any _ _).mono ?_; rintro e w' ⟨rfl, rfl⟩)
      go_ret
      exact ⟨ret_i64 e.out.symm, rfl⟩
    · have e : Hid (cmpI a b = 0) := Lib.hid (by unfold cmpI; rw [if_neg h, if_neg h2])
      go_enter Try.func52, Try.ntmps52
      go_wp2_with (go_at_call 57; refine (isNaN_any _ _).mono ?_; rintro e w' ⟨rfl, rfl⟩)
      go_ret
      exact ⟨ret_i64 e.out.symm, rfl⟩
theorem quiet_same {P : Program} {f : FuncId} {args : Array Value} {w : World} {n : Nat} {v : Value}
    (h : Calls P f args (w.drewN n) fun e w' => e = .returned v ∧ w.drewN n = w') : Calls P f args (w.drewN n) fun e w'' => e = .returned v ∧ ∃ m, w'' = w.drewN m :=
  h.mono fun _ _ ⟨he, hm⟩ => ⟨he, n, hm.symm⟩

/-- What the comparison reads: the box of the counts, the counts; it lies apart from block g. -/
structure Ctx (w : World) (g Bc : Nat) (A : Option Addr) (n c : Nat) (cs : List Int) : Prop where
  box : w.cell? ⟨Bc, 0, none⟩ = some (.slice A n c)
  ne : Bc ≠ g
  lt : Bc < w.heap.size
  len : cs.length = n
  row : Is w w.heap.size A cs
  far : ∀ ad, A = some ad → ad.block ≠ g
theorem Ctx.on {w w' : World} {g Bc n c : Nat} {A : Option Addr} {cs : List Int} (h : Ctx w g Bc A n c cs) (u : OnG g w w') : Ctx w' g Bc A n c cs :=
  ⟨(World.cell?_of_block (u.block Bc h.lt h.ne)).trans h.box, h.ne, Nat.lt_of_lt_of_le h.lt u.size, h.len, Vs.more (Vs.upd h.row u (Nat.le_refl _) (fun ad e _ => h.far ad e)) u.size, h.far⟩
theorem Ctx.drewN {w : World} {g Bc n c : Nat} {A : Option Addr} {cs : List Int} (h : Ctx w g Bc A n c cs) (m : Nat) : Ctx (w.drewN m) g Bc A n c cs := ⟨h.box, h.ne, h.lt, h.len, h.row, h.far⟩
/-- The key of a symbol: its count. -/
def cnt (cs : List Int) (x : Int) : Int := itm cs x.toNat
theorem cmp_any (w : World) (g Bc : Nat) (A : Option Addr) (n c : Nat) (cs : List Int) (h : Ctx w g Bc A n c cs) (x y : Int) (hx : 0 ≤ x ∧ x < n) (hy : 0 ≤ y ∧ y < n) :
    Calls Try.prog 51 #[.int .i64 x, .int .i64 y, .pointer (some ⟨Bc, 0, none⟩)] w fun e w' => e = .returned (.int .i64 (cmpI (cnt cs x) (cnt cs y))) ∧ ∃ m, w' = w.drewN m := by
  obtain ⟨hx0, hxn⟩ := hx
  obtain ⟨hy0, hyn⟩ := hy
  have hb := h.box
  have hl := h.len
  obtain ⟨ad, rfl, _, hcx⟩ := Is.at_ (k := x.toNat) h.row (by omega)
  obtain ⟨ad2, e2, _, hcy⟩ := Is.at_ (k := y.toNat) h.row (by omega)
  injection e2 with e2
  subst e2
  rw [← itm_get cs x.toNat (by omega)] at hcx
  rw [← itm_get cs y.toNat (by omega)] at hcy
  unfold cnt
  clear h hl
  go_enter Try.func51, Try.ntmps51
  go_wp2_with fail
  go_quiet ((go_at_call 52; exact quiet_same (compare_any _ _ _)))
  go_wp2_with fail
  go_ret
  exact ⟨rfl, _, rfl⟩

set_option maxHeartbeats 1000000 in
set_option maxRecDepth 100000 in
theorem swapRange_any (w : World) (base g N c : Nat) (l : List Int) (a b n : Nat) (f : Value) (h : Row w base g N c l) (hab : a + n ≤ b) (hbn : b + n ≤ N) (hN : N ≤ 1048576) :
    Calls Try.prog 62 #[.slice (some ⟨g, 0, none⟩) N c, .int .i64 (a : Int), .int .i64 (b : Int), .int .i64 (n : Int), f] w fun e w' => e = .returned (.tuple #[]) ∧ ∃ l', Row w' base g N c l' ∧ OnG g w w' ∧ l'.Perm l ∧ ∀ p, itm l' p = swpRange l a b n p := by
  go_enter Try.func62, Try.ntmps62
  go_wp2_with fail
  go_loopw [10] (fun i wr => ∃ k : Nat, k ≤ n ∧ i = .int .i64 k ∧ ∃ l', Row wr base g N c l' ∧ OnG g w wr ∧ l'.Perm l ∧ Hid (∀ p, itm l' p = swpRange l a b k p)) (fun i _ => n - (intOf i).toNat)
  case atStart => exact ⟨0, by omega, rfl, l, h, OnG.refl _ _, List.Perm.refl _, Lib.hid (swpRange_zero l a b)⟩
  case round =>
    obtain ⟨k, hk, rfl, l', hR, hU, hP, hV⟩ := hrel
    by_cases hlt : k < n
    · have hca := hR.cell (k := a + k) (by omega)
      have hcb := hR.cell (k := b + k) (by omega)
      have hfa := hR.free (a + k)
      have hfb := hR.free (b + k)
      have HL := Lib.hid hR.len
      have HR := Lib.hid hR; clear hR
      have ea : IntKind.i64.wrap ((a : Int) + k) = (a : Int) + k := IntWalk.i64_in _ (by omega)
      have eb : IntKind.i64.wrap ((b : Int) + k) = (b : Int) + k := IntWalk.i64_in _ (by omega)
      have na : ((a : Int) + k).toNat = a + k := by omega
      have nb : ((b : Int) + k).toNat = b + k := by omega
      have i1 : (0 : Int) ≤ (a : Int) + k := by omega
      have i2 : (a : Int) + k < N := by omega
      have i3 : (0 : Int) ≤ (b : Int) + k := by omega
      have i4 : (b : Int) + k < N := by omega
      go_wp2_with fail
      go_region
      all_goals
        go_wp2_with fail
        go_roundw
        case rel => exact ⟨k + 1, by omega, by go_num, swp l' (a + k) (b + k), HR.out.swap _ _, ((hU.set_ _ _).set_ _ _).drew, (swp_perm l' _ _ (by have := HL.out; omega) (by have := HL.out; omega)).trans hP, Lib.hid (swpRange_step hV.out (by omega) (by have := HL.out; omega))⟩
        case measure => simp [intOf]; omega
    · obtain rfl : k = n := by omega
      go_wp2_with fail
      go_end0
      exact ⟨rfl, l', hR, hU, hP, hV.out⟩
theorem swapRange_n (w : World) (base g N c : Nat) (l : List Int) (a b n : Nat) (x y z : Int) (f : Value) (hx : x = a) (hy : y = b) (hz : z = n) (h : Row w base g N c l) (hab : a + n ≤ b) (hbn : b + n ≤ N) (hN : N ≤ 1048576) :
    Calls Try.prog 62 #[.slice (some ⟨g, 0, none⟩) N c, .int .i64 x, .int .i64 y, .int .i64 z, f] w fun e w' => e = .returned (.tuple #[]) ∧ ∃ l', Row w' base g N c l' ∧ OnG g w w' ∧ l'.Perm l ∧ ∀ p, itm l' p = swpRange l a b n p := by
  subst hx hy hz
  exact swapRange_any w base g N c l a b n f h hab hbn hN
end Go.Proofs.Ytpolbnobnilfcaa
