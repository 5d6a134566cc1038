/- Joined texts (a claim has at most 60 files): Tmb Na Sl. -/
import Derived.Test.YtfbokhdimffabaaGreatDoorAs
import Derived.Test.YtfbokhdimffabaaGreatDoorTma
import Derived.Lib.Hide
import Derived.Lib.Walk
import Derived.WalkKit
import Derived.WalkLawsBesides
import Derived.Handy
import Derived.Outline
import Derived.Test.YtfbokhdimffabaaGreatDoorAr
import Derived.Test.YtfbokhdimffabaaGreatDoorCo
import Derived.Laws.Slices
import Derived.RegionTactic
/- Depths; numbers brought into a range; quotients rounded down: the program's and the document's, walked. -/
namespace Go.Proofs.YtfbokhdimffabaaGreatDoor
open Go.ChangeShapes Go.WideShapes Go.ChangeAt Go.RowKit

def mostB (m : Int) : Bool := decide (1 ≤ m) && decide (m ≤ 65535)
theorem mostB_true {m : Int} (h : mostB m = true) : 1 ≤ m ∧ m ≤ 65535 := by simpa [mostB] using h
theorem mostB_false {m : Int} (h : mostB m = false) : ¬ (1 ≤ m ∧ m ≤ 65535) := by simp [mostB] at h; omega
theorem most_any (m : Int) (w : World) : Calls Tryz.prog 71 #[.int .i64 m] w fun e w' => e = .returned (.bool (mostB m)) ∧ w' = w := by
  go_enter Tryz.func71, Tryz.ntmps71
  by_cases h1 : (1 : Int) ≤ m
  · go_wp2_with fail
    go_ret
    exact ⟨ret_bl (by simp [mostB, h1]), rfl⟩
  · go_wp2_with fail
    go_ret
    exact ⟨ret_bl (by simp [mostB]; omega), rfl⟩
/-- May v be brought from m to 65535? -/
def UpOk (v m : Int) : Prop := 1 ≤ m ∧ m ≤ 65535 ∧ 0 ≤ v ∧ v ≤ m
def UpR (v m : Int) (w : World) (e : Ending) (w' : World) : Prop :=
  w' = w ∧ ((UpOk v m ∧ e = .returned (.tuple #[.int .u16 (upN v m), .int .i64 0])) ∨ (¬ UpOk v m ∧ e = .returned (.tuple #[.int .u16 0, .int .i64 2])))
theorem up_any (v m : Int) (hv : -9223372036854775808 ≤ v ∧ v ≤ 9223372036854775807) (hm : -9223372036854775808 ≤ m ∧ m ≤ 9223372036854775807) (w : World) : Calls Tryz.prog 38 #[.int .i64 v, .int .i64 m] w (UpR v m w) := by
  go_enter Tryz.func38, Tryz.ntmps38
  go_wp2_with fail
  refine (most_any m w).mono ?_
  rintro e w1 ⟨rfl, rfl⟩
  cases hb : mostB m with
  | false =>
    have := mostB_false hb
    go_wp2_with fail
    go_ret2
    exact ⟨rfl, .inr ⟨fun h => this ⟨h.1, h.2.1⟩, rfl⟩⟩
  | true =>
    have hm2 := mostB_true hb
    rcases Int.lt_or_le v 0 with h | h
    · go_wp2_with fail
      go_ret2
      exact ⟨rfl, .inr ⟨fun hh => by have := hh.2.2.1; omega, rfl⟩⟩
    · rcases Int.lt_or_le m v with h2 | h2
      · go_wp2_with fail
        go_ret2
        exact ⟨rfl, .inr ⟨fun hh => by have := hh.2.2.2; omega, rfl⟩⟩
      · have hu := upN_bd h h2 hm2.1
        have e2 : m.tdiv 2 = m / 2 := Int.tdiv_eq_ediv_of_nonneg (by omega)
        have e3 : (65535 * v + m / 2).tdiv m = (65535 * v + m / 2) / m := Int.tdiv_eq_ediv_of_nonneg (by omega)
        have e4 : m ≠ 0 := by omega
        unfold upN at hu
        clear hb
        go_wp2_with fail
        go_ret2
        exact ⟨rfl, .inl ⟨⟨hm2.1, hm2.2, h, h2⟩, rfl⟩⟩
theorem refUp_any (v m : Int) (hv : -9223372036854775808 ≤ v ∧ v ≤ 9223372036854775807) (hm : -9223372036854775808 ≤ m ∧ m ≤ 9223372036854775807) (w : World) : Calls Tryz.prog 24 #[.int .i64 v, .int .i64 m] w (UpR v m w) := by
  go_enter Tryz.func24, Tryz.ntmps24
  by_cases hm2 : 1 ≤ m ∧ m ≤ 65535
  case neg =>
    rcases Int.lt_or_le m 1 with h1 | h1
    · go_wp2_with fail
      go_ret2
      exact ⟨rfl, .inr ⟨fun h => hm2 ⟨h.1, h.2.1⟩, rfl⟩⟩
    · have h1' : 65535 < m := by omega
      go_wp2_with fail
      go_ret2
      exact ⟨rfl, .inr ⟨fun h => hm2 ⟨h.1, h.2.1⟩, rfl⟩⟩
  case pos =>
    have a1 := hm2.1
    have a2 := hm2.2
    rcases Int.lt_or_le v 0 with h | h
    · go_wp2_with fail
      go_ret2
      exact ⟨rfl, .inr ⟨fun hh => by have := hh.2.2.1; omega, rfl⟩⟩
    · rcases Int.lt_or_le m v with h2 | h2
      · go_wp2_with fail
        go_ret2
        exact ⟨rfl, .inr ⟨fun hh => by have := hh.2.2.2; omega, rfl⟩⟩
      · have hu := upN_bd h h2 hm2.1
        have e2 : m.tdiv 2 = m / 2 := Int.tdiv_eq_ediv_of_nonneg (by omega)
        have e3 : (65535 * v + m / 2).tdiv m = (65535 * v + m / 2) / m := Int.tdiv_eq_ediv_of_nonneg (by omega)
        have e4 : m ≠ 0 := by omega
        unfold upN at hu
        go_wp2_with fail
        go_ret2
        exact ⟨rfl, .inl ⟨⟨hm2.1, hm2.2, h, h2⟩, rfl⟩⟩
def DownR (s m : Int) (w : World) (e : Ending) (w' : World) : Prop :=
  w' = w ∧ (((1 ≤ m ∧ m ≤ 65535) ∧ e = .returned (.tuple #[.int .i64 (downN s m), .int .i64 0])) ∨ (¬ (1 ≤ m ∧ m ≤ 65535) ∧ e = .returned (.tuple #[.int .i64 0, .int .i64 2])))
theorem down_mul {s m : Int} (hs : 0 ≤ s ∧ s ≤ 65535) (hm : 1 ≤ m ∧ m ≤ 65535) : 0 ≤ s * m ∧ s * m ≤ 4294836225 := by
  have h1 := Int.mul_nonneg hs.1 (show 0 ≤ m by omega)
  have h2 : s * m ≤ 65535 * 65535 := Int.mul_le_mul hs.2 hm.2 (by omega) (by omega)
  omega
theorem down_any (s m : Int) (hs : 0 ≤ s ∧ s ≤ 65535) (w : World) : Calls Tryz.prog 83 #[.int .u16 s, .int .i64 m] w (DownR s m w) := by
  go_enter Tryz.func83, Tryz.ntmps83
  go_wp2_with fail
  refine (most_any m w).mono ?_
  rintro e w1 ⟨rfl, rfl⟩
  cases hb : mostB m with
  | false =>
    have := mostB_false hb
    go_wp2_with fail
    go_ret2
    exact ⟨rfl, .inr ⟨this, rfl⟩⟩
  | true =>
    have hm2 := mostB_true hb
    have hp := down_mul hs hm2
    have e2 : (s * m + 32767).tdiv 65535 = (s * m + 32767) / 65535 := Int.tdiv_eq_ediv_of_nonneg (by omega)
    clear hb
    go_wp2_with fail
    go_ret2
    exact ⟨rfl, .inl ⟨hm2, rfl⟩⟩
theorem refDown_any (s m : Int) (hs : 0 ≤ s ∧ s ≤ 65535) (hm : -9223372036854775808 ≤ m ∧ m ≤ 9223372036854775807) (w : World) : Calls Tryz.prog 87 #[.int .u16 s, .int .i64 m] w (DownR s m w) := by
  go_enter Tryz.func87, Tryz.ntmps87
  by_cases hm2 : 1 ≤ m ∧ m ≤ 65535
  case neg =>
    rcases Int.lt_or_le m 1 with h1 | h1
    · go_wp2_with fail
      go_ret2
      exact ⟨rfl, .inr ⟨hm2, rfl⟩⟩
    · have h1' : 65535 < m := by omega
      go_wp2_with fail
      go_ret2
      exact ⟨rfl, .inr ⟨hm2, rfl⟩⟩
  case pos =>
    have a1 := hm2.1
    have a2 := hm2.2
    have hp := down_mul hs hm2
    have e2 : (s * m + 32767).tdiv 65535 = (s * m + 32767) / 65535 := Int.tdiv_eq_ediv_of_nonneg (by omega)
    go_wp2_with fail
    go_ret2
    exact ⟨rfl, .inl ⟨hm2, rfl⟩⟩
end Go.Proofs.YtfbokhdimffabaaGreatDoor

/- Forms of PNM files: kinds, planes, depths; samples as a file tells them. -/
set_option linter.unusedVariables false
set_option linter.unusedSimpArgs false
namespace Go.Proofs.YtfbokhdimffabaaGreatDoor
open Go.ChangeShapes Go.WideShapes Go.ChangeAt Go.RowKit

/-- A kind's form: in digits? of colours? graded? -/
def kTx (k : Nat) : Bool := decide (k ≤ 3)
def kCo (k : Nat) : Bool := decide (k = 3 ∨ k = 6)
def kGr (k : Nat) : Bool := decide (¬ (k = 1 ∨ k = 4))
theorem kind_cases {k : Nat} (h1 : 1 ≤ k) (h6 : k ≤ 6) : k = 1 ∨ k = 2 ∨ k = 3 ∨ k = 4 ∨ k = 5 ∨ k = 6 := by omega
/-- How many samples a pixel has; the top value; the bits of a packed sample. -/
def plN (k : Nat) : Nat := if kCo k then 3 else 1
def topN (k : Nat) (top : Nat) : Nat := if kGr k then top else 1
def depN (k : Nat) (top : Nat) : Nat := if kGr k then (if top < 256 then 8 else 16) else 1
def turN (k : Nat) (s : Int) : Int := if kGr k then s else 65535 - s
set_option maxHeartbeats 1000000 in
theorem formOf_ok (k : Nat) (h1 : 1 ≤ k) (h6 : k ≤ 6) (w : World) : Calls Tryz.prog 27 #[.int .i64 (k : Nat)] w fun e w' => e = .returned (.tuple #[.agg #[.bool (kTx k), .bool (kCo k), .bool (kGr k)], .bool true]) ∧ Below w.heap.size w w' := by
  rcases kind_cases h1 h6 with rfl | rfl | rfl | rfl | rfl | rfl
  all_goals
    go_enter Tryz.func27, Tryz.ntmps27
    go_wp2_with fail
    refine bodyPost_ret (v := .tuple #[.agg #[.bool _, .bool _, .bool _], .bool true]) (by simp [results, Tryz.results27, go_sem]; decide) rfl ⟨rfl, ?_⟩
    exact ((Below.refl w.heap.size w).alloc (Nat.le_refl _) _).alloc (by rw [World.size_alloc]; omega) _
theorem formOf_no (k : Int) (h : ¬ (1 ≤ k ∧ k ≤ 6)) (w : World) : Calls Tryz.prog 27 #[.int .i64 k] w fun e w' => e = .returned (.tuple #[.agg #[.bool false, .bool false, .bool false], .bool false]) ∧ Below w.heap.size w w' := by
  have n1 : ¬ k = 1 := by omega
  have n2 : ¬ k = 2 := by omega
  have n3 : ¬ k = 3 := by omega
  have n4 : ¬ k = 4 := by omega
  have n5 : ¬ k = 5 := by omega
  have n6 : ¬ k = 6 := by omega
  clear h
  go_enter Tryz.func27, Tryz.ntmps27
  go_wp2_with fail
  refine bodyPost_ret (v := .tuple #[.agg #[.bool false, .bool false, .bool false], .bool false]) (by simp [results, Tryz.results27, go_sem]) rfl ⟨rfl, ?_⟩
  exact ((Below.refl w.heap.size w).alloc (Nat.le_refl _) _).alloc (by rw [World.size_alloc]; omega) _
set_option maxHeartbeats 1000000 in
theorem planes_any (k : Nat) (t g : Bool) (w : World) : Calls Tryz.prog 39 #[.agg #[.bool t, .bool (kCo k), .bool g]] w fun e w' => e = .returned (.int .i64 (plN k : Nat)) ∧ Below w.heap.size w w' := by
  have HP : Hid (plN k = if kCo k then 3 else 1) := Lib.hid rfl
  generalize kCo k = c at *
  cases c with
  | true =>
    rw [if_pos rfl] at HP
    go_enter Tryz.func39, Tryz.ntmps39
    go_wp2_with fail
    go_ret
    exact ⟨by rw [HP.out]; rfl, (Below.refl w.heap.size w).alloc (Nat.le_refl _) _⟩
  | false =>
    rw [if_neg (by simp)] at HP
    go_enter Tryz.func39, Tryz.ntmps39
    go_wp2_with fail
    go_ret
    exact ⟨by rw [HP.out]; rfl, (Below.refl w.heap.size w).alloc (Nat.le_refl _) _⟩
theorem turned_any (k : Nat) (t c : Bool) (s : Int) (hs : 0 ≤ s ∧ s ≤ 65535) (w : World) : Calls Tryz.prog 40 #[.agg #[.bool t, .bool c, .bool (kGr k)], .int .u16 s] w fun e w' => e = .returned (.int .u16 (turN k s)) ∧ Below w.heap.size w w' := by
  have HP : Hid (turN k s = if kGr k then s else 65535 - s) := Lib.hid rfl
  generalize kGr k = g at *
  cases g with
  | true =>
    rw [if_pos rfl] at HP
    go_enter Tryz.func40, Tryz.ntmps40
    go_wp2_with fail
    go_ret
    exact ⟨by rw [HP.out]; rfl, (Below.refl w.heap.size w).alloc (Nat.le_refl _) _⟩
  | false =>
    rw [if_neg (by simp)] at HP
    have h1 : (65535 - s) % 65536 = 65535 - s := by omega
    go_enter Tryz.func40, Tryz.ntmps40
    go_wp2_with fail
    go_ret
    exact ⟨by rw [HP.out]; rfl, (Below.refl w.heap.size w).alloc (Nat.le_refl _) _⟩
theorem depth_any (k top : Nat) (t c : Bool) (W H : Int) (ht : top ≤ 65535) (w : World) : Calls Tryz.prog 47 #[.agg #[.bool t, .bool c, .bool (kGr k), .int .i64 W, .int .i64 H, .int .i64 (topN k top : Nat)]] w fun e w' => e = .returned (.int .i64 (depN k top : Nat)) ∧ Below w.heap.size w w' := by
  have HP : Hid (depN k top = if kGr k then (if top < 256 then 8 else 16) else 1) := Lib.hid rfl
  have HT : Hid (topN k top = if kGr k then top else 1) := Lib.hid rfl
  generalize kGr k = g at *
  cases g with
  | true =>
    rw [if_pos rfl] at HP HT
    rw [HT.out]
    by_cases h : top < 256
    · rw [if_pos h] at HP
      have hi : decide ((top : Int) < 256) = true := decide_eq_true (by omega)
      clear h ht
      go_enter Tryz.func47, Tryz.ntmps47
      go_wp2_with fail
      go_ret
      exact ⟨by rw [HP.out]; rfl, (Below.refl w.heap.size w).alloc (Nat.le_refl _) _⟩
    · rw [if_neg h] at HP
      have hi : decide ((top : Int) < 256) = false := decide_eq_false (by omega)
      clear h ht
      go_enter Tryz.func47, Tryz.ntmps47
      go_wp2_with fail
      go_ret
      exact ⟨by rw [HP.out]; rfl, (Below.refl w.heap.size w).alloc (Nat.le_refl _) _⟩
  | false =>
    rw [if_neg (by simp)] at HP HT
    go_enter Tryz.func47, Tryz.ntmps47
    go_wp2_with fail
    go_ret
    exact ⟨by rw [HP.out]; rfl, (Below.refl w.heap.size w).alloc (Nat.le_refl _) _⟩
end Go.Proofs.YtfbokhdimffabaaGreatDoor

/- Slices of bytes, cut, for the walk: what is cut off reads as the rest. No program is named here. -/
namespace Go.Proofs.YtfbokhdimffabaaGreatDoor
open Go.RowKit

section
variable {P : Program} (w : World)
theorem wpList_slice_from {ops : Array Oper} {rest : List Oper} {o : Oper} {a : Act} {Q : Exit → Act → World → Prop} (hgd : o.guard = none) (x lo : Operand) (t : TypeId) (hop : o.op = Op.slice t x (some lo) none none)
    (ht : P.underlying t = some (.slice (P.elem t))) (hsz : ∀ w : World, (sizeOf (P.elem t)).run P w = .ok 1 w) (A : Option Addr) (n c k : Nat) (hx : a.eval x = .slice A n c) (hl : a.eval lo = .int .i64 (k : Int)) (hk : k ≤ n) (B : Nat) (l : List UInt8) (hn : l.length = n) (hc : n ≤ c) (hbs : Bs w B A l)
    (hK : ∀ A', Bs w B A' (l.drop k) → wpList P ops Q rest (a.put o.dst (.slice A' (n - k) (c - k))) w) : wpList P ops Q (o :: rest) a w := by
  refine wpList_plain hgd fun K' hK' => ?_
  have hr := run_slice_l (P := P) (w := w) t A n c ht .i64 (k : Int) (by omega) (by omega)
  unfold Oper.wp
  simp [execOp, hop, hx, hl, run_sliceAt_slice (P := P) (w := w) t _ _ _ _ ht, hr, hsz, Result.andThen, sliced, Int.toNat_natCast]
  subst hn
  refine hK' _ _ (hK _ ?_)
  have := hbs.drop (k := k) (cap := c) hk hc
  simpa using this
theorem wpList_slice_to {ops : Array Oper} {rest : List Oper} {o : Oper} {a : Act} {Q : Exit → Act → World → Prop} (hgd : o.guard = none) (x hi : Operand) (t : TypeId) (hop : o.op = Op.slice t x none (some hi) none)
    (ht : P.underlying t = some (.slice (P.elem t))) (hsz : ∀ w : World, (sizeOf (P.elem t)).run P w = .ok 1 w) (A : Option Addr) (n c k : Nat) (hx : a.eval x = .slice A n c) (hl : a.eval hi = .int .i64 (k : Int)) (hk : k ≤ n) (B : Nat) (l : List UInt8) (hn : l.length = n) (hc : n ≤ c) (hbs : Bs w B A l)
    (hK : ∀ A', Bs w B A' (l.take k) → wpList P ops Q rest (a.put o.dst (.slice A' k c)) w) : wpList P ops Q (o :: rest) a w := by
  refine wpList_plain hgd fun K' hK' => ?_
  have hr := run_slice_h (P := P) (w := w) t A n c ht .i64 (k : Int) (by omega) (by omega)
  unfold Oper.wp
  simp [execOp, hop, hx, hl, run_sliceAt_slice (P := P) (w := w) t _ _ _ _ ht, hr, hsz, Result.andThen, sliced, Int.toNat_natCast]
  subst hn
  refine hK' _ _ (hK _ ?_)
  intro hn
  rw [List.length_take] at hn
  have h1 := (hbs.take k) (by rw [List.length_take]; exact hn)
  obtain ⟨ad, rfl, h2, h3⟩ := h1
  rw [if_neg (by omega)]
  refine ⟨ad.add 0, rfl, by rw [block_of_add]; exact h2, fun j hj => ?_⟩
  rw [add_of_add, Nat.zero_add]
  exact h3 j hj
end
end Go.Proofs.YtfbokhdimffabaaGreatDoor
