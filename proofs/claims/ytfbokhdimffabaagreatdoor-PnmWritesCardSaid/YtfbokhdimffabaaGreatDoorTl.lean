/- Joined texts (a claim has at most 60 files): N W Tl. -/
import Derived.Test.YtfbokhdimffabaaGreatDoorU
import Derived.WalkKit
import Derived.BigQuiet
import Derived.Deep.QuietTactic
import Derived.StillTail
/- Plain mathematics of writing bits: bits packed into bytes. No program, no memory. -/
namespace Go.Proofs.YtfbokhdimffabaaGreatDoor

def bitsOf (high : Bool) (v n : Nat) : List Bool := (List.range n).map fun i => v.testBit (if high then n - 1 - i else i)
theorem bitsOf_length (high : Bool) (v n : Nat) : (bitsOf high v n).length = n := by simp [bitsOf]
theorem bitsOf_get (high : Bool) (v n i : Nat) (hi : i < n) : (bitsOf high v n)[i]? = some (v.testBit (if high then n - 1 - i else i)) := by simp [bitsOf, hi]
/-- The bytes l hold the bits bs in an order, and behind them bits 0. -/
def Holds (high : Bool) (bs : List Bool) (l : List UInt8) : Prop := ∀ i, bitAt l high i = (bs[i]?).getD false
def Packed (high : Bool) (bs : List Bool) (l : List UInt8) : Prop := l.length = (bs.length + 7) / 8 ∧ Holds high bs l

theorem byte_ext (a b : UInt8) (h : ∀ j, j < 8 → a.toNat.testBit j = b.toNat.testBit j) : a = b := by
  apply UInt8.toNat_inj.mp
  apply Nat.eq_of_testBit_eq
  intro j
  by_cases hj : j < 8
  · exact h j hj
  · have p : 2 ^ 8 ≤ 2 ^ j := Nat.pow_le_pow_right (by omega) (by omega)
    have ha := a.toNat_lt
    have hb := b.toNat_lt
    rw [Nat.testBit_lt_two_pow (by omega), Nat.testBit_lt_two_pow (by omega)]
def pos (high : Bool) (r : Nat) : Nat := if high then 7 - r else r
theorem bitAt_pos (l : List UInt8) (high : Bool) (i : Nat) : bitAt l high i = (l[i / 8]?.getD 0).toNat.testBit (pos high (i % 8)) := by
  unfold bitAt pos; rfl
theorem pos_pos (high : Bool) (r : Nat) (h : r < 8) : pos high (pos high r) = r := by unfold pos; cases high <;> simp; omega
theorem pos_lt (high : Bool) (r : Nat) (h : r < 8) : pos high r < 8 := by unfold pos; cases high <;> simp <;> omega
theorem packed_unique {high : Bool} {bs : List Bool} {l l' : List UInt8} (h : Packed high bs l) (h' : Packed high bs l') : l = l' := by
  apply List.ext_getElem (by rw [h.1, h'.1])
  intro q hq hq'
  apply byte_ext
  intro j hj
  have e := (h.2 (8 * q + pos high j)).trans (h'.2 (8 * q + pos high j)).symm
  have hp := pos_lt high j hj
  rw [bitAt_pos, bitAt_pos, show (8 * q + pos high j) / 8 = q from by omega, show (8 * q + pos high j) % 8 = pos high j from by omega, pos_pos high j hj] at e
  simpa [hq, hq'] using e
theorem packed_nil (high : Bool) : Packed high [] [] := ⟨by simp, fun i => by simp [bitAt]⟩
theorem holds_grow {high : Bool} {bs : List Bool} {l : List UInt8} (h : Holds high bs l) : Holds high bs (l ++ [0]) := by
  intro i
  rw [← h i]
  unfold bitAt
  by_cases hi : i / 8 < l.length
  · rw [List.getElem?_append_left hi]
  · have e : (l ++ [0])[i / 8]?.getD 0 = 0 := by
      rcases Nat.lt_or_ge (i / 8) (l.length + 1) with h1 | h1
      · have : i / 8 = l.length := by omega
        simp [this]
      · rw [List.getElem?_eq_none (by simp; omega)]; rfl
    rw [e, List.getElem?_eq_none (by omega)]
    rfl
/-- A run of bits is laid into the byte that was begun. -/
theorem holds_put {high : Bool} {bs cs : List Bool} {l : List UInt8} (x : UInt8) (h : Holds high bs l) (hq : bs.length / 8 < l.length) (hk : bs.length % 8 + cs.length ≤ 8)
    (hx : ∀ r, r < 8 → x.toNat.testBit (pos high r) = if r < bs.length % 8 then (l[bs.length / 8]).toNat.testBit (pos high r) else (cs[r - bs.length % 8]?).getD false) :
    Holds high (bs ++ cs) (l.set (bs.length / 8) x) := by
  intro i
  rw [bitAt_pos]
  by_cases hi : i / 8 = bs.length / 8
  · rw [hi, List.getElem?_set_self hq, Option.getD_some, hx _ (by omega)]
    by_cases hr : i % 8 < bs.length % 8
    · rw [if_pos hr, List.getElem?_append_left (by omega), ← h i, bitAt_pos, hi, List.getElem?_eq_getElem hq, Option.getD_some]
    · rw [if_neg hr, List.getElem?_append_right (by omega), show i - bs.length = i % 8 - bs.length % 8 from by omega]
  · rw [List.getElem?_set_ne (fun e => hi e.symm), ← bitAt_pos, h i]
    by_cases hlt : i < bs.length
    · rw [List.getElem?_append_left hlt]
    · have : bs.length + cs.length ≤ i := by omega
      rw [List.getElem?_append_right (by omega), List.getElem?_eq_none (by omega), List.getElem?_eq_none (by omega)]
/-- Where nothing was laid yet the byte is 0. -/
theorem holds_free {high : Bool} {bs : List Bool} {l : List UInt8} (h : Holds high bs l) (hq : bs.length / 8 < l.length) (r : Nat) (h1 : bs.length % 8 ≤ r) (h2 : r < 8) : (l[bs.length / 8]).toNat.testBit (pos high r) = false := by
  have e := h (8 * (bs.length / 8) + r)
  rw [bitAt_pos, show (8 * (bs.length / 8) + r) / 8 = bs.length / 8 from by omega, show (8 * (bs.length / 8) + r) % 8 = r from by omega, List.getElem?_eq_getElem hq, Option.getD_some,
    List.getElem?_eq_none (by omega)] at e
  exact e
/-- The byte that Put's round leaves, bit by bit. -/
theorem put_byte (high : Bool) (x v a k i n : Nat) (h1 : a + k ≤ 8) (h2 : i + k ≤ n) (r : Nat) (hr : r < 8) (hfree : ∀ r, a ≤ r → r < 8 → x.testBit (pos high r) = false) :
    (x ||| ((v >>> (if high then n - i - k else i) &&& (2 ^ k - 1)) <<< (if high then 8 - a - k else a))).testBit (pos high r) =
      if r < a then x.testBit (pos high r) else (((bitsOf high v n).drop i).take k)[r - a]?.getD false := by
  simp only [Nat.testBit_or, Nat.testBit_shiftLeft, Nat.testBit_and, Nat.testBit_shiftRight, Nat.testBit_two_pow_sub_one]
  by_cases hra : r < a
  · rw [if_pos hra]
    cases high
    · have : ¬ a ≤ pos false r := by simp [pos]; omega
      simp [this]
    · have : ¬ (pos true r - (8 - a - k) < k) := by simp [pos]; omega
      simp [this]
  · rw [if_neg hra, hfree r (by omega) hr, List.getElem?_take]
    by_cases hk : r - a < k
    · rw [if_pos hk, List.getElem?_drop, bitsOf_get _ _ _ _ (by omega), Option.getD_some]
      cases high
      · have e1 : a ≤ pos false r := by simp [pos]; omega
        have e2 : pos false r - a < k := by simp [pos]; omega
        have e3 : i + (pos false r - a) = i + (r - a) := by simp [pos]
        simp [e1, e2, e3]
      · have e1 : 8 - a - k ≤ pos true r := by simp [pos]; omega
        have e2 : pos true r - (8 - a - k) < k := by simp [pos]; omega
        have e3 : n - i - k + (pos true r - (8 - a - k)) = n - 1 - (i + (r - a)) := by simp [pos]; omega
        simp [e2, e3]; simp [pos] at e1 ⊢; omega
    · rw [if_neg hk]
      cases high
      · have e2 : ¬ pos false r - a < k := by simp [pos]; omega
        simp [e2]
      · have e2 : ¬ (8 - a - k ≤ pos true r) := by simp [pos]; omega
        simp [e2]
theorem take_step (high : Bool) (v n i k : Nat) : (bitsOf high v n).take i ++ ((bitsOf high v n).drop i).take k = (bitsOf high v n).take (i + k) := by
  rw [List.take_add]
theorem byte_close (x v kk t s : Nat) (hx : x < 256) (hv : v < 4294967296) (h : s + kk ≤ 8) :
    bits .or .u8 (x : Int) (bits .and .u32 ((v : Int) / 2 ^ t) (((2 : Int) ^ kk - 1) % 4294967296) * 2 ^ s % 256) = ((x ||| ((v >>> t &&& (2 ^ kk - 1)) <<< s) : Nat) : Int) ∧ (x ||| ((v >>> t &&& (2 ^ kk - 1)) <<< s)) < 256 := by
  rw [mask_cast kk (by omega)]
  have e1 : (v : Int) / 2 ^ t = ((v >>> t : Nat) : Int) := by rw [Nat.shiftRight_eq_div_pow]; simp
  have hs : v >>> t < 4294967296 := by rw [Nat.shiftRight_eq_div_pow]; exact Nat.lt_of_le_of_lt (Nat.div_le_self _ _) hv
  have hm : 2 ^ kk - 1 < 4294967296 := by have : 2 ^ kk < 2 ^ 32 := Nat.pow_lt_pow_right (by omega) (by omega); omega
  have hml : (v >>> t &&& (2 ^ kk - 1)) < 2 ^ kk := by have := Nat.and_le_right (n := v >>> t) (m := 2 ^ kk - 1); have := Nat.two_pow_pos kk; omega
  rw [e1, and_u32 _ _ hs hm]
  have hb : (v >>> t &&& (2 ^ kk - 1)) <<< s < 256 := by
    rw [Nat.shiftLeft_eq]
    have h3 : (v >>> t &&& (2 ^ kk - 1)) * 2 ^ s < 2 ^ kk * 2 ^ s := Nat.mul_lt_mul_of_pos_right hml (Nat.two_pow_pos s)
    rw [← Nat.pow_add] at h3
    have h4 : 2 ^ (kk + s) ≤ 2 ^ 8 := Nat.pow_le_pow_right (by omega) (by omega)
    omega
  have e2 : ((v >>> t &&& (2 ^ kk - 1) : Nat) : Int) * 2 ^ s % 256 = (((v >>> t &&& (2 ^ kk - 1)) <<< s : Nat) : Int) := by
    have h5 : (((v >>> t &&& (2 ^ kk - 1)) <<< s : Nat) : Int) = ((v >>> t &&& (2 ^ kk - 1) : Nat) : Int) * 2 ^ s := by rw [Nat.shiftLeft_eq]; simp
    rw [← h5]
    generalize (v >>> t &&& (2 ^ kk - 1)) <<< s = y at hb ⊢
    omega
  rw [e2, or_u8 _ _ hx hb]
  exact ⟨rfl, Nat.or_lt_two_pow (n := 8) hx hb⟩
/-- Put's round: the byte that it leaves, and what the bytes then hold. -/
theorem put_round (high : Bool) (bsk : List Bool) (p : Nat) (hp : bsk.length = p) (l2 : List UInt8) (v n k kk : Nat) (hH : Holds high bsk l2) (hq : p / 8 < l2.length) (h1 : p % 8 + kk ≤ 8) (h2 : k + kk ≤ n) (hv : v < 4294967296) :
    ∃ x : UInt8, bits .or .u8 (l2[p / 8].toNat : Int) (bits .and .u32 ((v : Int) / 2 ^ (if high then n - k - kk else k)) (((2 : Int) ^ kk - 1) % 4294967296) * 2 ^ (if high then 8 - p % 8 - kk else p % 8) % 256) = (x.toNat : Int) ∧
      Holds high (bsk ++ ((bitsOf high v n).drop k).take kk) (l2.set (p / 8) x) := by
  subst hp
  obtain ⟨e, hlt⟩ := byte_close l2[bsk.length / 8].toNat v kk (if high then n - k - kk else k) (if high then 8 - bsk.length % 8 - kk else bsk.length % 8) (UInt8.toNat_lt _) hv (by cases high <;> simp <;> omega)
  have hcs : (((bitsOf high v n).drop k).take kk).length = kk := by rw [List.length_take, List.length_drop, bitsOf_length]; omega
  refine ⟨UInt8.ofNat (l2[bsk.length / 8].toNat ||| ((v >>> (if high then n - k - kk else k) &&& (2 ^ kk - 1)) <<< (if high then 8 - bsk.length % 8 - kk else bsk.length % 8))), ?_, ?_⟩
  · rw [e, UInt8.toNat_ofNat_of_lt' hlt]
  · refine holds_put _ hH hq (by rw [hcs]; exact h1) (fun r hr => ?_)
    rw [UInt8.toNat_ofNat_of_lt' hlt, put_byte high _ v (bsk.length % 8) kk k n h1 h2 r hr (fun r h3 h4 => holds_free hH hq r h3 h4)]
end Go.Proofs.YtfbokhdimffabaaGreatDoor

/- Contracts of the writer of bits: its states, NewWriter, Align, Len, Bytes. -/
namespace Go.Proofs.YtfbokhdimffabaaGreatDoor
open Go.ChangeShapes Go.WideShapes Go.ChangeAt Go.RowKit

/-- A writer stands in block g: its bytes l, in a row of the call's own, its order, how many bits were written. -/
def Wraw (w : World) (base g : Nat) (A : Option Addr) (c : Nat) (l : List UInt8) (high : Bool) (len : Nat) : Prop :=
  Blk w g 139 #[.slice A l.length c, .int .i64 (len : Int), ord high] ∧ w.ownsRow base 5 1 (.slice A l.length c) l.length (bytesV l) ∧ base ≤ g

section
variable {w w' : World} {base g : Nat} {A : Option Addr} {c : Nat} {l : List UInt8} {high : Bool} {len : Nat}
theorem Wraw.upd {S : Nat → Prop} (h : Wraw w base g A c l high len) (hu : Upd S w w') (hg : ¬ S g) (hA : ∀ k, (Value.slice A l.length c).ownBlock = some k → ¬ S k) : Wraw w' base g A c l high len :=
  ⟨h.1.upd hu hg, own_upd h.2.1 hu hA, h.2.2⟩
theorem Wraw.data (h : Wraw w base g A c l high len) : w.cell? ⟨g, 0, none⟩ = some (.slice A l.length c) := by rw [h.1.cell]; rfl
theorem Wraw.place (h : Wraw w base g A c l high len) : w.cell? ⟨g, 1, none⟩ = some (.int .i64 (len : Int)) := by rw [h.1.cell]; rfl
theorem Wraw.shift (h : Wraw w base g A c l high len) : w.cell? ⟨g, 2, none⟩ = some (ord high) := by rw [h.1.cell]; rfl
theorem Wraw.free (h : Wraw w base g A c l high len) (i : Nat) : w.frozen? ⟨g, i, none⟩ = false := h.1.frozen i
theorem Wraw.ne (h : Wraw w base g A c l high len) : (Value.slice A l.length c).ownBlock ≠ some g := own_blk_ne h.2.1 h.1 (by decide)
theorem Wraw.setLen (h : Wraw w base g A c l high len) (k : Nat) : Wraw (w.setCell ⟨g, 1, none⟩ (.int .i64 (k : Int))) base g A c l high k :=
  ⟨h.1.set_ 1 _, own_upd h.2.1 ((Upd.refl (· = g) w).setCell (p := ⟨g, 1, none⟩) (fun _ => rfl) _) (fun k hk e => h.ne (by subst e; exact hk)), h.2.2⟩
/-- The field of the bytes is written: a grown row. -/
theorem Wraw.setData (hb : Blk w g 139 #[.slice A l.length c, .int .i64 (len : Int), ord high]) (hg : base ≤ g) {A' : Option Addr} {c' : Nat} {l' : List UInt8}
    (hown : w.ownsRow base 5 1 (.slice A' l'.length c') l'.length (bytesV l')) : Wraw (w.setCell ⟨g, 0, none⟩ (.slice A' l'.length c')) base g A' c' l' high len :=
  ⟨hb.set_ 0 _, own_upd hown ((Upd.refl (· = g) w).setCell (p := ⟨g, 0, none⟩) (fun _ => rfl) _) (fun k hk e => own_blk_ne hown hb (by decide) (by subst e; exact hk)), hg⟩
theorem Wraw.setByte {gd : Nat} (h : Wraw w base g (some ⟨gd, 0, none⟩) c l high len) (q : Nat) (x : UInt8) : Wraw (w.setCell ⟨gd, q, none⟩ (.int .u8 (x.toNat : Int))) base g (some ⟨gd, 0, none⟩) c (l.set q x) high len := by
  have hne : gd ≠ g := fun e => h.ne (by subst e; rfl)
  have hs := h.2.1.stored q (.int .u8 (x.toNat : Int))
  refine ⟨?_, ?_, h.2.2⟩
  · rw [List.length_set]
    exact h.1.upd ((Upd.refl (· = gd) w).setCell (p := ⟨gd, q, none⟩) (fun _ => rfl) _) (fun e => hne e.symm)
  · rw [List.length_set]
    have e : bytesV (l.set q x) = (bytesV l).set q (.int .u8 (x.toNat : Int)) := by simp [bytesV, bv, List.map_set]
    rw [e]
    exact hs.1
end

def NewWtr (w : World) (high : Bool) (e : Ending) (w' : World) : Prop := ∃ g, e = .returned (.pointer (some ⟨g, 0, none⟩)) ∧ Wraw w' w.heap.size g none 0 [] high 0 ∧ Below w.heap.size w w' ∧ g < w'.heap.size
set_option maxHeartbeats 400000 in
theorem newWriter_any (high : Bool) (w : World) : Calls Tryz.prog 59 #[.bool high] w (NewWtr w high) := by
  go_enter Tryz.func59, Tryz.ntmps59
  go_wp2_with (go_at_call 73; refine (orderOf_any _ _).mono ?_; rintro e w2 ⟨rfl, rfl⟩; unfold ord)
  all_goals go_ret
  all_goals exact ⟨_, rfl, ⟨Blk.new _ _ _, World.ownsRow_nil _ _ _ _, Nat.le_refl _⟩, (Below.refl _ _).alloc (Nat.le_refl _) _, by simp⟩

set_option maxHeartbeats 400000 in
theorem wbytes_any (w : World) (base g : Nat) (A : Option Addr) (c : Nat) (l : List UInt8) (high : Bool) (len : Nat) (h : Wraw w base g A c l high len) (hl : l.length ≤ 140737488355328) :
    Calls Tryz.prog 62 #[.pointer (some ⟨g, 0, none⟩)] w fun e w' => ∃ A' c', e = .returned (.slice A' l.length c') ∧
      w'.ownsRow w.heap.size 5 1 (.slice A' l.length c') l.length (bytesV l) ∧ Below w.heap.size w w' := by
  have hc0 := h.data
  have hbs := Bs.of_own h.2.1
  go_enter Tryz.func62, Tryz.ntmps62
  go_wp2_with (go_at_call 72; refine (copyOf_any _ _ _ _ _ hbs (Nat.le_refl _) hl).mono ?_; rintro e w1 ⟨A1, c1, rfl, hown1, hb1⟩)
  go_ret
  exact ⟨A1, c1, rfl, hown1, hb1⟩
theorem wbytes_nil (w : World) :
    Calls Tryz.prog 62 #[.pointer none] w fun e w' => e = .returned (.slice none 0 0) ∧ w = w' := by
  go_enter Tryz.func62, Tryz.ntmps62
  go_wp2_with fail
  go_ret
  exact ⟨rfl, rfl⟩
theorem put_nil (v n : Int) (w : World) :
    Calls Tryz.prog 60 #[.pointer none, .int .u32 v, .int .i64 n] w fun e w' => e = .returned (.int .i64 1) ∧ w = w' := by
  go_enter Tryz.func60, Tryz.ntmps60
  go_wp2_with fail
  go_ret
  exact ⟨rfl, rfl⟩
theorem put_range (g : Nat) (v n : Int) (w : World) (hn : n < 0 ∨ 32 < n) :
    Calls Tryz.prog 60 #[.pointer (some ⟨g, 0, none⟩), .int .u32 v, .int .i64 n] w fun e w' => e = .returned (.int .i64 2) ∧ w = w' := by
  rcases hn with hn | hn
  · have d1 : decide (n < 0) = true := by simp; omega
    go_enter Tryz.func60, Tryz.ntmps60
    go_wp2_with fail
    go_ret
    exact ⟨rfl, rfl⟩
  · have d1 : decide (n < 0) = false := by simp; omega
    go_enter Tryz.func60, Tryz.ntmps60
    go_wp2_with fail
    go_ret
    exact ⟨rfl, rfl⟩
end Go.Proofs.YtfbokhdimffabaaGreatDoor

/- A region that draws its order and first only reads: it is walked once, in the text's order. No program is named here. -/
namespace Go.Proofs.YtfbokhdimffabaaGreatDoor
open Go.RowKit

theorem still_of_quiet {P : Program} {ops : Array Oper} {w : World} {Q : Act → Prop} (l : List Oper) : ∀ a, wpQuiet P ops (fun w' => w' = w) Q l a → wpStill P ops w Q l a := by
  induction l with
  | nil => intro a h; exact h
  | cons o rest ih =>
    intro a h
    unfold wpQuiet at h
    unfold wpStill
    by_cases hw : Region.wanted o (yielded ops a.tmps) = true
    · rw [if_pos hw] at h ⊢
      obtain ⟨v, h1, h2⟩ := h
      have h1' := h1 w rfl
      unfold Oper.quietAt Oper.quietUpon at h1'
      unfold Oper.still Oper.stillUpon
      split at h1'
      · rename_i he; rw [he]; obtain ⟨e1, rfl⟩ := h1'; exact ⟨e1, ih _ h2⟩
      · rename_i he; rw [he]; obtain ⟨e1, rfl⟩ := h1'; exact ⟨e1, ih _ h2⟩
      · rename_i he; rw [he]; exact ⟨h1'.1, v, h1'.2, ih _ h2⟩
      · exact h1'.elim
    · rw [if_neg hw] at h ⊢
      exact ih _ h
/-- A region that draws its order: its first n operations only read or call quietly, the others come in one order. -/
theorem wp_region_tail {P : Program} {id : Nat} {Q : Exit → Act → World → Prop} {a : Act} {w : World} {l : List Oper} (n : Nat) (hm : P.follows .mixedOrders = true) (hB : Region.lexTailB .any l.toArray n = true)
    (h : wpQuiet P l.toArray (fun w' => w' = w.drew) (fun a' => wpList P l.toArray Q (l.drop n) a' w.drew) (l.take n) a) : (Code.region id l.toArray true).wp P Q a w :=
  wp_region_still_tail n hm hB (still_of_quiet _ _ h)
/-- How the walk spells the address behind the first one. -/
theorem add_succ (a : Addr) (n : Nat) : a.add (n + 1) = ⟨a.block, a.off + (n + 1), none⟩ := by simp [Addr.add]
end Go.Proofs.YtfbokhdimffabaaGreatDoor
