/- Contracts of the reader's other calls: faults of Take, Bytes, Align, and all of them of a nil reader. -/
import Derived.Test.YtlkmhmiaekmkdaaR
namespace Go.Proofs.Ytlkmhmiaekmkdaa
open Go.ChangeShapes Go.WideShapes Go.ChangeAt Go.RowKit

theorem take_nil (n : Int) (w : World) :
    Calls Try.prog 13 #[.pointer none, .int .i64 n] w fun e w' => e = .returned (.tuple #[.int .u32 0, .int .i64 1]) ∧ w = w' := by
  go_enter Try.func13, Try.ntmps13
  go_wp2_with fail
  go_ret2
  exact ⟨rfl, rfl⟩
theorem bytes_nil (n : Int) (w : World) :
    Calls Try.prog 17 #[.pointer none, .int .i64 n] w fun e w' => e = .returned (.tuple #[.slice none 0 0, .int .i64 1]) ∧ w = w' := by
  go_enter Try.func17, Try.ntmps17
  go_wp2_with fail
  go_ret2
  exact ⟨rfl, rfl⟩
theorem align_nil (w : World) :
    Calls Try.prog 15 #[.pointer none] w fun e w' => e = .returned (.tuple #[]) ∧ w = w' := by
  go_enter Try.func15, Try.ntmps15
  go_wp2_with fail
  go_end0
  exact ⟨rfl, rfl⟩
theorem take_range (g : Nat) (n : Int) (w : World) (hn : n < 0 ∨ 32 < n) :
    Calls Try.prog 13 #[.pointer (some ⟨g, 0, none⟩), .int .i64 n] w fun e w' => e = .returned (.tuple #[.int .u32 0, .int .i64 2]) ∧ w = w' := by
  rcases hn with hn | hn
  · have d1 : decide (n < 0) = true := by simp; omega
    go_enter Try.func13, Try.ntmps13
    go_wp2_with fail
    go_ret2
    exact ⟨rfl, rfl⟩
  · have d1 : decide (n < 0) = false := by simp; omega
    go_enter Try.func13, Try.ntmps13
    go_wp2_with fail
    go_ret2
    exact ⟨rfl, rfl⟩
set_option maxHeartbeats 400000 in
theorem take_end (w : World) (base g : Nat) (A : Option Addr) (c : Nat) (l : List UInt8) (high : Bool) (at_ : Nat) (n : Int) (h : Rdr w base g A c l high at_) (h0 : 0 ≤ n) (hn : n ≤ 32) (hl : 8 * (l.length : Int) - at_ < n) :
    Calls Try.prog 13 #[.pointer (some ⟨g, 0, none⟩), .int .i64 n] w fun e w' =>
      e = .returned (.tuple #[.int .u32 0, .int .i64 5]) ∧ ∃ k, w' = w.drewN k := by
  have d1 : decide (n < 0) = false := by simp; omega
  have d2 : decide ((32 : Int) < n) = false := by simp; omega
  have d3 : decide (8 * (l.length : Int) - (at_ : Int) < n) = true := by simp; omega
  go_enter Try.func13, Try.ntmps13
  go_wp2_with fail
  refine (left_any _ _ _ _ _ _ _ _ h).mono ?_
  rintro e w1 ⟨rfl, n1, rfl⟩
  go_wp2_with fail
  go_ret2
  exact ⟨rfl, _, rfl⟩
set_option maxHeartbeats 400000 in
theorem align_any (w : World) (base g : Nat) (A : Option Addr) (c : Nat) (l : List UInt8) (high : Bool) (at_ : Nat) (h : Rdr w base g A c l high at_) :
    Calls Try.prog 15 #[.pointer (some ⟨g, 0, none⟩)] w fun e w' => e = .returned (.tuple #[]) ∧ Rdr w' base g A c l high ((at_ + 7) / 8 * 8) ∧ Upd (· = g) w w' := by
  have hc1 := h.place
  have hb := h.2.2.2
  have hfr := h.free 1
  have H := Lib.hid h; clear h
  go_enter Try.func15, Try.ntmps15
  go_wp2_with fail
  go_wp2_with (go_at_call 42; refine (bytesFor_any _ _ (by omega) (by omega)).mono ?_; rintro e w1 ⟨rfl, rfl⟩)
  go_end0
  have e : (8 : Int) * (((at_ : Int) + 7) / 8) = (((at_ + 7) / 8 * 8 : Nat) : Int) := by omega
  rw [e]
  exact ⟨rfl, H.out.set_ _ (by omega), (Upd.refl (· = g) w).setCell (p := ⟨g, 1, none⟩) (fun _ => rfl) _⟩

theorem own_cap {w : World} {base : Nat} {e : TypeId} {size n c : Nat} {A : Option Addr} {xs : List Value} (h : w.ownsRow base e size (.slice A n c) n xs) : n ≤ c ∧ c ≤ maxLen := by
  rcases h.2 with ⟨h1, rfl⟩ | ⟨g, cap, cur, h1, _, _, h2, h3, _⟩
  · injection h1 with _ _ h; subst h; exact ⟨Nat.le_refl _, Nat.zero_le _⟩
  · injection h1 with _ _ h; subst h; exact ⟨h2, h3⟩

def BytesRes (w : World) (base g : Nat) (A : Option Addr) (c : Nat) (l : List UInt8) (high : Bool) (from_ n : Nat) (e : Ending) (w' : World) : Prop :=
  ∃ A' c', e = .returned (.tuple #[.slice A' n c', .int .i64 0]) ∧ w'.ownsRow w.heap.size 5 1 (.slice A' n c') n (bytesV ((l.drop from_).take n)) ∧ Rdr w' base g A c l high (8 * (from_ + n)) ∧ Upd (· = g) w w'
theorem bytes_range (g : Nat) (n : Int) (w : World) (hn : n < 0) :
    Calls Try.prog 17 #[.pointer (some ⟨g, 0, none⟩), .int .i64 n] w fun e w' => e = .returned (.tuple #[.slice none 0 0, .int .i64 2]) ∧ w = w' := by
  go_enter Try.func17, Try.ntmps17
  go_wp2_with fail
  go_ret2
  exact ⟨rfl, rfl⟩
set_option maxHeartbeats 400000 in
theorem bytes_end (w : World) (base g : Nat) (A : Option Addr) (c : Nat) (l : List UInt8) (high : Bool) (at_ : Nat) (n : Int) (h : Rdr w base g A c l high at_) (h0 : 0 ≤ n) (hl : (l.length : Int) - ((at_ : Int) + 7) / 8 < n) :
    Calls Try.prog 17 #[.pointer (some ⟨g, 0, none⟩), .int .i64 n] w fun e w' => e = .returned (.tuple #[.slice none 0 0, .int .i64 5]) ∧ ∃ k, w' = w.drewN k := by
  have hc0 := h.data
  have hc1 := h.place
  have hb := h.2.2.2
  have d1 : decide (n < 0) = false := by simp; omega
  have H := Lib.hid h; clear h
  go_enter Try.func17, Try.ntmps17
  go_wp2_with (go_at_call 42; refine (bytesFor_any _ _ (by omega) (by omega)).mono ?_; rintro e w1 ⟨rfl, rfl⟩)
  go_ret2
  exact ⟨rfl, 0, rfl⟩
set_option maxHeartbeats 400000 in
theorem bytes_any (w : World) (base g : Nat) (A : Option Addr) (c : Nat) (l : List UInt8) (high : Bool) (at_ n : Nat) (h : Rdr w base g A c l high at_) (hl : (at_ + 7) / 8 + n ≤ l.length) :
    Calls Try.prog 17 #[.pointer (some ⟨g, 0, none⟩), .int .i64 (n : Int)] w (BytesRes w base g A c l high ((at_ + 7) / 8) n) := by
  have hc0 := h.data
  have hc1 := h.place
  have hb := h.2.2.2
  have hfr := h.free 1
  have hcap := own_cap h.2.1
  unfold maxLen at hcap
  have d1 : decide ((n : Int) < 0) = false := by simp
  have HR : Hid (Rdr (w.setCell ⟨g, 1, none⟩ (.int .i64 (8 * (((at_ : Int) + 7) / 8 + n)))) base g A c l high (8 * ((at_ + 7) / 8 + n))) := by
    have e : (8 : Int) * (((at_ : Int) + 7) / 8 + n) = ((8 * ((at_ + 7) / 8 + n) : Nat) : Int) := by omega
    rw [e]
    exact Lib.hid (h.set_ _ (by omega))
  have HC : Hid (∀ W B, Bs W B A l → (c = (at_ + 7) / 8 → Bs W B A ((l.drop ((at_ + 7) / 8)).take n)) ∧ (¬ c = (at_ + 7) / 8 → Bs W B (A.map (·.add ((at_ + 7) / 8))) ((l.drop ((at_ + 7) / 8)).take n))) := by
    refine Lib.hid (fun W B hB => ?_)
    have hh := hB.cutN (k := (at_ + 7) / 8) (n := n) (cap := c) (by omega) hcap.1
    exact ⟨fun e => by rw [if_pos e] at hh; exact hh, fun e => by rw [if_neg e] at hh; exact hh⟩
  have HL : Hid (((l.drop ((at_ + 7) / 8)).take n).length = n) := Lib.hid (by rw [List.length_take, List.length_drop]; omega)
  clear h
  go_enter Try.func17, Try.ntmps17
  go_wp2_with (first | (go_at_call 42; refine (bytesFor_any _ _ (by omega) (by omega)).mono ?_; rintro e w1 ⟨rfl, rfl⟩) | fail)
  · refine (copyOf_n _ _ _ _ HL.out _ _ ((HC.out _ _ (Bs.of_own HR.out.2.1)).1 (by assumption)) (Nat.le_refl _) (by omega)).mono ?_
    rintro e w2 ⟨A1, c1, rfl, hown2, hb2⟩
    go_wp2_with fail
    go_ret2
    exact ⟨A1, c1, rfl, by simpa using hown2, HR.out.upd (Upd.of_fresh hb2) id (fun _ _ => id), ((Upd.refl (· = g) w).setCell (p := ⟨g, 1, none⟩) (fun _ => rfl) _).then (Upd.of_fresh hb2) (fun _ _ h => h.elim)⟩
  · refine (copyOf_n _ _ _ _ HL.out _ _ ((HC.out _ _ (Bs.of_own HR.out.2.1)).2 (by assumption)) (Nat.le_refl _) (by omega)).mono ?_
    rintro e w2 ⟨A1, c1, rfl, hown2, hb2⟩
    go_wp2_with fail
    go_ret2
    exact ⟨A1, c1, rfl, by simpa using hown2, HR.out.upd (Upd.of_fresh hb2) id (fun _ _ => id), ((Upd.refl (· = g) w).setCell (p := ⟨g, 1, none⟩) (fun _ => rfl) _).then (Upd.of_fresh hb2) (fun _ _ h => h.elim)⟩
end Go.Proofs.Ytlkmhmiaekmkdaa
