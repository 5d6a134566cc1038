/- Contracts of the reader's Align and Bytes (for later layers). -/
import Derived.Test.YthbdhpciibjnmaaU
namespace Go.Proofs.Ythbdhpciibjnmaa
open Go.ChangeShapes Go.WideShapes Go.ChangeAt Go.RowKit

theorem bytesFor_any (n : Int) (w : World) (h0 : 0 ≤ n) (h1 : n ≤ 9223372036854775800) :
    Calls Try.prog 73 #[.int .i64 n] w fun e w' => e = .returned (.int .i64 ((n + 7) / 8)) ∧ w = w' := by
  go_enter Try.func73, Try.ntmps73
  go_wp2
  go_ret
  exact ⟨rfl, rfl⟩
set_option maxHeartbeats 400000 in
theorem align_any (w : World) (base g : Nat) (A : Option Addr) (c : Nat) (l : List UInt8) (high : Bool) (at_ : Nat) (h : Rdr w base g A c l high at_) :
    Calls Try.prog 53 #[.pointer (some ⟨g, 0, none⟩)] w fun e w' => e = .returned (.tuple #[]) ∧ Rdr w' base g A c l high ((at_ + 7) / 8 * 8) ∧ Upd (· = g) w w' := by
  have hc1 := h.place
  have hb := h.2.2.2
  have hfr := h.free 1
  have H := Lib.hid h; clear h
  go_enter Try.func53, Try.ntmps53
  go_wp2_with fail
  go_wp2_with (go_at_call 73; refine (bytesFor_any _ _ (by omega) (by omega)).mono ?_; rintro e w1 ⟨rfl, rfl⟩)
  go_end0
  have e : (8 : Int) * (((at_ : Int) + 7) / 8) = (((at_ + 7) / 8 * 8 : Nat) : Int) := by omega
  rw [e]
  exact ⟨rfl, H.out.set_ _ (by omega), (Upd.refl (· = g) w).setCell (p := ⟨g, 1, none⟩) (fun _ => rfl) _⟩

def BytesRes (w : World) (base g : Nat) (A : Option Addr) (c : Nat) (l : List UInt8) (high : Bool) (from_ n : Nat) (e : Ending) (w' : World) : Prop :=
  ∃ A' c', e = .returned (.tuple #[.slice A' n c', .int .i64 0]) ∧ w'.ownsRow w.heap.size 5 1 (.slice A' n c') n (bytesV ((l.drop from_).take n)) ∧ Rdr w' base g A c l high (8 * (from_ + n)) ∧ Upd (· = g) w w'
set_option maxHeartbeats 400000 in
theorem bytes_end (w : World) (base g : Nat) (A : Option Addr) (c : Nat) (l : List UInt8) (high : Bool) (at_ : Nat) (n : Int) (h : Rdr w base g A c l high at_) (h0 : 0 ≤ n) (hl : (l.length : Int) - ((at_ : Int) + 7) / 8 < n) :
    Calls Try.prog 55 #[.pointer (some ⟨g, 0, none⟩), .int .i64 n] w fun e w' => e = .returned (.tuple #[.slice none 0 0, .int .i64 5]) ∧ ∃ k, w' = w.drewN k := by
  have hc0 := h.data
  have hc1 := h.place
  have hb := h.2.2.2
  have d1 : decide (n < 0) = false := by simp; omega
  have H := Lib.hid h; clear h
  go_enter Try.func55, Try.ntmps55
  go_wp2_with (go_at_call 73; refine (bytesFor_any _ _ (by omega) (by omega)).mono ?_; rintro e w1 ⟨rfl, rfl⟩)
  go_ret2
  exact ⟨rfl, 0, rfl⟩
set_option maxHeartbeats 400000 in
theorem bytes_any (w : World) (base g : Nat) (A : Option Addr) (c : Nat) (l : List UInt8) (high : Bool) (at_ n : Nat) (h : Rdr w base g A c l high at_) (hl : (at_ + 7) / 8 + n ≤ l.length) :
    Calls Try.prog 55 #[.pointer (some ⟨g, 0, none⟩), .int .i64 (n : Int)] w (BytesRes w base g A c l high ((at_ + 7) / 8) n) := by
  have hc0 := h.data
  have hc1 := h.place
  have hb := h.2.2.2
  have hfr := h.free 1
  have hcap := own_cap h.2.1
  unfold maxLen at hcap
  have d1 : decide ((n : Int) < 0) = false := by simp
  have HR : Hid (Rdr (w.setCell ⟨g, 1, none⟩ (.int .i64 (8 * (((at_ : Int) + 7) / 8 + n)))) base g A c l high (8 * ((at_ + 7) / 8 + n))) := by
    have e : (8 : Int) * (((at_ : Int) + 7) / 8 + n) = ((8 * ((at_ + 7) / 8 + n) : Nat) : Int) := by omega
    rw [e]
    exact Lib.hid (h.set_ _ (by omega))
  have HC : Hid (∀ W B, Bs W B A l → (c = (at_ + 7) / 8 → Bs W B A ((l.drop ((at_ + 7) / 8)).take n)) ∧ (¬ c = (at_ + 7) / 8 → Bs W B (A.map (·.add ((at_ + 7) / 8))) ((l.drop ((at_ + 7) / 8)).take n))) := by
    refine Lib.hid (fun W B hB => ?_)
    have hh := hB.cutN (k := (at_ + 7) / 8) (n := n) (cap := c) (by omega) hcap.1
    exact ⟨fun e => by rw [if_pos e] at hh; exact hh, fun e => by rw [if_neg e] at hh; exact hh⟩
  have HL : Hid (((l.drop ((at_ + 7) / 8)).take n).length = n) := Lib.hid (by rw [List.length_take, List.length_drop]; omega)
  clear h
  go_enter Try.func55, Try.ntmps55
  go_wp2_with (first | (go_at_call 73; refine (bytesFor_any _ _ (by omega) (by omega)).mono ?_; rintro e w1 ⟨rfl, rfl⟩) | fail)
  · refine (copyOf_n _ _ _ _ HL.out _ _ ((HC.out _ _ (Bs.of_own HR.out.2.1)).1 (by assumption)) (Nat.le_refl _) (by omega)).mono ?_
    rintro e w2 ⟨A1, c1, rfl, hown2, hb2⟩
    go_wp2_with fail
    go_ret2
    exact ⟨A1, c1, rfl, by simpa using hown2, HR.out.upd (Upd.of_fresh hb2) id (fun _ _ => id), ((Upd.refl (· = g) w).setCell (p := ⟨g, 1, none⟩) (fun _ => rfl) _).then (Upd.of_fresh hb2) (fun _ _ h => h.elim)⟩
  · refine (copyOf_n _ _ _ _ HL.out _ _ ((HC.out _ _ (Bs.of_own HR.out.2.1)).2 (by assumption)) (Nat.le_refl _) (by omega)).mono ?_
    rintro e w2 ⟨A1, c1, rfl, hown2, hb2⟩
    go_wp2_with fail
    go_ret2
    exact ⟨A1, c1, rfl, by simpa using hown2, HR.out.upd (Upd.of_fresh hb2) id (fun _ _ => id), ((Upd.refl (· = g) w).setCell (p := ⟨g, 1, none⟩) (fun _ => rfl) _).then (Upd.of_fresh hb2) (fun _ _ h => h.elim)⟩
end Go.Proofs.Ythbdhpciibjnmaa
