/- What a reader is asked, and the document's reader beside it: one answer for both. -/
import Derived.Test.YtfnldnhlacpdiaaBk
import Derived.Test.YtfnldnhlacpdiaaRb
namespace Go.Proofs.Ytfnldnhlacpdiaa
open Go.ChangeShapes Go.WideShapes Go.ChangeAt Go.RowKit

/-- The bytes of a slice, in a block from lo on. -/
def BsIn (w : World) (lo : Nat) (A : Option Addr) (l : List UInt8) : Prop := Bs w w.heap.size A l ∧ (0 < l.length → ∀ a, A = some a → lo ≤ a.block)
theorem BsIn.nil (w : World) (lo : Nat) : BsIn w lo none [] := ⟨fun h => absurd h (by simp), fun h => absurd h (by simp)⟩
theorem BsIn.of_own {w : World} {base : Nat} {e : TypeId} {c : Nat} {A : Option Addr} {l : List UInt8} (h : w.ownsRow base e 1 (.slice A l.length c) l.length (bytesV l)) : BsIn w base A l := ⟨Bs.of_own h, fun hn a ha => by
  obtain ⟨g, cap, hv, hb, hlt⟩ := h.form hn
  have hA : A = some ⟨g, 0, none⟩ := by injection hv
  subst hA
  injection ha with ha
  subst ha
  exact hb⟩
theorem BsIn.upd {w w' : World} {S : Nat → Prop} {lo : Nat} {A : Option Addr} {l : List UInt8} (h : BsIn w lo A l) (hu : Upd S w w') (hS : ∀ k, lo ≤ k → k < w.heap.size → ¬ S k) : BsIn w' lo A l := ⟨fun hn => by
  obtain ⟨ad, e, hb, hc⟩ := h.1 hn
  have hlo := h.2 hn ad e
  exact ⟨ad, e, Nat.lt_of_lt_of_le hb hu.size, fun j hj => by
    rw [World.cell?_of_block (a := ad.add j) (w := w) (by rw [show (ad.add j).block = ad.block from by unfold Addr.add; split <;> rfl]; exact hu.block _ hb (hS _ hlo hb))]
    exact hc j hj⟩, h.2⟩

def TakeP (w : World) (base g : Nat) (A : Option Addr) (c : Nat) (l : List UInt8) (high : Bool) (v er : Int) (at2 : Nat) (e : Ending) (w' : World) : Prop :=
  e = .returned (.tuple #[.int .u32 v, .int .i64 er]) ∧ Rdr w' base g A c l high at2 ∧ Upd (· = g) w w'
def TakeR (w : World) (A : Option Addr) (c : Nat) (l : List UInt8) (high : Bool) (v er : Int) (at2 : Nat) (e : Ending) (w' : World) : Prop :=
  e = .returned (.tuple #[.agg #[.slice A l.length c, .bool high, .int .i64 (at2 : Int)], .int .u32 v, .int .i64 er]) ∧ Below w.heap.size w w'
theorem take_two (l : List UInt8) (high : Bool) (at_ : Nat) (n : Int) (hl : l.length ≤ 140737488355328) (ha : at_ ≤ 8 * l.length) :
    ∃ (v er : Int) (at2 : Nat), at2 ≤ 8 * l.length ∧ (∀ w base g A c, Rdr w base g A c l high at_ → Calls Try.prog 13 #[.pointer (some ⟨g, 0, none⟩), .int .i64 n] w (TakeP w base g A c l high v er at2)) ∧
      (∀ w A c, Bs w w.heap.size A l → Calls Try.prog 14 #[.agg #[.slice A l.length c, .bool high, .int .i64 (at_ : Int)], .int .i64 n] w (TakeR w A c l high v er at2)) := by
  by_cases h1 : n < 0 ∨ 32 < n
  · refine ⟨0, 2, at_, ha, fun w base g A c hR => (take_range g n w h1).mono ?_, fun w A c hB => (refTake_range A l.length c high at_ n w h1).mono ?_⟩
    · rintro e w' ⟨rfl, rfl⟩; exact ⟨rfl, hR, Upd.refl _ _⟩
    · rintro e w' ⟨rfl, hb⟩; exact ⟨rfl, hb⟩
  · by_cases h2 : 8 * (l.length : Int) - at_ < n
    · refine ⟨0, 5, at_, ha, fun w base g A c hR => (take_end w base g A c l high at_ n hR (by omega) (by omega) h2).mono ?_, fun w A c hB => (refTake_end A l.length c high at_ n w ha hl (by omega) (by omega) h2).mono ?_⟩
      · rintro e w' ⟨rfl, k, rfl⟩; exact ⟨rfl, hR, (Upd.refl _ w).drewN k⟩
      · rintro e w' ⟨rfl, hb⟩; exact ⟨rfl, hb⟩
    · obtain ⟨m, rfl⟩ := Int.eq_ofNat_of_zero_le (show 0 ≤ n by omega)
      refine ⟨((num high (fun i => bitAt l high (at_ + i)) m : Nat) : Int), 0, at_ + m, by omega, fun w base g A c hR => (take_any w base g A c l high at_ m hR (by omega) (by omega)).mono ?_, fun w A c hB => (refTake_ok A c l high at_ m w hB hl (by omega) (by omega)).mono ?_⟩
      · rintro e w' ⟨rfl, hR, hu⟩; exact ⟨rfl, hR, hu⟩
      · rintro e w' ⟨rfl, hb⟩; exact ⟨rfl, hb⟩

def BytesP (w : World) (base g : Nat) (A : Option Addr) (c : Nat) (l : List UInt8) (high : Bool) (xs : List UInt8) (er : Int) (at2 : Nat) (e : Ending) (w' : World) : Prop :=
  ∃ A' c', e = .returned (.tuple #[.slice A' xs.length c', .int .i64 er]) ∧ BsIn w' w.heap.size A' xs ∧ Rdr w' base g A c l high at2 ∧ Upd (· = g) w w'
def BytesR (w : World) (A : Option Addr) (c : Nat) (l : List UInt8) (high : Bool) (xs : List UInt8) (er : Int) (at2 : Nat) (e : Ending) (w' : World) : Prop :=
  ∃ A' c', e = .returned (.tuple #[.agg #[.slice A l.length c, .bool high, .int .i64 (at2 : Int)], .slice A' xs.length c', .int .i64 er]) ∧ BsIn w' w.heap.size A' xs ∧ Below w.heap.size w w'
theorem bytes_two (l : List UInt8) (high : Bool) (at_ : Nat) (n : Int) (hl : l.length ≤ 140737488355328) (ha : at_ ≤ 8 * l.length) :
    ∃ (xs : List UInt8) (er : Int) (at2 : Nat), at2 ≤ 8 * l.length ∧ xs.length ≤ l.length ∧ (∀ w base g A c, Rdr w base g A c l high at_ → Calls Try.prog 17 #[.pointer (some ⟨g, 0, none⟩), .int .i64 n] w (BytesP w base g A c l high xs er at2)) ∧
      (∀ w A c, Bs w w.heap.size A l → l.length ≤ c → c ≤ maxLen → Calls Try.prog 18 #[.agg #[.slice A l.length c, .bool high, .int .i64 (at_ : Int)], .int .i64 n] w (BytesR w A c l high xs er at2)) := by
  by_cases h1 : n < 0
  · refine ⟨[], 2, at_, ha, by simp, fun w base g A c hR => (bytes_range g n w h1).mono ?_, fun w A c hB hlc hcm => (refBytes_range A l.length c high at_ n w h1).mono ?_⟩
    · rintro e w' ⟨rfl, rfl⟩; exact ⟨none, 0, rfl, BsIn.nil _ _, hR, Upd.refl _ _⟩
    · rintro e w' ⟨rfl, hb⟩; exact ⟨none, 0, rfl, BsIn.nil _ _, hb⟩
  · by_cases h2 : (l.length : Int) - ((at_ : Int) + 7) / 8 < n
    · refine ⟨[], 5, at_, ha, by simp, fun w base g A c hR => (bytes_end w base g A c l high at_ n hR (by omega) h2).mono ?_, fun w A c hB hlc hcm => (refBytes_end A l.length c high at_ n w ha hl (by omega) h2).mono ?_⟩
      · rintro e w' ⟨rfl, k, rfl⟩; exact ⟨none, 0, rfl, BsIn.nil _ _, hR, (Upd.refl _ w).drewN k⟩
      · rintro e w' ⟨rfl, hb⟩; exact ⟨none, 0, rfl, BsIn.nil _ _, hb⟩
    · obtain ⟨m, rfl⟩ := Int.eq_ofNat_of_zero_le (show 0 ≤ n by omega)
      have hm : (at_ + 7) / 8 + m ≤ l.length := by omega
      have hlen : ((l.drop ((at_ + 7) / 8)).take m).length = m := by rw [List.length_take, List.length_drop]; omega
      refine ⟨(l.drop ((at_ + 7) / 8)).take m, 0, 8 * ((at_ + 7) / 8 + m), by omega, by omega, fun w base g A c hR => (bytes_any w base g A c l high at_ m hR hm).mono ?_, fun w A c hB hlc hcm => (refBytes_ok A c l high at_ m w hB hl hlc hcm hm ha).mono ?_⟩
      · rintro e w' ⟨A', c', rfl, hown, hR, hu⟩
        refine ⟨A', c', by rw [hlen], BsIn.of_own (by rw [hlen]; exact hown), hR, hu⟩
      · rintro e w' ⟨A', c', rfl, hown, hb⟩
        refine ⟨A', c', by rw [hlen], BsIn.of_own (by rw [hlen]; exact hown), hb⟩
end Go.Proofs.Ytfnldnhlacpdiaa
