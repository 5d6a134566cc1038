/- The longest string that has a code. -/
import Derived.Test.YthnfnfaiicfenaaPc
namespace Go.Proofs.Ythnfnfaiicfenaa
open Go.ChangeShapes Go.WideShapes Go.ChangeAt Go.RowKit
open Go.Maps (Keyed)

def longM (M : List ((Nat × UInt8) × Nat)) (c : Nat) : List UInt8 → Nat → Nat × Nat
  | [], k => (c, k)
  | x :: r, k => match lk M c x with
    | none => (c, k)
    | some d => longM M d r (k + 1)
theorem longM_le (M : List ((Nat × UInt8) × Nat)) (r : List UInt8) : ∀ (c k : Nat), k ≤ (longM M c r k).2 ∧ (longM M c r k).2 ≤ k + r.length := by
  induction r with
  | nil => intro c k; exact ⟨Nat.le_refl _, by simp [longM]⟩
  | cons x r ih =>
    intro c k
    rw [longM]
    cases lk M c x with
    | none => exact ⟨Nat.le_refl _, by simp⟩
    | some d =>
      have := ih d (k + 1)
      simp only [List.length_cons]
      omega
/-- Codes of strings are small. -/
def Small (M : List ((Nat × UInt8) × Nat)) : Prop := ∀ c x d, lk M c x = some d → d < 4096
theorem longM_small {M : List ((Nat × UInt8) × Nat)} (h : Small M) (r : List UInt8) : ∀ (c k : Nat), c < 4096 → (longM M c r k).1 < 4096 := by
  induction r with
  | nil => intro c k hc; exact hc
  | cons x r ih =>
    intro c k hc
    rw [longM]
    cases hl : lk M c x with
    | none => exact hc
    | some d => exact ih d (k + 1) (h c x d hl)
theorem zero_int (w : World) : (zeroValue 3).run Try.prog w = .ok (.int .i64 0) w := by kernel_rfl
set_option maxHeartbeats 4000000 in
set_option maxRecDepth 100000 in
theorem longest_any (w : World) (N gp gw gm size : Nat) (high : Bool) (early : Nat) (bits : List Bool) (M : List ((Nat × UInt8) × Nat)) (n : Nat) (ahead : Bool) (h : Pck w N gp gw gm size high early bits M n ahead) (hM : Small M)
    (A : Option Addr) (c : Nat) (x : UInt8) (r : List UInt8) (len : Nat) (hlen : (x :: r).length = len) (hc : len ≤ c) (hbs : Bs w w.heap.size A (x :: r)) (hl : len ≤ 140737488355328) :
    Calls Try.prog 50 #[.pointer (some ⟨gp, 0, none⟩), .slice A len c] w fun e w' => e = .returned (.tuple #[.int .i64 ((longM M x.toNat r 1).1 : Int), .int .i64 ((longM M x.toNat r 1).2 : Int)]) ∧ w = w' := by
  have c4 := h.c4
  have hxb := byte_lt x
  obtain ⟨ad, rfl, hb1, hx0⟩ := hbs.at_ (k := 0) (by simp)
  have HBS := Lib.hid hbs
  have hr : r.length + 1 = len := by simpa using hlen
  have H0 := Lib.hid h
  have HLEN := Lib.hid hlen
  clear h hbs hlen
  replace hx0 : w.cell? ad = some (.int .u8 (x.toNat : Int)) := hx0
  obtain ⟨X, HX⟩ : ∃ X, Hid (longM M x.toNat r 1 = X) := ⟨_, Lib.hid rfl⟩
  rw [HX.out]
  have h1l : 1 ≤ len := by omega
  go_enter Try.func50, Try.ntmps50
  go_wp2_with (refine wpList_slice_from _ rfl (.tmp 14) (.const (.int .i64 1)) 22 rfl Try.underlying22 (fun w => by kernel_rfl) (some ad) len c 1 rfl rfl h1l w.heap.size (x :: r) HLEN.out hc HBS.out ?_; intro A2 hbs2)
  have HB2 : Hid (Bs w w.heap.size A2 r) := Lib.hid hbs2
  clear hbs2 hx0 hb1
  have hlr : len - 1 = r.length := by omega
  rw [hlr]
  have hx4 : x.toNat < 4096 := by omega
  obtain ⟨x0, hx0⟩ : ∃ x0, x.toNat = x0 := ⟨_, rfl⟩
  rw [hx0] at HX hx4 ⊢
  have HX0 := Lib.hid hx0
  clear hx0 hlr
  go_loop [4, 17] (fun cv kv => ∃ k cc : Nat, k ≤ r.length ∧ cc < 4096 ∧ cv = .int .i64 (cc : Int) ∧ kv = .int .i64 (k : Int) ∧ Hid (longM M cc (r.drop k) (k + 1) = X)) (fun _ kv => r.length - (intOf kv).toNat)
  case atStart => exact ⟨0, x0, by omega, hx4, rfl, rfl, HX⟩
  case round =>
    obtain ⟨k, cc, hk, hcc, rfl, rfl, HXk⟩ := hrel
    clear HX hx4
    by_cases hlt : k < r.length
    · obtain ⟨a2, rfl, _, hcx⟩ := HB2.out.at_ hlt
      have hxr := HXk.out
      rw [List.drop_eq_getElem_cons hlt, longM] at hxr
      have hyb := byte_lt r[k]
      obtain ⟨kl, hkl⟩ := key_of cc r[k] (by omega)
      obtain ⟨D, nn, ho, m1, m2, m3⟩ := H0.out.map
      have hm3 := m3 cc r[k] kl (by omega) hkl
      generalize r[k] = y at *
      have HK := Lib.hid hkl
      have HO := Lib.hid ho
      clear hkl ho m1 m2 m3
      rcases hl : lk M cc y with _ | v
      · rw [hl] at hm3 hxr
        have HXn : Hid (X = (cc, k + 1)) := Lib.hid hxr.symm
        have dh : Maps.has D kl = false := hm3.1
        clear hm3 hxr hl
        go_wp2_with (at_lookup; refine wpList_lookup_own_ok_int _ rfl (.tmp 26) (.tmp 29) 85 rfl 92 3 .i64 key_law Try.underlying85 Try.underlying3 (zero_int _) gm nn D rfl HO.out (keyV cc y) kl rfl HK.out ?_; intro d hat hwd; clear hat hwd)
        go_ret2
        rw [HXn.out]
        exact ⟨rfl, rfl⟩
      · rw [hl] at hm3 hxr
        have hv := hM cc y v hl
        have HXn : Hid (longM M v (r.drop (k + 1)) (k + 1 + 1) = X) := Lib.hid hxr
        have dh : Maps.has D kl = true := hm3.1
        have HAT := Lib.hid (hm3.2 v rfl)
        clear hm3 hxr hl
        go_wp2_with (at_lookup; refine wpList_lookup_own_ok_int _ rfl (.tmp 26) (.tmp 29) 85 rfl 92 3 .i64 key_law Try.underlying85 Try.underlying3 (zero_int _) gm nn D rfl HO.out (keyV cc y) kl rfl HK.out ?_; intro d hat hwd; rw [HAT.out] at hat; obtain rfl : (v : Int) = d := (by injection hat with h1; injection h1); clear hat hwd)
        go_round
        case rel => exact ⟨k + 1, v, by omega, hv, rfl, by go_num, HXn⟩
        case measure => simp [intOf]; omega
    · have hkr : r.drop k = [] := List.drop_eq_nil_of_le (by omega)
      have hxr := HXk.out
      rw [hkr, longM] at hxr
      have HXn : Hid (X = (cc, len)) := Lib.hid (by rw [← hxr]; congr 1; omega)
      clear hkr hxr
      go_wp2_with fail
      go_ret2
      rw [HXn.out]
      exact ⟨rfl, rfl⟩
end Go.Proofs.Ythnfnfaiicfenaa
