/- A list of the call's own that is written over and grown: nothing else changes. -/
import Derived.Test.YthnfnfaiicfenaaVq
import Derived.Test.YthnfnfaiicfenaaWp

import Derived.Handy
import Derived.Deep.LoopGhost
namespace Go.Proofs.Ythnfnfaiicfenaa
open Go.ChangeShapes Go.WideShapes Go.ChangeAt Go.RowKit

theorem own_set {w : World} {base gd n c : Nat} {l : List UInt8} (h : w.ownsRow base 5 1 (.slice (some ⟨gd, 0, none⟩) n c) n (bytesV l)) (q : Nat) (x : UInt8) :
    (w.setCell ⟨gd, q, none⟩ (.int .u8 (x.toNat : Int))).ownsRow base 5 1 (.slice (some ⟨gd, 0, none⟩) n c) n (bytesV (l.set q x)) := by
  have e : bytesV (l.set q x) = (bytesV l).set q (.int .u8 (x.toNat : Int)) := by simp [bytesV, bv, List.map_set]
  rw [e]
  exact (h.stored q _).1
/-- What comes out, nothing at a fault. -/
def outX : Except Nat (List UInt8) → List UInt8
  | .ok o => o
  | .error _ => []
theorem UnpackR.out_ {w w' : World} {X : Except Nat (List UInt8)} {e : Ending} (h : UnpackR w X e w') : ∃ A c g, e = .returned (.tuple #[.slice A (outX X).length c, .int .i64 g]) ∧ w'.ownsRow w.heap.size 5 1 (.slice A (outX X).length c) (outX X).length (bytesV (outX X)) ∧ Below w.heap.size w w' := by
  cases X with
  | ok o => obtain ⟨A, c, h1, h2, h3⟩ := h; exact ⟨A, c, 0, h1, h2, h3⟩
  | error k => obtain ⟨h1, h2⟩ := h; exact ⟨none, 0, k, h1, World.ownsRow_nil _ _ _ _, h2⟩
theorem runsF_len (M : Nat) : ∀ (f : Nat) (b out o : List UInt8), runsF M f b out = .ok o → o.length ≤ out.length + 128 * b.length
  | 0, b, out, o, h => by cases h
  | f + 1, [], out, o, h => by rw [runsF_nil] at h; injection h with h; subst h; omega
  | f + 1, x :: r, out, o, h => by
    rw [runsF_cons] at h
    have hx := byte_lt x
    rw [List.length_cons]
    by_cases h1 : x.toNat < 128
    · rw [if_pos h1] at h
      by_cases h2 : r.length < x.toNat + 1
      · rw [if_pos h2] at h; cases h
      · rw [if_neg h2] at h
        by_cases h3 : M < out.length + (x.toNat + 1)
        · rw [if_pos h3] at h; cases h
        · rw [if_neg h3] at h
          have := runsF_len M f _ _ o h
          rw [List.length_append, List.length_take, List.length_drop] at this
          omega
    · rw [if_neg h1] at h
      by_cases h2 : x.toNat = 128
      · rw [if_pos h2] at h
        have := runsF_len M f _ _ o h
        omega
      · rw [if_neg h2] at h
        cases r with
        | nil => cases h
        | cons y t =>
          simp only at h
          by_cases h3 : M < out.length + (257 - x.toNat)
          · rw [if_pos h3] at h; cases h
          · rw [if_neg h3] at h
            have := runsF_len M f _ _ o h
            rw [List.length_append, List.length_replicate] at this
            rw [List.length_cons]
            omega
theorem outX_len (b : List UInt8) (M : Nat) : (outX (runsM b M)).length ≤ 128 * b.length := by
  cases h : runsM b M with
  | error k => simp [outX]
  | ok o => have := runsF_len M _ b [] o h; simpa [outX] using this
theorem GifPackR.out_ {w w' : World} {b : List UInt8} {size : Int} {e : Ending} (h : GifPackR w b size e w') (hb : b.length ≤ 1048576) : ∃ A k c g, ∃ L : List UInt8, k ≤ 4000000 ∧ e = .returned (.tuple #[.slice A k c, .int .i64 g]) ∧ w'.ownsRow w.heap.size 5 1 (.slice A k c) k (bytesV L) ∧ Below w.heap.size w w' := by
  obtain ⟨hbl, ⟨hf, rfl⟩ | ⟨hf, l, A', c', hp, rfl, ho⟩⟩ := h
  · exact ⟨none, 0, 0, 2, [], by omega, rfl, World.ownsRow_nil _ _ _ _, hbl⟩
  · exact ⟨A', _, c', 0, l, packed_len hp hb, rfl, ho, hbl⟩
theorem ownBlock_sl (A : Option Addr) (n c : Nat) : (Value.slice A n c).ownBlock = A.map (·.block) := by cases A <;> rfl
def SpS (A : Option Addr) : Nat → Prop := fun k => A.map (·.block) = some k
def SpAt (w : World) (base : Nat) (A : Option Addr) (n c : Nat) (wr : World) : Prop :=
  ∃ xs : List UInt8, wr.ownsRow base 5 1 (.slice A n c) n (bytesV xs) ∧ Upd (SpS A) w wr
def SpGr (w : World) (base : Nat) (A : Option Addr) (n m : Nat) (v : Value) (wr : World) : Prop :=
  ∃ (A' : Option Addr) (c' : Nat) (xs : List UInt8), v = .slice A' (n + m) c' ∧ wr.ownsRow base 5 1 (.slice A' (n + m) c') (n + m) (bytesV xs) ∧ Upd (SpS A) w wr ∧ (∀ k, A'.map (·.block) = some k → A.map (·.block) = some k ∨ w.heap.size ≤ k)
theorem five : bytesV [5] = [.int .u8 5] := rfl
theorem bs_lit1 (w : World) (t : TypeId) (x : UInt8) : Bs (w.alloc (.cells #[.int .u8 (x.toNat : Int)] t)) (w.heap.size + 1) (some ⟨w.heap.size, 0, none⟩) [x] := fun _ => by
  refine ⟨_, rfl, Nat.lt_succ_self _, fun j hj => ?_⟩
  have hj0 : j = 0 := by simp at hj; omega
  subst hj0
  exact (Blk.new w t _).cell 0
theorem up_byte (x : Nat) : ∃ z : UInt8, ((x : Int) + 1) % 256 = (z.toNat : Int) := by
  refine ⟨UInt8.ofNat ((x + 1) % 256), ?_⟩
  rw [UInt8.toNat_ofNat']
  omega

set_option maxHeartbeats 1000000 in
set_option maxRecDepth 100000 in
theorem spoil_any (w : World) (base : Nat) (A : Option Addr) (n c : Nat) (l : List UInt8) (hown : w.ownsRow base 5 1 (.slice A n c) n (bytesV l)) (hn : n ≤ 140737488355000) (hbase : base ≤ w.heap.size) :
    Calls Try.prog 22 #[.slice A n c] w fun e w' => e = .returned (.tuple #[]) ∧ Upd (SpS A) w w' := by
  obtain ⟨i0, hi, hz0, hz1, hz2⟩ := info_parts info_u8
  have HO := Lib.hid hown; clear hown
  go_enter Try.func22, Try.ntmps22
  go_wp2_with fail
  go_loopw [6] (fun i wr => ∃ k : Nat, k ≤ n ∧ i = .int .i64 k ∧ SpAt w base A n c wr) (fun i _ => n - (intOf i).toNat)
  case atStart => exact ⟨0, by omega, rfl, l, HO.out, Upd.refl _ _⟩
  case round =>
    obtain ⟨k, hk, rfl, xs, hO, hU⟩ := hrel
    have HU := Lib.hid hU; clear hU
    by_cases hlt : k < n
    · obtain ⟨g, cap, hv, _, hgl⟩ := hO.form (by omega)
      obtain ⟨rfl, rfl⟩ : A = some ⟨g, 0, none⟩ ∧ c = cap := by injection hv with h1 _ h2; exact ⟨h1, h2⟩
      clear hv
      have hxl : xs.length = n := by have := hO.1; rw [bytesV_length] at this; omega
      have hkx : k < xs.length := by omega
      have hcell := hO.cellAt k (by omega)
      rw [bytesV_get xs k hkx] at hcell
      have hfz := hO.frozenAt k
      obtain ⟨x, hx⟩ : ∃ x, x = xs[k].toNat := ⟨_, rfl⟩
      have hx2 : x < 256 := by have := byte_lt xs[k]; omega
      rw [← hx] at hcell
      obtain ⟨z, hz⟩ := up_byte x
      have hst := own_set hO k z
      have HST := Lib.hid hst; clear hst
      have HO2 := Lib.hid hO; clear hO
      clear hx hxl hkx
      go_wp2_with fail
      go_roundw
      case rel => exact ⟨k + 1, by omega, by go_num, _, HST.out, HU.out.setCell (p := ⟨g, k, none⟩) (fun _ => rfl) _⟩
      case measure => simp [intOf]; omega
    · have HO := Lib.hid hO; clear hO
      go_wp2_with fail
      go_loopw [0, 3] (fun v i wr => ∃ m : Nat, m ≤ 20 ∧ i = .int .i64 m ∧ SpGr w base A n m v wr) (fun _ i _ => 20 - (intOf i).toNat)
      case atStart => exact ⟨0, by omega, rfl, A, c, xs, rfl, HO.out, HU.out, fun k h => .inl h⟩
      case round =>
        obtain ⟨m, hm, rfl, A2, c2, ys, rfl, hO2, hU2, hat2⟩ := hrel
        have HO2 := Lib.hid hO2; clear hO2
        have HU2 := Lib.hid hU2; clear hU2
        have HA2 := Lib.hid hat2; clear hat2
        by_cases hmt : m < 20
        · have hs2 := HU2.out.size
          go_wp2_with (at_builtin; refine wpList_append_bs _ rfl (.tmp 22) (.tmp 23) _ rfl base 5 i0 Try.underlying22 hi hz0 hz1 hz2 (.slice A2 (n + m) c2) (n + m) (bytesV ys) rfl (HO2.out.alloc _) (wr.heap.size + 1) (some ⟨wr.heap.size, 0, none⟩) 1 [5] rfl (bs_lit1 wr 5 5) (by simp; omega) (by simp; omega) ?_; intro A3 c3 w3 hO3 hg3 hat3)
          have HA3 := Lib.hid hat3; clear hat3
          go_roundw
          case rel =>
            refine ⟨m + 1, by omega, by go_num, A3, c3, ys ++ [5], rfl, by rw [bytesV_append]; exact hO3, ?_, fun k hk => ?_⟩
            · have u1 : Upd (SpS A) w (wr.alloc (.cells #[.int .u8 5] 5)) := HU2.out.alloc _
              refine u1.then (Upd.of_grown hg3) (fun i hi e => ?_)
              rcases HA2.out i (by rw [← ownBlock_sl]; exact e.symm) with h | h
              · exact h
              · omega
            · rcases HA3.out with h | h
              · rw [ownBlock_sl, ownBlock_sl] at h
                exact HA2.out k (by rw [← h]; exact hk)
              · rw [ownBlock_sl] at h
                rw [h] at hk
                simp at hk
                right
                omega
          case measure => simp [intOf]; omega
        · obtain rfl : m = 20 := by omega
          go_wp2_with fail
          go_end0
          exact ⟨rfl, HU2.out⟩
end Go.Proofs.Ythnfnfaiicfenaa
