/- A list of the call's own that is written over and grown: nothing else changes. -/
import Derived.Test.YtlkmhmiaekmkdaaJ
import Derived.Handy
import Derived.Deep.LoopGhost
namespace Go.Proofs.Ytlkmhmiaekmkdaa
open Go.ChangeShapes Go.WideShapes Go.ChangeAt Go.RowKit

theorem ownBlock_sl (A : Option Addr) (n c : Nat) : (Value.slice A n c).ownBlock = A.map (·.block) := by cases A <;> rfl
def SpS (A : Option Addr) : Nat → Prop := fun k => A.map (·.block) = some k
def SpAt (w : World) (base : Nat) (A : Option Addr) (n c : Nat) (wr : World) : Prop :=
  ∃ xs : List UInt8, wr.ownsRow base 5 1 (.slice A n c) n (bytesV xs) ∧ Upd (SpS A) w wr
def SpGr (w : World) (base : Nat) (A : Option Addr) (n m : Nat) (v : Value) (wr : World) : Prop :=
  ∃ (A' : Option Addr) (c' : Nat) (xs : List UInt8), v = .slice A' (n + m) c' ∧ wr.ownsRow base 5 1 (.slice A' (n + m) c') (n + m) (bytesV xs) ∧ Upd (SpS A) w wr ∧ (∀ k, A'.map (·.block) = some k → A.map (·.block) = some k ∨ w.heap.size ≤ k)
theorem five : bytesV [5] = [.int .u8 5] := rfl
theorem bs_lit1 (w : World) (t : TypeId) (x : UInt8) : Bs (w.alloc (.cells #[.int .u8 (x.toNat : Int)] t)) (w.heap.size + 1) (some ⟨w.heap.size, 0, none⟩) [x] := fun _ => by
  refine ⟨_, rfl, Nat.lt_succ_self _, fun j hj => ?_⟩
  have hj0 : j = 0 := by simp at hj; omega
  subst hj0
  exact (Blk.new w t _).cell 0
theorem up_byte (x : Nat) : ∃ z : UInt8, ((x : Int) + 1) % 256 = (z.toNat : Int) := by
  refine ⟨UInt8.ofNat ((x + 1) % 256), ?_⟩
  rw [UInt8.toNat_ofNat']
  omega

set_option maxHeartbeats 1000000 in
set_option maxRecDepth 100000 in
theorem spoil_any (w : World) (base : Nat) (A : Option Addr) (n c : Nat) (l : List UInt8) (hown : w.ownsRow base 5 1 (.slice A n c) n (bytesV l)) (hn : n ≤ 140737488355000) (hbase : base ≤ w.heap.size) :
    Calls Try.prog 38 #[.slice A n c] w fun e w' => e = .returned (.tuple #[]) ∧ Upd (SpS A) w w' := by
  obtain ⟨i0, hi, hz0, hz1, hz2⟩ := info_parts info_u8
  have HO := Lib.hid hown; clear hown
  go_enter Try.func38, Try.ntmps38
  go_wp2_with fail
  go_loopw [6] (fun i wr => ∃ k : Nat, k ≤ n ∧ i = .int .i64 k ∧ SpAt w base A n c wr) (fun i _ => n - (intOf i).toNat)
  case atStart => exact ⟨0, by omega, rfl, l, HO.out, Upd.refl _ _⟩
  case round =>
    obtain ⟨k, hk, rfl, xs, hO, hU⟩ := hrel
    have HU := Lib.hid hU; clear hU
    by_cases hlt : k < n
    · obtain ⟨g, cap, hv, _, hgl⟩ := hO.form (by omega)
      obtain ⟨rfl, rfl⟩ : A = some ⟨g, 0, none⟩ ∧ c = cap := by injection hv with h1 _ h2; exact ⟨h1, h2⟩
      clear hv
      have hxl : xs.length = n := by have := hO.1; rw [bytesV_length] at this; omega
      have hkx : k < xs.length := by omega
      have hcell := hO.cellAt k (by omega)
      rw [bytesV_get xs k hkx] at hcell
      have hfz := hO.frozenAt k
      obtain ⟨x, hx⟩ : ∃ x, x = xs[k].toNat := ⟨_, rfl⟩
      have hx2 : x < 256 := by have := byte_lt xs[k]; omega
      rw [← hx] at hcell
      obtain ⟨z, hz⟩ := up_byte x
      have hst := own_set hO k z
      have HST := Lib.hid hst; clear hst
      have HO2 := Lib.hid hO; clear hO
      clear hx hxl hkx
      go_wp2_with fail
      go_roundw
      case rel => exact ⟨k + 1, by omega, by go_num, _, HST.out, HU.out.setCell (p := ⟨g, k, none⟩) (fun _ => rfl) _⟩
      case measure => simp [intOf]; omega
    · have HO := Lib.hid hO; clear hO
      go_wp2_with fail
      go_loopw [0, 3] (fun v i wr => ∃ m : Nat, m ≤ 20 ∧ i = .int .i64 m ∧ SpGr w base A n m v wr) (fun _ i _ => 20 - (intOf i).toNat)
      case atStart => exact ⟨0, by omega, rfl, A, c, xs, rfl, HO.out, HU.out, fun k h => .inl h⟩
      case round =>
        obtain ⟨m, hm, rfl, A2, c2, ys, rfl, hO2, hU2, hat2⟩ := hrel
        have HO2 := Lib.hid hO2; clear hO2
        have HU2 := Lib.hid hU2; clear hU2
        have HA2 := Lib.hid hat2; clear hat2
        by_cases hmt : m < 20
        · have hs2 := HU2.out.size
          go_wp2_with (at_builtin; refine wpList_append_bs _ rfl (.tmp 22) (.tmp 23) _ rfl base 5 i0 Try.underlying22 hi hz0 hz1 hz2 (.slice A2 (n + m) c2) (n + m) (bytesV ys) rfl (HO2.out.alloc _) (wr.heap.size + 1) (some ⟨wr.heap.size, 0, none⟩) 1 [5] rfl (bs_lit1 wr 5 5) (by simp; omega) (by simp; omega) ?_; intro A3 c3 w3 hO3 hg3 hat3)
          have HA3 := Lib.hid hat3; clear hat3
          go_roundw
          case rel =>
            refine ⟨m + 1, by omega, by go_num, A3, c3, ys ++ [5], rfl, by rw [bytesV_append]; exact hO3, ?_, fun k hk => ?_⟩
            · have u1 : Upd (SpS A) w (wr.alloc (.cells #[.int .u8 5] 5)) := HU2.out.alloc _
              refine u1.then (Upd.of_grown hg3) (fun i hi e => ?_)
              rcases HA2.out i (by rw [← ownBlock_sl]; exact e.symm) with h | h
              · exact h
              · omega
            · rcases HA3.out with h | h
              · rw [ownBlock_sl, ownBlock_sl] at h
                exact HA2.out k (by rw [← h]; exact hk)
              · rw [ownBlock_sl] at h
                rw [h] at hk
                simp at hk
                right
                omega
          case measure => simp [intOf]; omega
        · obtain rfl : m = 20 := by omega
          go_wp2_with fail
          go_end0
          exact ⟨rfl, HU2.out⟩
end Go.Proofs.Ytlkmhmiaekmkdaa
