/- Join, the program's. -/
import Derived.Test.YtaloieeemibblaaEq
import Derived.Test.YtaloieeemibblaaCr
set_option linter.unusedVariables false
set_option linter.unusedSimpArgs false
namespace Go.Proofs.Ytaloieeemibblaa
open Go.ChangeShapes Go.WideShapes Go.ChangeAt Go.RowKit

def mkL : List UInt8 := [137, 80, 78, 71, 13, 10, 26, 10]
/-- What stands of a chunk in a file. -/
def bodyL (k : Ck) : List UInt8 := sb k.t ++ k.d
def ckL (k : Ck) : List UInt8 := beB k.d.length ++ bodyL k ++ beB (crcOn 0 (bodyL k))
def joinF (l : List Ck) : Nat → List UInt8
  | 0 => mkL
  | i + 1 => joinF l i ++ (match l[i]? with | some k => ckL k | none => [])
theorem joinF_next (l : List Ck) (i : Nat) (hi : i < l.length) : joinF l (i + 1) = joinF l i ++ ckL l[i] := by
  rw [joinF, List.getElem?_eq_getElem hi]
theorem joinF_mono (l : List Ck) (i j : Nat) (h : i ≤ j) : (joinF l i).length ≤ (joinF l j).length := by
  induction j with
  | zero => obtain rfl : i = 0 := by omega
            exact Nat.le_refl _
  | succ j ih =>
    by_cases e : i = j + 1
    · subst e; exact Nat.le_refl _
    · exact Nat.le_trans (ih (by omega)) (by rw [joinF, List.length_append]; omega)
theorem bw_room (w : World) (s : ByteArray) (j : Nat) (hj : j < grownCap w s.size 0 5) : ((Lib.bytesWorld w 5 s).cell? ⟨w.heap.size, j, none⟩).isSome = true ∧ (Lib.bytesWorld w 5 s).frozen? ⟨w.heap.size, j, none⟩ = false := by
  have h := Lib.bytesWorld_at_new w 5 s
  have hge := grownCap_ge w s.size 0 5
  have hsz : (Lib.bytesCells w 5 s).size = grownCap w s.size 0 5 := by
    simp [Lib.bytesCells]
    omega
  refine ⟨?_, ?_⟩
  · simp [World.cell?, h, hsz, hj]
  · simp [World.frozen?, h, hsz]
    omega
/-- What a file is so far: bytes of the call's own, or the constant that it began with. -/
def BJ (base : Nat) (V : World) (A : Option Addr) (n c : Nat) (L : List UInt8) : Prop :=
  V.ownsRow base 5 1 (.slice A n c) n (bytesV L) ∨ (∃ g, A = some ⟨g, 0, none⟩ ∧ c = n ∧ L.length = n ∧ base ≤ g ∧ g < V.heap.size ∧ Bs V V.heap.size A L)
theorem BJ.keep {base : Nat} {V V' : World} {A : Option Addr} {n c : Nat} {L : List UInt8} (h : BJ base V A n c L) {S : Nat → Prop} (u : Upd S V V') (hS : ∀ j, S j → V.heap.size ≤ j) : BJ base V' A n c L := by
  rcases h with h | ⟨g, rfl, h1, h2, h3, h4, h5⟩
  · exact .inl (own_upd h u (fun j hj e => by have := (h.lt j hj).2; have := hS j e; omega))
  · exact .inr ⟨g, rfl, h1, h2, h3, Nat.lt_of_lt_of_le h4 u.size, (h5.upd u (Nat.le_refl _) (fun ad _ hlt e => by have := hS _ e; omega)).more u.size⟩
theorem BJ.app {base : Nat} {V : World} {A : Option Addr} {n c : Nat} {L : List UInt8} (h : BJ base V A n c L) (hb : base ≤ V.heap.size) (B : Nat) (A2 : Option Addr) (m c2 : Nat) (ys : List UInt8) (hm : ys.length = m) (h0 : 0 < m) (hr : Bs V B A2 ys) (h47 : n + m ≤ 140737488355328) (ty : TypeId) :
    ∃ A' c' V', (Builtin.append_ #[22, 22] ty #[.slice A n c, .slice A2 m c2]).run Try.prog V = .ok (.slice A' (n + m) c') V' ∧ V'.ownsRow base 5 1 (.slice A' (n + m) c') (n + m) (bytesV (L ++ ys)) ∧ Upd (fun j => A.map (·.block) = some j) V V' ∧ (A'.map (·.block) = A.map (·.block) ∨ A'.map (·.block) = some V.heap.size) ∧ Below base V V' := by
  rcases h with h | ⟨g, rfl, rfl, h2, h3, h4, h5⟩
  · obtain ⟨A', c', V', q1, q2, q3, q4⟩ := append8 base V (.slice A n c) n L h hb B A2 m c2 ys hm hr h47 ty
    rw [own_block_sl, own_block_sl] at q4
    have u := (Upd.of_grown q3).mono (T := fun j => A.map (·.block) = some j) (fun j _ e => by rw [own_block_sl] at e; exact e.symm)
    exact ⟨A', c', V', q1, q2, u, q4, u.below hb (fun j hj e => by have := (row_lt h j e).1; omega)⟩
  · obtain ⟨i0, hi, hz0, hz1, hz2⟩ := info_parts info_u8
    subst hm
    subst h2
    obtain ⟨ad, rfl, _, hc⟩ := hr h0
    have hc1 : ∀ (j : Nat) (hj : j < L.length), V.cell? ((⟨g, 0, none⟩ : Addr).add j) = some (.int .u8 (L[j].toNat : Int)) := fun j hj => by
      obtain ⟨ad1, e1, _, hc1⟩ := h5 (by omega)
      injection e1 with e1
      subst e1
      exact hc1 j hj
    have hgr := run_append_grow (P := Try.prog) V 22 ty 5 i0 (.int .u8 0) Try.underlying22 hi hz0 ⟨g, 0, none⟩ L.length L.length (bytesV L) (by rw [bytesV_length, hz1]; omega) (fun j v hv => by
        have hj : j < L.length := by
          have := (List.getElem?_eq_some_iff.mp hv).1
          rwa [bytesV_length] at this
        rw [hc1 j hj, ← bytesV_get L j hj, hv]) ad ys.length c2 (bytesV ys) (by rw [bytesV_length, hz1]; omega) (fun j v hv => by
        have hj : j < ys.length := by
          have := (List.getElem?_eq_some_iff.mp hv).1
          rwa [bytesV_length] at this
        rw [hc j hj, ← bytesV_get ys j hj, hv]) (by omega) (by omega) (growslice_fits (by omega) (by rw [hz2]; omega))
    have hge := grownCap_ge V (L.length + ys.length) L.length 5
    have hcm : grownCap V (L.length + ys.length) L.length 5 ≤ maxLen := grownCap_le_maxLen V _ _ _ (by unfold maxLen; omega)
    refine ⟨_, _, _, hgr, ⟨by rw [bytesV_length, List.length_append]; omega, .inr ⟨V.heap.size, _, _, rfl, hb, heap_alloc_new V.drew _, hge, hcm, ?_, ?_⟩⟩, ((Upd.refl _ V).drew).alloc _, .inr rfl, ?_⟩
    · simp only [Array.size_append, List.size_toArray, bytesV_length, size_zeroCells, show (Value.int IntKind.u8 0).cells.size = 1 from rfl]
      omega
    · simp only [Array.toList_append, List.append_assoc]
      rw [← List.append_assoc, ← bytesV_append]
      rw [show (L.length + ys.length) * 1 = (bytesV (L ++ ys)).length by rw [bytesV_length, List.length_append]; omega]
      exact List.take_left
    · exact (((Below.refl base V).drew).alloc hb _)
end Go.Proofs.Ytaloieeemibblaa
