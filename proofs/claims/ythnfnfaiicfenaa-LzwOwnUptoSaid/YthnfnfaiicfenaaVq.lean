/- What the statements on packing and reading back share. -/
import Derived.Test.YthnfnfaiicfenaaVb
import Derived.Test.YthnfnfaiicfenaaVm
import Derived.Test.YthnfnfaiicfenaaVp
import Derived.Test.YthnfnfaiicfenaaSame
namespace Go.Proofs.Ythnfnfaiicfenaa
open Go.ChangeShapes Go.WideShapes Go.ChangeAt Go.RowKit

theorem packF_len (size : Nat) (high : Bool) (early : Nat) : ∀ (f : Nat) (rem : List UInt8) (bits : List Bool) (M : List ((Nat × UInt8) × Nat)) (n : Nat) (ah : Bool), (packF size high early f rem bits M n ah).length ≤ bits.length + 24 * rem.length + 12 := by
  have hw : ∀ n, wM early n ≤ 12 := fun n => by unfold wM; omega
  intro f
  induction f with
  | zero => intro rem bits M n ah; rw [packF]; omega
  | succ f ih =>
    intro rem bits M n ah
    cases rem with
    | nil => rw [packF, List.length_append, bitsOf_length]; have := hw n; omega
    | cons x r =>
      rw [packF]
      have hk := (longM_le M r x.toNat 1).1
      have hlen : ((x :: r).drop (longM M x.toNat r 1).2).length + 1 ≤ (x :: r).length := by rw [List.length_drop]; simp only [List.length_cons]; omega
      cases hd : (x :: r).drop (longM M x.toNat r 1).2 with
      | nil =>
        dsimp only
        refine Nat.le_trans (ih _ _ _ _ _) ?_
        rw [List.length_append, bitsOf_length]
        have := hw n
        simp only [List.length_nil, List.length_cons]
        omega
      | cons y s =>
        rw [hd] at hlen
        dsimp only
        have h1 := hw n
        have h2 := hw 4094
        split
        · refine Nat.le_trans (ih _ _ _ _ _) ?_
          rw [List.length_append, List.length_append, bitsOf_length, bitsOf_length]
          omega
        · refine Nat.le_trans (ih _ _ _ _ _) ?_
          rw [List.length_append, bitsOf_length]
          omega
theorem packed_len {size early : Nat} {high : Bool} {b l : List UInt8} (h : Packed high (packM size high early b) l) (hb : b.length ≤ 1048576) : l.length ≤ 4000000 := by
  have h1 := packF_len size high early (b.length + 1) b (bitsOf high (clr size) (wM early (clr size + 2))) [] (clr size + 2) false
  have h2 : wM early (clr size + 2) ≤ 12 := by unfold wM; omega
  rw [bitsOf_length] at h1
  have h3 := h.1
  unfold packM at h3
  omega
theorem byte_256 (b : List UInt8) : ∀ x ∈ b, x.toNat < clr 8 := fun x _ => by have := x.toNat_lt; unfold clr; omega
theorem tiff_back {b l : List UInt8} (h : Packed true (packM 8 true 1 b) l) (most : Int) : tiffM l most = if b.length ≤ most.toNat then .ok b else .error 3 := unpack_pack (by omega) (by omega) (by omega) (byte_256 b) h
theorem gif_back {b l : List UInt8} {s : Nat} (h1 : 2 ≤ s) (h2 : s ≤ 8) (hb : ∀ x ∈ b, x.toNat < clr s) (h : Packed false (packM s false 0 b) l) (most : Int) : gifM l (s : Int) most = if b.length ≤ most.toNat then .ok b else .error 3 := by
  unfold gifM
  rw [if_neg (by omega), Int.toNat_natCast]
  exact unpack_pack h1 h2 (by omega) hb h
/-- Two slices that read as the same bytes. -/
theorem same_tt (A1 A2 : Option Addr) (c1 c2 n : Nat) (b : List UInt8) (hn : b.length = n) (B : Nat) (w : World) (h1 : Bs w B A1 b) (h2 : Bs w B A2 b) (hl : n ≤ maxLen) :
    Calls Try.prog 14 #[.slice A1 n c1, .slice A2 n c2] w fun e w' => e = .returned (.bool true) ∧ ∃ n, w' = w.drewN n := by
  subst hn
  refine (same_any A1 A2 c1 c2 b b B w h1 h2 hl).mono fun e w' hq => ⟨?_, hq.2⟩
  rw [hq.1]
  simp
/-- What a reader answers of bytes that come back. -/
theorem UnpackR.ok_ {w w' : World} {x : Except Nat (List UInt8)} {b : List UInt8} {n : Nat} {e : Ending} (hx : x = .ok b) (hn : b.length = n) (h : UnpackR w x e w') : ∃ A c, e = .returned (.tuple #[.slice A n c, .int .i64 0]) ∧ Bs w' w'.heap.size A b ∧ Below w.heap.size w w' := by
  subst hx
  subst hn
  obtain ⟨A, c, h1, h2, h3⟩ := h
  exact ⟨A, c, h1, Bs.of_own h2, h3⟩
theorem UnpackR.any_ {w w' : World} {b : List UInt8} {n : Nat} {m : Int} {e : Ending} (hn : b.length = n) (hm : m = (n : Int) - 1) (h : UnpackR w (if b.length ≤ m.toNat then .ok b else .error 3) e w') : ∃ (A : Option Addr) (k c : Nat) (g : Int), e = .returned (.tuple #[.slice A k c, .int .i64 g]) ∧ (g = 3 ∨ n = 0) ∧ Below w.heap.size w w' := by
  subst hn
  by_cases hle : b.length ≤ m.toNat
  · rw [if_pos hle] at h
    obtain ⟨A, c, h1, _, h3⟩ := h
    exact ⟨A, _, c, 0, h1, .inr (by omega), h3⟩
  · rw [if_neg hle] at h
    exact ⟨none, 0, 0, 3, h.1, .inl rfl, h.2⟩
/-- May these bytes be packed with such a size? -/
def Fits (l : List UInt8) (size : Int) : Prop := 2 ≤ size ∧ size ≤ 8 ∧ ∀ x ∈ l, x.toNat < clr size.toNat
theorem GifPackR.say {w w' : World} {b : List UInt8} {size : Int} {e : Ending} (h : GifPackR w b size e w') : ∃ (Aq : Option Addr) (mq cq : Nat) (kq : Int), e = .returned (.tuple #[.slice Aq mq cq, .int .i64 kq]) ∧ Below w.heap.size w w' ∧ ((¬ Fits b size ∧ kq = 2 ∧ mq = 0) ∨ (Fits b size ∧ kq = 0 ∧ ∃ lq : List UInt8, lq.length = mq ∧ Packed false (packM size.toNat false 0 b) lq ∧ Bs w' w'.heap.size Aq lq)) := by
  obtain ⟨hb, ⟨hf, rfl⟩ | ⟨hf, l, A', c', hp, rfl, ho⟩⟩ := h
  · exact ⟨none, 0, 0, 2, rfl, hb, .inl ⟨hf, rfl, rfl⟩⟩
  · exact ⟨A', _, c', 0, rfl, hb, .inr ⟨hf, rfl, l, rfl, hp, Bs.of_own ho⟩⟩
end Go.Proofs.Ythnfnfaiicfenaa
