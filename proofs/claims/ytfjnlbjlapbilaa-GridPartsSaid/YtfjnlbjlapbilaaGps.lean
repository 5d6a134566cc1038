/- What GridParts' statement holds of its memory; both Crops and both Pastes said in one way. -/
import Derived.Test.YtfjnlbjlapbilaaGpb
import Derived.Test.YtfjnlbjlapbilaaGpc
import Derived.Test.YtfjnlbjlapbilaaGf
import Derived.Test.YtfjnlbjlapbilaaGo
namespace Go.Proofs.Ytfjnlbjlapbilaa
open Go.ChangeShapes Go.WideShapes Go.ChangeAt Go.RowKit

/-- What the law holds of its three boxed arguments. -/
structure PSt (w W : World) (x y : Int) (A : Option Addr) (c n : Nat) (l : List Int) (x' y' : Int) (A' : Option Addr) (c' n' : Nat) (l' : List Int) (a b p q : Int) : Prop where
  b0 : Blk W w.heap.size 24 #[.int .i64 x, .int .i64 y, .slice A n c]
  b1 : Blk W (w.heap.size + 1) 24 #[.int .i64 x', .int .i64 y', .slice A' n' c']
  b2 : Blk W (w.heap.size + 1 + 1) 37 #[.int .i64 a, .int .i64 b, .int .i64 p, .int .i64 q]
  bel : Below w.heap.size w W
  i0 : Is W w.heap.size A l
  i1 : Is W w.heap.size A' l'
section
variable {w W W' : World} {x y : Int} {A : Option Addr} {c n : Nat} {l : List Int} {x' y' : Int} {A' : Option Addr} {c' n' : Nat} {l' : List Int} {a b p q : Int}
theorem PSt.new (h : Is w w.heap.size A l) (h' : Is w w.heap.size A' l') : PSt w (((w.alloc (.cells #[.int .i64 x, .int .i64 y, .slice A n c] 24)).alloc (.cells #[.int .i64 x', .int .i64 y', .slice A' n' c'] 24)).alloc (.cells #[.int .i64 a, .int .i64 b, .int .i64 p, .int .i64 q] 37)) x y A c n l x' y' A' c' n' l' a b p q := by
  obtain ⟨h1, _, h2, h3, h4⟩ := boxes3 w #[.int .i64 x, .int .i64 y, .slice A n c] #[.int .i64 x', .int .i64 y', .slice A' n' c'] #[.int .i64 a, .int .i64 b, .int .i64 p, .int .i64 q] 24 24 37
  exact ⟨h2, h3, h4, h1, Vs.below h h1, Vs.below h' h1⟩
theorem PSt.upd {S : Nat → Prop} (h : PSt w W x y A c n l x' y' A' c' n' l' a b p q) (u : Upd S W W') (hS : ∀ k, k ≤ w.heap.size + 2 → ¬ S k) : PSt w W' x y A c n l x' y' A' c' n' l' a b p q := by
  have hb : Below w.heap.size W W' := u.below h.bel.size (fun k hk => hS k (by omega))
  exact ⟨h.b0.upd u (hS _ (by omega)), h.b1.upd u (hS _ (by omega)), h.b2.upd u (hS _ (by omega)), h.bel.trans hb, Vs.below h.i0 hb, Vs.below h.i1 hb⟩
theorem PSt.next (h : PSt w W x y A c n l x' y' A' c' n' l' a b p q) (hb : Below W.heap.size W W') : PSt w W' x y A c n l x' y' A' c' n' l' a b p q := h.upd (Upd.of_fresh hb) (fun _ _ => id)
theorem PSt.k0 (h : PSt w W x y A c n l x' y' A' c' n' l' a b p q) : W.cell? ⟨w.heap.size, 0, none⟩ = some (.int .i64 x) := by rw [h.b0.cell]; rfl
theorem PSt.k1 (h : PSt w W x y A c n l x' y' A' c' n' l' a b p q) : W.cell? ⟨w.heap.size, 1, none⟩ = some (.int .i64 y) := by rw [h.b0.cell]; rfl
theorem PSt.k2 (h : PSt w W x y A c n l x' y' A' c' n' l' a b p q) : W.cell? ⟨w.heap.size, 2, none⟩ = some (.slice A n c) := by rw [h.b0.cell]; rfl
theorem PSt.m0 (h : PSt w W x y A c n l x' y' A' c' n' l' a b p q) : W.cell? ⟨w.heap.size + 1, 0, none⟩ = some (.int .i64 x') := by rw [h.b1.cell]; rfl
theorem PSt.m1 (h : PSt w W x y A c n l x' y' A' c' n' l' a b p q) : W.cell? ⟨w.heap.size + 1, 1, none⟩ = some (.int .i64 y') := by rw [h.b1.cell]; rfl
theorem PSt.m2 (h : PSt w W x y A c n l x' y' A' c' n' l' a b p q) : W.cell? ⟨w.heap.size + 1, 2, none⟩ = some (.slice A' n' c') := by rw [h.b1.cell]; rfl
theorem PSt.r0 (h : PSt w W x y A c n l x' y' A' c' n' l' a b p q) : W.cell? ⟨w.heap.size + 1 + 1, 0, none⟩ = some (.int .i64 a) := by rw [h.b2.cell]; rfl
theorem PSt.r1 (h : PSt w W x y A c n l x' y' A' c' n' l' a b p q) : W.cell? ⟨w.heap.size + 1 + 1, 1, none⟩ = some (.int .i64 b) := by rw [h.b2.cell]; rfl
theorem PSt.r2 (h : PSt w W x y A c n l x' y' A' c' n' l' a b p q) : W.cell? ⟨w.heap.size + 1 + 1, 2, none⟩ = some (.int .i64 p) := by rw [h.b2.cell]; rfl
theorem PSt.r3 (h : PSt w W x y A c n l x' y' A' c' n' l' a b p q) : W.cell? ⟨w.heap.size + 1 + 1, 3, none⟩ = some (.int .i64 q) := by rw [h.b2.cell]; rfl
theorem PSt.lt (h : PSt w W x y A c n l x' y' A' c' n' l' a b p q) : w.heap.size + 2 < W.heap.size := h.b2.lt
end
/-- What a Crop answers beside its error: nothing, or a part. -/
def PartV (w' : World) (base : Nat) (l : List Int) (W H : Nat) (x y p q : Int) (pv : Option Addr) (ev : Int) : Prop :=
  (inB x y p q W H = false ∧ pv = none ∧ ev = 2) ∨ (inB x y p q W H = true ∧ ∃ g r c', pv = some ⟨g, 0, none⟩ ∧ ev = 0 ∧ GridAt w' base 87 3 g r c' p.toNat q.toNat (intsV (partL l W x.toNat y.toNat p.toNat q.toNat)))
theorem CropR.say {w w' : World} {l : List Int} {W H : Nat} {x y p q : Int} {e : Ending} (h : CropR w l W H x y p q e w') : ∃ pv ev, e = .returned (.tuple #[.pointer pv, .int .i64 ev]) ∧ PartV w' w.heap.size l W H x y p q pv ev ∧ Below w.heap.size w w' := by
  unfold CropR at h
  cases hi : inB x y p q W H with
  | false =>
    rw [if_pos hi] at h
    obtain ⟨rfl, hb⟩ := h
    exact ⟨none, 2, rfl, .inl ⟨hi, rfl, rfl⟩, hb⟩
  | true =>
    rw [if_neg (by rw [hi]; simp)] at h
    obtain ⟨g, r, c', rfl, h2, h3⟩ := h
    exact ⟨_, 0, rfl, .inr ⟨hi, g, r, c', rfl, rfl, h2⟩, h3⟩
def RPartV (w' : World) (l : List Int) (W H : Nat) (x y p q : Int) (fv va vb : Int) (A : Option Addr) (m : Nat) : Prop :=
  (inB x y p q W H = false ∧ fv = 2) ∨ (inB x y p q W H = true ∧ fv = 0 ∧ va = p ∧ vb = q ∧ m = p.toNat * q.toNat ∧ Is w' w'.heap.size A (partL l W x.toNat y.toNat p.toNat q.toNat))
theorem RCropR.say {w w' : World} {l : List Int} {W H : Nat} {x y p q : Int} {e : Ending} (h : RCropR w l W H x y p q e w') : ∃ fv va vb A m c, e = .returned (.tuple #[.agg #[.int .i64 va, .int .i64 vb, .slice A m c], .int .i64 fv]) ∧ RPartV w' l W H x y p q fv va vb A m ∧ Below w.heap.size w w' := by
  unfold RCropR at h
  cases hi : inB x y p q W H with
  | false =>
    rw [if_pos hi] at h
    obtain ⟨rfl, h2⟩ := h
    exact ⟨2, 0, 0, none, 0, 0, rfl, .inl ⟨hi, rfl⟩, h2⟩
  | true =>
    rw [if_neg (by rw [hi]; simp)] at h
    obtain ⟨A, c, rfl, h2, h3⟩ := h
    exact ⟨0, p, q, A, _, c, rfl, .inr ⟨hi, rfl, rfl, rfl, rfl, h2⟩, h3⟩
/-- What Paste answers; the cells behind it. -/
def pasteE (x y : Int) (P Q W H : Nat) : Int := if inB x y P Q W H = false then 2 else 0
def pasteC (l : List Int) (W H : Nat) (x y : Int) (m : List Int) (P Q : Nat) : List Int := if inB x y P Q W H = false then l else pasteL l W x.toNat y.toNat m P Q
theorem PasteR.say {w w' : World} {base g r c W H P Q : Nat} {l m : List Int} {x y : Int} {e : Ending} (hg : GridAt w base 87 3 g r c W H (intsV l)) (h : PasteR w base g r c W H l m P Q x y e w') :
    e = .returned (.int .i64 (pasteE x y P Q W H)) ∧ GridAt w' base 87 3 g r c W H (intsV (pasteC l W H x y m P Q)) ∧ Upd (· = r) w w' := by
  unfold PasteR at h
  cases hi : inB x y P Q W H with
  | false =>
    rw [if_pos hi] at h
    obtain ⟨rfl, h2⟩ := h
    rw [show pasteE x y P Q W H = 2 from if_pos hi, show pasteC l W H x y m P Q = l from if_pos hi]
    exact ⟨rfl, hg.below h2, (Upd.of_fresh h2).mono (fun _ _ h => h.elim)⟩
  | true =>
    rw [if_neg (by rw [hi]; simp)] at h
    have hne : ¬ inB x y P Q W H = false := by rw [hi]; simp
    rw [show pasteE x y P Q W H = 0 from if_neg hne, show pasteC l W H x y m P Q = pasteL l W x.toNat y.toNat m P Q from if_neg hne]
    exact h
theorem RPasteR.say {w w' : World} {A : Option Addr} {c n B W H P Q : Nat} {l m : List Int} {x y : Int} {e : Ending} (hi0 : Is w B A l) (hB : B ≤ w.heap.size) (h : RPasteR w A c n l m W H P Q x y e w') :
    ∃ A9 c9, e = .returned (.tuple #[.agg #[.int .i64 (W : Int), .int .i64 (H : Int), .slice A9 n c9], .int .i64 (pasteE x y P Q W H)]) ∧ Is w' w'.heap.size A9 (pasteC l W H x y m P Q) ∧ (A9 = A ∨ ∃ k, w.heap.size ≤ k ∧ A9 = some ⟨k, 0, none⟩) ∧ Below w.heap.size w w' := by
  unfold RPasteR at h
  cases hi : inB x y P Q W H with
  | false =>
    rw [if_pos hi] at h
    obtain ⟨rfl, h2⟩ := h
    rw [show pasteE x y P Q W H = 2 from if_pos hi, show pasteC l W H x y m P Q = l from if_pos hi]
    exact ⟨A, c, rfl, (Vs.below hi0 (h2.mono hB)).more (by have := h2.size; omega), .inl rfl, h2⟩
  | true =>
    rw [if_neg (by rw [hi]; simp)] at h
    have hne : ¬ inB x y P Q W H = false := by rw [hi]; simp
    rw [show pasteE x y P Q W H = 0 from if_neg hne, show pasteC l W H x y m P Q = pasteL l W x.toNat y.toNat m P Q from if_neg hne]
    obtain ⟨r9, c9, h1, rfl, h3, h4⟩ := h
    exact ⟨_, c9, rfl, h3, .inr ⟨r9, h1, rfl⟩, h4⟩
end Go.Proofs.Ytfjnlbjlapbilaa
