/- What a stream of deflated bytes is in memory, and what its methods leave alone. -/
import Derived.Test.YthbdhpciibjnmaaPe
import Derived.Test.YthbdhpciibjnmaaBy
import Derived.Test.YthbdhpciibjnmaaIm
import Derived.WalkLawsBesides
namespace Go.Proofs.Ythbdhpciibjnmaa
open Go.ChangeShapes Go.WideShapes Go.ChangeAt Go.RowKit

/-- Blocks of all types but those of T stay. -/
def Keep (T : TypeId → Bool) (w w' : World) : Prop := ∀ (k : Nat) (cs : Array Value) (t : TypeId), Blk w k t cs → T t = false → Blk w' k t cs
section
variable {T : TypeId → Bool} {w w' w'' : World}
theorem Keep.refl (T : TypeId → Bool) (w : World) : Keep T w w := fun _ _ _ h _ => h
theorem Keep.trans (h : Keep T w w') (k : Keep T w' w'') : Keep T w w'' := fun i cs t hb ht => k i cs t (h i cs t hb ht) ht
theorem Keep.of_fresh (h : Below w.heap.size w w') : Keep T w w' := fun _ _ _ hb _ => hb.upd (Upd.of_fresh h) id
theorem Keep.of_upd {S : Nat → Prop} (u : Upd S w w') (hS : ∀ k cs t, S k → Blk w k t cs → T t = true) : Keep T w w' := fun k cs t hb ht => hb.upd u (fun e => by rw [hS k cs t e hb] at ht; cases ht)
theorem Keep.drewN (h : Keep T w w') (n : Nat) : Keep T w (w'.drewN n) := h
theorem Keep.own {base : Nat} {e : TypeId} {n : Nat} {v : Value} {xs : List Value} (h : Keep T w w') (ht : T e = false) (ho : w.ownsRow base e 1 v n xs) : w'.ownsRow base e 1 v n xs := by
  refine ⟨ho.1, ?_⟩
  rcases ho.2 with h2 | ⟨g, cap, cur, rfl, h3, h4, h5⟩
  · exact .inl h2
  · exact .inr ⟨g, cap, cur, rfl, h3, h g cur e h4 ht, h5⟩
theorem Keep.dec {base g : Nat} {l : List Int} (h : Keep T w w') (h1 : T 129 = false) (h2 : T 3 = false) (hd : DecAt w base g l) : DecAt w' base g l := by
  obtain ⟨A, c, S, a1, a2, a3, a4⟩ := hd
  exact ⟨A, c, S, h g _ _ a1 h1, h.own h2 a2, a3, a4⟩
end
/-- The types that a stream's methods write. -/
def TS : TypeId → Bool := fun t => t == 48 || t == 77 || t == 5
/-- The fixed codes' decoders, if they were made. -/
def FixAt (w : World) (B : Nat) (fx : Option Addr) : Prop :=
  fx = none ∨ ∃ gf gl gd, fx = some ⟨gf, 0, none⟩ ∧ Blk w gf 82 #[.pointer (some ⟨gl, 0, none⟩), .pointer (some ⟨gd, 0, none⟩)] ∧ DecAt w B gl fixedL ∧ DecAt w B gd fixedD ∧ B ≤ gf
theorem FixAt.keep {w w' : World} {B : Nat} {fx : Option Addr} (h : FixAt w B fx) (k : Keep TS w w') : FixAt w' B fx := by
  rcases h with h | ⟨gf, gl, gd, h1, h2, h3, h4, h5⟩
  · exact .inl h
  · exact .inr ⟨gf, gl, gd, h1, k gf _ _ h2 (by decide), k.dec (by decide) (by decide) h3, k.dec (by decide) (by decide) h4, h5⟩
/-- A stream stands in block gs: its reader at place p of the bytes b, what was written, the most that may be, the fixed codes. -/
structure Str (w : World) (B gs gr : Nat) (A : Option Addr) (c : Nat) (b : List UInt8) (most p : Nat) (Ao : Option Addr) (co : Nat) (out : List UInt8) (fx : Option Addr) : Prop where
  blk : Blk w gs 48 #[.pointer (some ⟨gr, 0, none⟩), .slice Ao out.length co, .int .i64 (most : Int), .pointer fx]
  rdr : Rdr w B gr A c b false p
  own : w.ownsRow B 5 1 (.slice Ao out.length co) out.length (bytesV out)
  base : B ≤ gs
  size : B ≤ w.heap.size
  fix : FixAt w B fx
  ne : ∀ k, Ao.map (·.block) = some k → A.map (·.block) ≠ some k
/-- The same, wherever what was written lies. -/
def Strm (w : World) (B gs gr : Nat) (A : Option Addr) (c : Nat) (b : List UInt8) (most p : Nat) (out : List UInt8) : Prop := ∃ Ao co fx, Str w B gs gr A c b most p Ao co out fx
section
variable {w w' : World} {B gs gr : Nat} {A : Option Addr} {c : Nat} {b : List UInt8} {most p q : Nat} {Ao : Option Addr} {co : Nat} {out : List UInt8} {fx : Option Addr}
theorem Str.strm (h : Str w B gs gr A c b most p Ao co out fx) : Strm w B gs gr A c b most p out := ⟨_, _, _, h⟩
theorem Str.in_ (h : Str w B gs gr A c b most p Ao co out fx) : w.cell? ⟨gs, 0, none⟩ = some (.pointer (some ⟨gr, 0, none⟩)) := by rw [h.blk.cell]; rfl
theorem Str.out_ (h : Str w B gs gr A c b most p Ao co out fx) : w.cell? ⟨gs, 1, none⟩ = some (.slice Ao out.length co) := by rw [h.blk.cell]; rfl
theorem Str.most_ (h : Str w B gs gr A c b most p Ao co out fx) : w.cell? ⟨gs, 2, none⟩ = some (.int .i64 (most : Int)) := by rw [h.blk.cell]; rfl
theorem Str.fixed_ (h : Str w B gs gr A c b most p Ao co out fx) : w.cell? ⟨gs, 3, none⟩ = some (.pointer fx) := by rw [h.blk.cell]; rfl
/-- Only the reader went on. -/
theorem Str.read (h : Str w B gs gr A c b most p Ao co out fx) (u : Upd (· = gr) w w') (hr : Rdr w' B gr A c b false q) : Str w' B gs gr A c b most q Ao co out fx ∧ Below B w w' ∧ Keep TS w w' := by
  have hk : Keep TS w w' := Keep.of_upd u (fun k cs t e hb => by
    subst e
    have h1 := h.rdr.1
    unfold Blk at hb h1
    rw [h1] at hb
    injection hb with hb
    injection hb with _ hb
    subst hb
    decide)
  refine ⟨⟨h.blk.upd u (Blk.ne_ h.blk h.rdr.1 (by decide)), hr, own_upd h.own u (fun k hk e => ?_), h.base, Nat.le_trans h.size u.size, h.fix.keep hk, h.ne⟩, u.below h.size (fun k hk e => ?_), hk⟩
  · subst e; exact own_blk_ne h.own h.rdr.1 (by decide) hk
  · have := h.rdr.2.2.1; omega
/-- New memory alone was made. -/
theorem Str.fresh (h : Str w B gs gr A c b most p Ao co out fx) (hb : Below w.heap.size w w') : Str w' B gs gr A c b most p Ao co out fx :=
  ⟨h.blk.upd (Upd.of_fresh hb) id, h.rdr.upd (Upd.of_fresh hb) id (fun _ _ => id), own_upd h.own (Upd.of_fresh hb) (fun _ _ => id), h.base, Nat.le_trans h.size hb.size, h.fix.keep (Keep.of_fresh hb), h.ne⟩
theorem Str.drewN (h : Str w B gs gr A c b most p Ao co out fx) (n : Nat) : Str (w.drewN n) B gs gr A c b most p Ao co out fx := ⟨h.blk, h.rdr, h.own, h.base, h.size, h.fix.keep (Keep.refl TS w), h.ne⟩
theorem Str.drew (h : Str w B gs gr A c b most p Ao co out fx) : Str w.drew B gs gr A c b most p Ao co out fx := ⟨h.blk, h.rdr, h.own, h.base, h.size, h.fix.keep (Keep.refl TS w), h.ne⟩
end
/-- A fault of the stream's, as its methods give up. -/
def gaveUp (k : Nat) : Ending := .panicked [{ v := .iface 24 (.int .i64 (k : Int)), recovered := false }]
/-- What a method leaves that answers v, the place and what was written, or gives up. -/
def Left (w : World) (B : Nat) (w' : World) : Prop := Below B w w' ∧ Keep TS w w'
theorem Left.refl (w : World) (B : Nat) : Left w B w := ⟨Below.refl _ _, Keep.refl _ _⟩
theorem Left.trans {w w' w'' : World} {B : Nat} (h : Left w B w') (k : Left w' B w'') : Left w B w'' := ⟨h.1.trans k.1, h.2.trans k.2⟩
theorem Left.fresh {w w' : World} {B : Nat} (h : Below w.heap.size w w') (hB : B ≤ w.heap.size) : Left w B w' := ⟨h.mono hB, Keep.of_fresh h⟩
theorem Left.drewN {w w' : World} {B : Nat} (h : Left w B w') (n : Nat) : Left w B (w'.drewN n) := ⟨below_drewN h.1 n, h.2⟩
theorem Left.of_drew {w w' : World} {B : Nat} (h : Left w.drew B w') : Left w B w' := ⟨⟨h.1.os, h.1.tape, h.1.output, h.1.size, h.1.block⟩, h.2⟩
theorem Left.of_drewN {w w' : World} {B n : Nat} (h : Left (w.drewN n) B w') : Left w B w' := ⟨⟨h.1.os, h.1.tape, h.1.output, h.1.size, h.1.block⟩, h.2⟩
/-- The method's answer by x: (value, place), what was written stays. -/
def Num (w : World) (B gs gr : Nat) (A : Option Addr) (c : Nat) (b : List UInt8) (most : Nat) (Ao : Option Addr) (co : Nat) (out : List UInt8) (fx : Option Addr) (x : Except Nat (Nat × Nat)) (e : Ending) (w' : World) : Prop :=
  match x with
  | .error k => e = gaveUp k ∧ Left w B w'
  | .ok (v, q) => e = .returned (.int .i64 (v : Int)) ∧ Str w' B gs gr A c b most q Ao co out fx ∧ Left w B w'
end Go.Proofs.Ythbdhpciibjnmaa
