/- What the document's reader of codes holds in memory. -/
import Derived.Test.YthnfnfaiicfenaaRb
import Derived.Test.YthnfnfaiicfenaaZf
namespace Go.Proofs.Ythnfnfaiicfenaa
open Go.ChangeShapes Go.WideShapes Go.ChangeAt Go.RowKit

/-- Two slices' blocks differ. -/
def Apart (A A' : Option Addr) : Prop := ∀ k, A.map (·.block) = some k → A'.map (·.block) ≠ some k
theorem Apart.none_ (A : Option Addr) : Apart A none := fun _ _ h => by cases h
theorem Apart.symm {A A' : Option Addr} (h : Apart A A') : Apart A' A := fun k hk hk' => h k hk' hk
structure DMem (w0 w : World) (gR gT clear : Nat) (A : Option Addr) (c : Nat) (b : List UInt8) (high : Bool) (p : Nat) (Aa : Option Addr) (ca : Nat) (ah : List Nat) (Al : Option Addr) (cl : Nat) (la : List UInt8) (As : Option Addr) (cs : Nat) (sz : List Nat)
    (Ao : Option Addr) (co : Nat) (out : List UInt8) (A3 : Option Addr) (c3 : Nat) (s : List UInt8) : Prop where
  rb : Blk w gR 71 #[.slice A b.length c, .bool high, .int .i64 (p : Int)]
  tb : Blk w gT 74 #[.int .i64 (clear : Int), .slice Aa ah.length ca, .slice Al la.length cl, .slice As sz.length cs]
  ra : w.ownsRow w0.heap.size 3 1 (.slice Aa ah.length ca) ah.length (ntV ah)
  rl : w.ownsRow w0.heap.size 5 1 (.slice Al la.length cl) la.length (bytesV la)
  rs : w.ownsRow w0.heap.size 3 1 (.slice As sz.length cs) sz.length (ntV sz)
  ro : w.ownsRow w0.heap.size 5 1 (.slice Ao out.length co) out.length (bytesV out)
  r3 : w.ownsRow w0.heap.size 5 1 (.slice A3 s.length c3) s.length (bytesV s)
  as_ : Apart Aa As
  lo_ : Apart Al Ao
  so_ : Apart A3 Ao
  sl_ : Apart A3 Al
  below : Below w0.heap.size w0 w
  lR : w0.heap.size ≤ gR
  lT : w0.heap.size ≤ gT
section
variable {w0 w w' wm : World} {gR gT clear : Nat} {A : Option Addr} {c : Nat} {b : List UInt8} {high : Bool} {p : Nat} {Aa : Option Addr} {ca : Nat} {ah : List Nat} {Al : Option Addr} {cl : Nat} {la : List UInt8} {As : Option Addr} {cs : Nat} {sz : List Nat}
    {Ao : Option Addr} {co : Nat} {out : List UInt8} {A3 : Option Addr} {c3 : Nat} {s : List UInt8}
theorem row_up {base : Nat} {e : TypeId} {n m : Nat} {X : Option Addr} {xs : List Value} {S : Nat → Prop} (h : w.ownsRow base e 1 (.slice X n m) n xs) (u : Upd S w w') (hd : ∀ k, X.map (·.block) = some k → ¬ S k) : w'.ownsRow base e 1 (.slice X n m) n xs := row_keep h u hd
theorem DMem.upd (h : DMem w0 w gR gT clear A c b high p Aa ca ah Al cl la As cs sz Ao co out A3 c3 s) {S : Nat → Prop} (u : Upd S w w') (h1 : ¬ S gR) (h2 : ¬ S gT) (ha : ∀ k, Aa.map (·.block) = some k → ¬ S k) (hl : ∀ k, Al.map (·.block) = some k → ¬ S k) (hs : ∀ k, As.map (·.block) = some k → ¬ S k)
    (ho : ∀ k, Ao.map (·.block) = some k → ¬ S k) (h3 : ∀ k, A3.map (·.block) = some k → ¬ S k) (hb : ∀ k, S k → w0.heap.size ≤ k) : DMem w0 w' gR gT clear A c b high p Aa ca ah Al cl la As cs sz Ao co out A3 c3 s :=
  ⟨h.rb.upd u h1, h.tb.upd u h2, row_up h.ra u ha, row_up h.rl u hl, row_up h.rs u hs, row_up h.ro u ho, row_up h.r3 u h3, h.as_, h.lo_, h.so_, h.sl_, h.below.trans (u.below h.below.size (fun k hk e => by have := hb k e; omega)), h.lR, h.lT⟩
theorem DMem.fresh (h : DMem w0 w gR gT clear A c b high p Aa ca ah Al cl la As cs sz Ao co out A3 c3 s) (hb : Below w.heap.size w w') : DMem w0 w' gR gT clear A c b high p Aa ca ah Al cl la As cs sz Ao co out A3 c3 s :=
  h.upd (Upd.of_fresh hb) id id (fun _ _ => id) (fun _ _ => id) (fun _ _ => id) (fun _ _ => id) (fun _ _ => id) (fun _ e => e.elim)
theorem DMem.drew (h : DMem w0 w gR gT clear A c b high p Aa ca ah Al cl la As cs sz Ao co out A3 c3 s) : DMem w0 w.drew gR gT clear A c b high p Aa ca ah Al cl la As cs sz Ao co out A3 c3 s := h.fresh (Below.refl _ _).drew
theorem DMem.drewN (h : DMem w0 w gR gT clear A c b high p Aa ca ah Al cl la As cs sz Ao co out A3 c3 s) (n : Nat) : DMem w0 (w.drewN n) gR gT clear A c b high p Aa ca ah Al cl la As cs sz Ao co out A3 c3 s := h.fresh (below_drewN (Below.refl _ _) n)
/-- Two rows of other types. -/
theorem row_ne {b1 b2 : Nat} {e1 e2 : TypeId} {n1 n2 m1 m2 : Nat} {X Y : Option Addr} {x1 x2 : List Value} (h1 : w.ownsRow b1 e1 1 (.slice X n1 m1) n1 x1) (h2 : w.ownsRow b2 e2 1 (.slice Y n2 m2) n2 x2) (hne : e1 ≠ e2) : ∀ k, X.map (·.block) = some k → ¬ some k = Y.map (·.block) := fun k hk e =>
  own_own_ne h1 h2 hne k (by rw [own_block_sl]; exact hk) (by rw [own_block_sl]; exact e.symm)
theorem row_bne {b1 g : Nat} {e1 t : TypeId} {n1 m1 : Nat} {X : Option Addr} {x1 : List Value} {cs : Array Value} (h1 : w.ownsRow b1 e1 1 (.slice X n1 m1) n1 x1) (hg : Blk w g t cs) (hne : e1 ≠ t) : ∀ k, X.map (·.block) = some k → ¬ k = g := fun k hk e => by
  subst e; exact own_blk_ne h1 hg hne (by rw [own_block_sl]; exact hk)
/-- A row that grew is apart from what the old one was apart from. -/
theorem Apart.grew {b1 : Nat} {e1 : TypeId} {n1 m1 : Nat} {X Y X2 : Option Addr} {x1 : List Value} (h : Apart Y X) (hy : w.ownsRow b1 e1 1 (.slice Y n1 m1) n1 x1) (hat : X2.map (·.block) = X.map (·.block) ∨ X2.map (·.block) = some w.heap.size) : Apart Y X2 := fun k hk hk2 => by
  rcases hat with e | e
  · exact h k hk (by rw [← e]; exact hk2)
  · rw [e] at hk2; injection hk2 with hk2; subst hk2
    have := (row_lt hy _ hk).2; omega
/-- What was written grew. -/
theorem DMem.growO (h : DMem w0 w gR gT clear A c b high p Aa ca ah Al cl la As cs sz Ao co out A3 c3 s) {A2 : Option Addr} {c2 n : Nat} {out2 : List UInt8} (hn : out2.length = n) (hO : wm.ownsRow w0.heap.size 5 1 (.slice A2 n c2) n (bytesV out2))
    (hg : w.grownBy wm (Value.slice Ao out.length co).ownBlock) (hat : (Value.slice A2 n c2).ownBlock = (Value.slice Ao out.length co).ownBlock ∨ (Value.slice A2 n c2).ownBlock = some w.heap.size) :
    DMem w0 wm gR gT clear A c b high p Aa ca ah Al cl la As cs sz A2 c2 out2 A3 c3 s := by
  subst hn
  rw [own_block_sl, own_block_sl] at hat
  have u := Upd.of_grown hg
  rw [own_block_sl] at u
  refine ⟨h.rb.upd u (fun e => row_bne h.ro h.rb (by decide) gR e.symm rfl), h.tb.upd u (fun e => row_bne h.ro h.tb (by decide) gT e.symm rfl), row_up h.ra u (row_ne h.ra h.ro (by decide)), row_up h.rl u (fun k hk e => h.lo_ k hk e.symm), row_up h.rs u (row_ne h.rs h.ro (by decide)), hO, row_up h.r3 u (fun k hk e => h.so_ k hk e.symm),
    h.as_, h.lo_.grew h.rl hat, h.so_.grew h.r3 hat, h.sl_, h.below.trans (u.below h.below.size (fun k hk e => ?_)), h.lR, h.lT⟩
  have := (row_lt h.ro k e.symm).1; omega
/-- A field of the table is written. -/
theorem set_gT (i : Nat) (v : Value) (gT : Nat) (w : World) : Upd (· = gT) w (w.setCell ⟨gT, i, none⟩ v) := (Upd.refl (· = gT) w).setCell (p := ⟨gT, i, none⟩) (fun _ => rfl) _
theorem DMem.growA (h : DMem w0 w gR gT clear A c b high p Aa ca ah Al cl la As cs sz Ao co out A3 c3 s) {A2 : Option Addr} {c2 n : Nat} {ah2 : List Nat} (hn : ah2.length = n) (hO : wm.ownsRow w0.heap.size 3 1 (.slice A2 n c2) n (ntV ah2))
    (hg : w.grownBy wm (Value.slice Aa ah.length ca).ownBlock) (hat : (Value.slice A2 n c2).ownBlock = (Value.slice Aa ah.length ca).ownBlock ∨ (Value.slice A2 n c2).ownBlock = some w.heap.size) :
    DMem w0 (wm.setCell ⟨gT, 1, none⟩ (.slice A2 n c2)) gR gT clear A c b high p A2 c2 ah2 Al cl la As cs sz Ao co out A3 c3 s := by
  subst hn
  rw [own_block_sl, own_block_sl] at hat
  have u := Upd.of_grown hg
  rw [own_block_sl] at u
  have v := set_gT 1 (.slice A2 ah2.length c2) gT wm
  have tb := h.tb.upd u (fun e => row_bne h.ra h.tb (by decide) gT e.symm rfl)
  have rb := h.rb.upd u (fun e => row_bne h.ra h.rb (by decide) gR e.symm rfl)
  have rl := row_up h.rl u (row_ne h.rl h.ra (by decide))
  have rs := row_up h.rs u (fun k hk e => h.as_ k e.symm hk)
  have ro := row_up h.ro u (row_ne h.ro h.ra (by decide))
  have r3 := row_up h.r3 u (row_ne h.r3 h.ra (by decide))
  have hs := hg.size
  refine ⟨rb.upd v (Blk.ne_ rb tb (by decide)), tb.set_ 1 _, row_up hO v (row_bne hO tb (by decide)), row_up rl v (row_bne rl tb (by decide)), row_up rs v (row_bne rs tb (by decide)), row_up ro v (row_bne ro tb (by decide)), row_up r3 v (row_bne r3 tb (by decide)),
    (h.as_.symm.grew h.rs hat).symm, h.lo_, h.so_, h.sl_, (h.below.trans (u.below h.below.size (fun k hk e => ?_))).setCell (p := ⟨gT, 1, none⟩) h.lT _, h.lR, h.lT⟩
  have := (row_lt h.ra k e.symm).1; omega
theorem DMem.growL (h : DMem w0 w gR gT clear A c b high p Aa ca ah Al cl la As cs sz Ao co out A3 c3 s) {A2 : Option Addr} {c2 n : Nat} {la2 : List UInt8} (hn : la2.length = n) (hO : wm.ownsRow w0.heap.size 5 1 (.slice A2 n c2) n (bytesV la2))
    (hg : w.grownBy wm (Value.slice Al la.length cl).ownBlock) (hat : (Value.slice A2 n c2).ownBlock = (Value.slice Al la.length cl).ownBlock ∨ (Value.slice A2 n c2).ownBlock = some w.heap.size) :
    DMem w0 (wm.setCell ⟨gT, 2, none⟩ (.slice A2 n c2)) gR gT clear A c b high p Aa ca ah A2 c2 la2 As cs sz Ao co out A3 c3 s := by
  subst hn
  rw [own_block_sl, own_block_sl] at hat
  have u := Upd.of_grown hg
  rw [own_block_sl] at u
  have v := set_gT 2 (.slice A2 la2.length c2) gT wm
  have tb := h.tb.upd u (fun e => row_bne h.rl h.tb (by decide) gT e.symm rfl)
  have rb := h.rb.upd u (fun e => row_bne h.rl h.rb (by decide) gR e.symm rfl)
  have ra := row_up h.ra u (row_ne h.ra h.rl (by decide))
  have rs := row_up h.rs u (row_ne h.rs h.rl (by decide))
  have ro := row_up h.ro u (fun k hk e => h.lo_ k e.symm hk)
  have r3 := row_up h.r3 u (fun k hk e => h.sl_ k hk e.symm)
  refine ⟨rb.upd v (Blk.ne_ rb tb (by decide)), tb.set_ 2 _, row_up ra v (row_bne ra tb (by decide)), row_up hO v (row_bne hO tb (by decide)), row_up rs v (row_bne rs tb (by decide)), row_up ro v (row_bne ro tb (by decide)), row_up r3 v (row_bne r3 tb (by decide)),
    h.as_, (h.lo_.symm.grew h.ro hat).symm, h.so_, h.sl_.grew h.r3 hat, (h.below.trans (u.below h.below.size (fun k hk e => ?_))).setCell (p := ⟨gT, 2, none⟩) h.lT _, h.lR, h.lT⟩
  have := (row_lt h.rl k e.symm).1; omega
theorem DMem.growS (h : DMem w0 w gR gT clear A c b high p Aa ca ah Al cl la As cs sz Ao co out A3 c3 s) {A2 : Option Addr} {c2 n : Nat} {sz2 : List Nat} (hn : sz2.length = n) (hO : wm.ownsRow w0.heap.size 3 1 (.slice A2 n c2) n (ntV sz2))
    (hg : w.grownBy wm (Value.slice As sz.length cs).ownBlock) (hat : (Value.slice A2 n c2).ownBlock = (Value.slice As sz.length cs).ownBlock ∨ (Value.slice A2 n c2).ownBlock = some w.heap.size) :
    DMem w0 (wm.setCell ⟨gT, 3, none⟩ (.slice A2 n c2)) gR gT clear A c b high p Aa ca ah Al cl la A2 c2 sz2 Ao co out A3 c3 s := by
  subst hn
  rw [own_block_sl, own_block_sl] at hat
  have u := Upd.of_grown hg
  rw [own_block_sl] at u
  have v := set_gT 3 (.slice A2 sz2.length c2) gT wm
  have tb := h.tb.upd u (fun e => row_bne h.rs h.tb (by decide) gT e.symm rfl)
  have rb := h.rb.upd u (fun e => row_bne h.rs h.rb (by decide) gR e.symm rfl)
  have ra := row_up h.ra u (fun k hk e => h.as_ k hk e.symm)
  have rl := row_up h.rl u (row_ne h.rl h.rs (by decide))
  have ro := row_up h.ro u (row_ne h.ro h.rs (by decide))
  have r3 := row_up h.r3 u (row_ne h.r3 h.rs (by decide))
  refine ⟨rb.upd v (Blk.ne_ rb tb (by decide)), tb.set_ 3 _, row_up ra v (row_bne ra tb (by decide)), row_up rl v (row_bne rl tb (by decide)), row_up hO v (row_bne hO tb (by decide)), row_up ro v (row_bne ro tb (by decide)), row_up r3 v (row_bne r3 tb (by decide)),
    h.as_.grew h.ra hat, h.lo_, h.so_, h.sl_, (h.below.trans (u.below h.below.size (fun k hk e => ?_))).setCell (p := ⟨gT, 3, none⟩) h.lT _, h.lR, h.lT⟩
  have := (row_lt h.rs k e.symm).1; omega
/-- A fresh row stands in the place of s. -/
theorem DMem.news (h : DMem w0 w gR gT clear A c b high p Aa ca ah Al cl la As cs sz Ao co out A3 c3 s) (hb : Below w.heap.size w w') {A2 : Option Addr} {c2 n : Nat} {s2 : List UInt8} (hn : s2.length = n) (hO : w'.ownsRow w.heap.size 5 1 (.slice A2 n c2) n (bytesV s2)) :
    DMem w0 w' gR gT clear A c b high p Aa ca ah Al cl la As cs sz Ao co out A2 c2 s2 := by
  subst hn
  have h' := h.fresh hb
  refine ⟨h'.rb, h'.tb, h'.ra, h'.rl, h'.rs, h'.ro, own_mono hO h.below.size, h'.as_, h'.lo_, fun k hk e => ?_, fun k hk e => ?_, h'.below, h.lR, h.lT⟩
  · have := (row_lt hO k hk).1; have := (row_lt h.ro k e).2; omega
  · have := (row_lt hO k hk).1; have := (row_lt h.rl k e).2; omega
theorem DMem.noS (h : DMem w0 w gR gT clear A c b high p Aa ca ah Al cl la As cs sz Ao co out A3 c3 s) : DMem w0 w gR gT clear A c b high p Aa ca ah Al cl la As cs sz Ao co out none 0 [] :=
  ⟨h.rb, h.tb, h.ra, h.rl, h.rs, h.ro, World.ownsRow_nil _ _ _ _, h.as_, h.lo_, (Apart.none_ _).symm, (Apart.none_ _).symm, h.below, h.lR, h.lT⟩
/-- The reader went on. -/
theorem DMem.read (h : DMem w0 w gR gT clear A c b high p Aa ca ah Al cl la As cs sz Ao co out A3 c3 s) (q : Nat) :
    DMem w0 (((w.setCell ⟨gR, 0, none⟩ (.slice A b.length c)).setCell ⟨gR, 1, none⟩ (.bool high)).setCell ⟨gR, 2, none⟩ (.int .i64 (q : Int))) gR gT clear A c b high q Aa ca ah Al cl la As cs sz Ao co out A3 c3 s := by
  have u : Upd (· = gR) w (((w.setCell ⟨gR, 0, none⟩ (.slice A b.length c)).setCell ⟨gR, 1, none⟩ (.bool high)).setCell ⟨gR, 2, none⟩ (.int .i64 (q : Int))) :=
    (((Upd.refl (· = gR) w).setCell (p := ⟨gR, 0, none⟩) (fun _ => rfl) _).setCell (p := ⟨gR, 1, none⟩) (fun _ => rfl) _).setCell (p := ⟨gR, 2, none⟩) (fun _ => rfl) _
  exact ⟨((h.rb.set_ 0 _).set_ 1 _).set_ 2 _, h.tb.upd u (Blk.ne_ h.tb h.rb (by decide)), row_up h.ra u (row_bne h.ra h.rb (by decide)), row_up h.rl u (row_bne h.rl h.rb (by decide)), row_up h.rs u (row_bne h.rs h.rb (by decide)), row_up h.ro u (row_bne h.ro h.rb (by decide)), row_up h.r3 u (row_bne h.r3 h.rb (by decide)),
    h.as_, h.lo_, h.so_, h.sl_, h.below.trans (u.below h.below.size (fun k hk e => by have := h.lR; omega)), h.lR, h.lT⟩
/-- The table is forgotten. -/
theorem DMem.reset (h : DMem w0 w gR gT clear A c b high p Aa ca ah Al cl la As cs sz Ao co out A3 c3 s) :
    DMem w0 ((((w.setCell ⟨gT, 0, none⟩ (.int .i64 (clear : Int))).setCell ⟨gT, 1, none⟩ (.slice none 0 0)).setCell ⟨gT, 2, none⟩ (.slice none 0 0)).setCell ⟨gT, 3, none⟩ (.slice none 0 0)) gR gT clear A c b high p none 0 [] none 0 [] none 0 [] Ao co out A3 c3 s := by
  have u : Upd (· = gT) w ((((w.setCell ⟨gT, 0, none⟩ (.int .i64 (clear : Int))).setCell ⟨gT, 1, none⟩ (.slice none 0 0)).setCell ⟨gT, 2, none⟩ (.slice none 0 0)).setCell ⟨gT, 3, none⟩ (.slice none 0 0)) :=
    ((((Upd.refl (· = gT) w).setCell (p := ⟨gT, 0, none⟩) (fun _ => rfl) _).setCell (p := ⟨gT, 1, none⟩) (fun _ => rfl) _).setCell (p := ⟨gT, 2, none⟩) (fun _ => rfl) _).setCell (p := ⟨gT, 3, none⟩) (fun _ => rfl) _
  exact ⟨h.rb.upd u (Blk.ne_ h.rb h.tb (by decide)), (((h.tb.set_ 0 _).set_ 1 _).set_ 2 _).set_ 3 _, World.ownsRow_nil _ _ _ _, World.ownsRow_nil _ _ _ _, World.ownsRow_nil _ _ _ _, row_up h.ro u (row_bne h.ro h.tb (by decide)), row_up h.r3 u (row_bne h.r3 h.tb (by decide)),
    Apart.none_ _, (Apart.none_ _).symm, h.so_, Apart.none_ _, h.below.trans (u.below h.below.size (fun k hk e => by have := h.lT; omega)), h.lR, h.lT⟩
end
end Go.Proofs.Ythnfnfaiicfenaa
