/- The program's Filter. -/
import Derived.Test.YtaloieeemibblaaEh
set_option linter.unusedVariables false
set_option linter.unusedSimpArgs false
namespace Go.Proofs.Ytaloieeemibblaa
open Go.ChangeShapes Go.WideShapes Go.ChangeAt Go.RowKit Go.Shelf
attribute [local go_sem] Oper.semAt_some

/-- The first n bytes of a row, filtered. -/
def flt (kind bpp : Nat) (r ab : List UInt8) : Nat → List UInt8
  | 0 => []
  | n + 1 => flt kind bpp r ab n ++ [UInt8.ofNat (byteAt r n + 256 - gsB kind bpp n r ab)]
theorem flt_length (kind bpp : Nat) (r ab : List UInt8) : ∀ n, (flt kind bpp r ab n).length = n
  | 0 => rfl
  | n + 1 => by rw [flt, List.length_append, flt_length kind bpp r ab n]; rfl
/-- Row k; the one ahead of it. -/
def pcF (W : Nat) (lb : List UInt8) (k : Nat) : List UInt8 := (lb.drop (W * k)).take W
def abF (W : Nat) (lb : List UInt8) : Nat → List UInt8
  | 0 => List.replicate W 0
  | k + 1 => pcF W lb k
def outF (kind W bpp : Nat) (lb : List UInt8) : Nat → List UInt8
  | 0 => []
  | k + 1 => outF kind W bpp lb k ++ [UInt8.ofNat kind] ++ flt kind bpp (pcF W lb k) (abF W lb k) W
theorem outF_length (kind W bpp : Nat) (lb : List UInt8) : ∀ k, (outF kind W bpp lb k).length = (W + 1) * k
  | 0 => by simp [outF]
  | k + 1 => by rw [outF, List.length_append, List.length_append, outF_length kind W bpp lb k, flt_length, Nat.mul_succ]; simp; omega
theorem pcF_length {W : Nat} {lb : List UInt8} {k N : Nat} (h : W * N = lb.length) (hk : k < N) : (pcF W lb k).length = W := by
  have := Nat.mul_le_mul_left W (show k + 1 ≤ N by omega)
  rw [Nat.mul_succ] at this
  rw [pcF, List.length_take, List.length_drop]
  omega
theorem abF_length {W : Nat} {lb : List UInt8} {k N : Nat} (h : W * N = lb.length) (hk : k < N) : (abF W lb k).length = W := by
  rcases k with _ | k
  · simp [abF]
  · exact pcF_length h (by omega)
theorem sub_val (x g : Nat) (hg : g < 256) : ((UInt8.ofNat (x + 256 - g)).toNat : Int) = ((x : Int) - (g : Int)) % 256 := by
  rw [UInt8.toNat_ofNat']; omega
/-- What holds with the bytes L told, row k being at work. -/
structure FiS (w : World) (o a bc W bpp kind m c : Nat) (A : Option Addr) (B : Nat) (lb L : List UInt8) (k : Nat) (V : World) : Prop where
  hb : Blk V w.heap.size 3 #[.int .i64 (bpp : Nat)]
  hk : Blk V (w.heap.size + 1) 3 #[.int .i64 (kind : Nat)]
  row : ∃ Ao co, Blk V o 22 #[.slice Ao L.length co] ∧ V.ownsRow w.heap.size 5 1 (.slice Ao L.length co) L.length (bytesV L) ∧
    ∃ Aa ca, Blk V a 22 #[.slice Aa W ca] ∧ Bs V V.heap.size Aa (abF W lb k) ∧ ∀ ad, Aa = some ad → ad.block < V.heap.size ∧ ad.block ≠ o ∧ (Value.slice Ao L.length co).ownBlock ≠ some ad.block
  cb : Blk V bc 22 #[.slice A m c]
  ci : Blk V (bc + 1) 3 #[.int .i64 (W : Nat)]
  bs : Bs V B A lb
  hB : B ≤ w.heap.size
  bel : Below w.heap.size w V
  lt : w.heap.size + 1 < o ∧ o < a ∧ a < bc
section
variable {w : World} {o a bc W bpp kind m c B k : Nat} {A : Option Addr} {lb L : List UInt8} {V V' : World}
theorem bs_fresh {w w' : World} {A : Option Addr} {l : List UInt8} (h : Bs w w.heap.size A l) (u : Upd No w w') : Bs w' w'.heap.size A l := (h.upd u (Nat.le_refl _) (fun _ _ _ => id)).more u.size
theorem FiS.keep (h : FiS w o a bc W bpp kind m c A B lb L k V) (u : Upd No V V') : FiS w o a bc W bpp kind m c A B lb L k V' := by
  obtain ⟨Ao, co, h1, h2, Aa, ca, h3, h4, h5⟩ := h.row
  exact ⟨h.hb.upd u id, h.hk.upd u id, ⟨Ao, co, h1.upd u id, own_upd h2 u (fun _ _ => id), Aa, ca, h3.upd u id, bs_fresh h4 u, fun ad e => ⟨Nat.lt_of_lt_of_le (h5 ad e).1 u.size, (h5 ad e).2⟩⟩, h.cb.upd u id, h.ci.upd u id, h.bs.below (u.fresh.mono (Nat.le_trans h.hB h.bel.size)), h.hB, h.bel.trans (u.fresh.mono h.bel.size), h.lt⟩
theorem FiS.put (h : FiS w o a bc W bpp kind m c A B lb L k V) {ll : Nat} {ob : Obj} (hll : w.heap.size ≤ ll) (ho : V.heap[ll]? = some ob) (hoc : ob.isCells = false) (o' : Obj) : FiS w o a bc W bpp kind m c A B lb L k (V.putObj ll o') := by
  have u := upd_putObj (S := (· = ll)) V ll o' rfl
  have hub := u.below (B := w.heap.size) h.bel.size (fun i hi e => by omega)
  obtain ⟨Ao, co, h1, h2, Aa, ca, h3, h4, h5⟩ := h.row
  have hne : ∀ (ad : Addr) (j : Nat) (v : Value), V.cell? (ad.add j) = some v → ad.block ≠ ll := fun ad j v hc e => by
    subst e
    have hbk : (ad.add j).block = ad.block := block_of_add _ _
    cases ob <;> simp [Obj.isCells] at hoc <;> simp [World.cell?, hbk, ho] at hc
  have h4' : Bs (V.putObj ll o') (V.putObj ll o').heap.size Aa (abF W lb k) := fun hn => by
    obtain ⟨ad, e, hb, hc⟩ := h4 hn
    have hx := hne ad 0 _ (hc 0 hn)
    exact ⟨ad, e, Nat.lt_of_lt_of_le hb u.size, fun j hj => (World.cell?_of_block (u.block _ (by rw [block_of_add]; exact hb) (by rw [block_of_add]; exact hx))).trans (hc j hj)⟩
  exact ⟨h.hb.upd u (blk_ne_obj h.hb ho hoc), h.hk.upd u (blk_ne_obj h.hk ho hoc), ⟨Ao, co, h1.upd u (blk_ne_obj h1 ho hoc), own_put h2 ho hoc o', Aa, ca, h3.upd u (blk_ne_obj h3 ho hoc), h4', fun ad e => ⟨Nat.lt_of_lt_of_le (h5 ad e).1 u.size, (h5 ad e).2⟩⟩, h.cb.upd u (blk_ne_obj h.cb ho hoc), h.ci.upd u (blk_ne_obj h.ci ho hoc), h.bs.below (hub.mono h.hB), h.hB, h.bel.trans hub, h.lt⟩
/-- A byte more. -/
theorem FiS.push (h : FiS w o a bc W bpp kind m c A B lb L k V) (hl : L.length + 1 ≤ 140737488355328) {Ao : Option Addr} {co : Nat} {Aa : Option Addr} {ca : Nat} (h1 : Blk V o 22 #[.slice Ao L.length co]) (h2 : V.ownsRow w.heap.size 5 1 (.slice Ao L.length co) L.length (bytesV L))
    (h3 : Blk V a 22 #[.slice Aa W ca]) (h4 : Bs V V.heap.size Aa (abF W lb k)) (h5 : ∀ ad, Aa = some ad → ad.block < V.heap.size ∧ ad.block ≠ o ∧ (Value.slice Ao L.length co).ownBlock ≠ some ad.block) (x : UInt8) {g : Nat} (hg : V.cell? ⟨g, 0, none⟩ = some (.int .u8 (x.toNat : Int))) (hgl : g < V.heap.size) :
    ∃ A9 c9 w9, (Builtin.append_ #[22, 22] 22 #[.slice Ao L.length co, .slice (some ⟨g, 0, none⟩) 1 1]).run Try.prog V = .ok (.slice A9 (L.length + 1) c9) w9 ∧
      (Blk w9 o 22 #[.slice Ao L.length co] ∧ Blk w9 (w.heap.size + 1) 3 #[.int .i64 (kind : Nat)] ∧ Blk w9 a 22 #[.slice Aa W ca] ∧ Blk w9 w.heap.size 3 #[.int .i64 (bpp : Nat)]) ∧ KeepsOthers V (w9.setCell ⟨o, 0, none⟩ (.slice A9 (L.length + 1) c9)) ∧
      FiS w o a bc W bpp kind m c A B lb (L ++ [x]) k (w9.setCell ⟨o, 0, none⟩ (.slice A9 (L.length + 1) c9)) := by
  obtain ⟨lt1, lt2, lt3⟩ := h.lt
  have hV := h.bel.size
  have hx : Bs V V.heap.size (some ⟨g, 0, none⟩) [x] := fun _ => ⟨_, rfl, hgl, fun j hj => by
    obtain rfl : j = 0 := by simpa using hj
    simpa [Addr.add] using hg⟩
  obtain ⟨A9, c9, w9, hrun, o9, hg9, hw9⟩ := append8 w.heap.size V (.slice Ao L.length co) L.length L h2 hV V.heap.size (some ⟨g, 0, none⟩) 1 1 [x] rfl hx hl 22
  have u9 : Upd (fun j => some j = (Value.slice Ao L.length co).ownBlock) V w9 := (Upd.of_grown hg9).mono (fun j _ e => e)
  have us := (Upd.refl (· = o) w9).setCell (p := ⟨o, 0, none⟩) (fun _ => rfl) (.slice A9 (L.length + 1) c9)
  have nb : ∀ {b t cs}, Blk V b t cs → t ≠ 5 → ¬ some b = (Value.slice Ao L.length co).ownBlock := fun hb ht e => own_blk_ne h2 hb (fun e => ht e.symm) e.symm
  have b9 := h1.upd u9 (nb h1 (by decide))
  have hub9 : Below w.heap.size V w9 := u9.below hV (fun j hj e => by have := (h2.lt j e.symm).1; omega)
  have hub1 : Below w.heap.size w9 (w9.setCell ⟨o, 0, none⟩ (.slice A9 (L.length + 1) c9)) := us.below (Nat.le_trans hV hub9.size) (fun j hj e => by omega)
  have pb : ∀ {b t cs}, Blk V b t cs → t ≠ 5 → b ≠ o → Blk (w9.setCell ⟨o, 0, none⟩ (.slice A9 (L.length + 1) c9)) b t cs := fun hb ht e1 => (hb.upd u9 (nb hb ht)).upd us e1
  have hnew : w9.heap.size ≤ (w9.setCell ⟨o, 0, none⟩ (.slice A9 (L.length + 1) c9)).heap.size := hub1.size
  refine ⟨A9, c9, w9, hrun, ⟨b9, h.hk.upd u9 (nb h.hk (by decide)), h3.upd u9 (nb h3 (by decide)), h.hb.upd u9 (nb h.hb (by decide))⟩, (keeps_row h2 hg9).trans (KeepsOthers.setCell w9 ⟨o, 0, none⟩ _), ?_⟩
  refine ⟨pb h.hb (by decide) (by omega), pb h.hk (by decide) (by omega), ⟨A9, c9, ?_, ?_, Aa, ca, pb h3 (by decide) (by omega), ?_, ?_⟩, pb h.cb (by decide) (by omega), pb h.ci (by decide) (by omega), (h.bs.below (hub9.mono h.hB)).below (hub1.mono h.hB), h.hB, (h.bel.trans hub9).trans hub1, h.lt⟩
  · rw [List.length_append]
    simpa using b9.set_ 0 (.slice A9 (L.length + 1) c9)
  · rw [List.length_append]
    exact own_upd o9 us (fun j hj e => own_blk_ne o9 b9 (by decide) (by rw [← e]; exact hj))
  · exact ((h4.upd u9 (Nat.le_refl _) (fun ad e _ he => (h5 ad e).2.2 he.symm)).upd us u9.size (fun ad e _ he => (h5 ad e).2.1 he)).more (Nat.le_trans u9.size us.size)
  · intro ad e
    refine ⟨Nat.lt_of_lt_of_le (h5 ad e).1 (Nat.le_trans u9.size us.size), (h5 ad e).2.1, fun he => ?_⟩
    rw [List.length_append] at he
    rcases hw9 with q | q
    · exact (h5 ad e).2.2 (by rw [← q]; exact he)
    · have h6 := Option.some.inj (Eq.trans (Eq.symm q) he)
      have := (h5 ad e).1
      omega
end
end Go.Proofs.Ytaloieeemibblaa
