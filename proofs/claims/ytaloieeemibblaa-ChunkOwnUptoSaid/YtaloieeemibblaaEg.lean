/- Joined texts (a claim has at most 60 files). -/
import Derived.Test.YtaloieeemibblaaEe
import Derived.Test.YtaloieeemibblaaAr
import Derived.Test.YtaloieeemibblaaSl
/- Filtered rows and what they were: mathematics. No walk. -/
set_option linter.unusedVariables false
set_option linter.unusedSimpArgs false
namespace Go.Proofs.Ytaloieeemibblaa

theorem byteAt_app_l {a b : List UInt8} {i : Nat} (h : i < a.length) : byteAt (a ++ b) i = byteAt a i := by
  unfold byteAt; rw [List.getElem?_append_left h]
theorem byteAt_app_r {a b : List UInt8} {i : Nat} (h : a.length ≤ i) : byteAt (a ++ b) i = byteAt b (i - a.length) := by
  unfold byteAt; rw [List.getElem?_append_right h]
theorem byteAt_drop (l : List UInt8) (k i : Nat) : byteAt (l.drop k) i = byteAt l (k + i) := by
  unfold byteAt; rw [List.getElem?_drop]
theorem byteAt_take {l : List UInt8} {k i : Nat} (h : i < k) : byteAt (l.take k) i = byteAt l i := by
  unfold byteAt; rw [List.getElem?_take_of_lt h]
theorem byteAt_none {l : List UInt8} {i : Nat} (h : l.length ≤ i) : byteAt l i = 0 := by
  unfold byteAt; rw [List.getElem?_eq_none h]; rfl
theorem byteAt_zeros (n i : Nat) : byteAt (List.replicate n 0) i = 0 := by
  unfold byteAt
  rw [List.getElem?_replicate]
  split <;> rfl
theorem gsB_congr {kind bpp i : Nat} {r r' ab ab' : List UInt8} (h1 : bpp ≤ i → byteAt r (i - bpp) = byteAt r' (i - bpp)) (h2 : byteAt ab i = byteAt ab' i) (h3 : bpp ≤ i → byteAt ab (i - bpp) = byteAt ab' (i - bpp)) : gsB kind bpp i r ab = gsB kind bpp i r' ab' := by
  unfold gsB
  rw [h2]
  by_cases h : bpp ≤ i
  · simp only [if_pos h, h1 h, h3 h]
  · simp only [if_neg h]
/-- The first n bytes of a row of which f is the filtering. -/
def uRow (kind bpp : Nat) (f ab : List UInt8) : Nat → List UInt8
  | 0 => []
  | n + 1 => uRow kind bpp f ab n ++ [UInt8.ofNat (byteAt f n + gsB kind bpp n (uRow kind bpp f ab n) ab)]
theorem uRow_length (kind bpp : Nat) (f ab : List UInt8) : ∀ n, (uRow kind bpp f ab n).length = n
  | 0 => rfl
  | n + 1 => by rw [uRow, List.length_append, uRow_length kind bpp f ab n]; rfl
/-- The row as it is gone through in its place. -/
def bufU (kind bpp : Nat) (f ab : List UInt8) (n : Nat) : List UInt8 := uRow kind bpp f ab n ++ f.drop n
theorem bufU_zero (kind bpp : Nat) (f ab : List UInt8) : bufU kind bpp f ab 0 = f := rfl
theorem bufU_length {kind bpp : Nat} {f ab : List UInt8} {n : Nat} (h : n ≤ f.length) : (bufU kind bpp f ab n).length = f.length := by
  rw [bufU, List.length_append, uRow_length, List.length_drop]; omega
theorem bufU_all {kind bpp : Nat} {f ab : List UInt8} {n : Nat} (h : f.length = n) : bufU kind bpp f ab n = uRow kind bpp f ab n := by
  rw [bufU, List.drop_of_length_le (by omega), List.append_nil]
theorem bufU_at {kind bpp : Nat} {f ab : List UInt8} {n : Nat} : byteAt (bufU kind bpp f ab n) n = byteAt f n := by
  rw [bufU, byteAt_app_r (by rw [uRow_length]; omega), uRow_length, byteAt_drop]; simp
theorem bufU_gs {kind bpp : Nat} {f ab : List UInt8} {n : Nat} (hb : 1 ≤ bpp) : gsB kind bpp n (bufU kind bpp f ab n) ab = gsB kind bpp n (uRow kind bpp f ab n) ab :=
  gsB_congr (fun h => byteAt_app_l (by rw [uRow_length]; omega)) rfl (fun _ => rfl)
theorem set_at {a b : List UInt8} {x y : UInt8} {n : Nat} (h : a.length = n) : (a ++ y :: b).set n x = a ++ x :: b := by
  subst h
  rw [List.set_append_right _ _ (Nat.le_refl _)]
  simp
theorem bufU_step {kind bpp : Nat} {f ab : List UInt8} {n : Nat} (hb : 1 ≤ bpp) (h : n < f.length) : (bufU kind bpp f ab n).set n (UInt8.ofNat (byteAt f n + gsB kind bpp n (bufU kind bpp f ab n) ab)) = bufU kind bpp f ab (n + 1) := by
  rw [bufU_gs hb]
  unfold bufU
  rw [List.drop_eq_getElem_cons h, set_at (uRow_length ..), uRow]
  simp
/-- The filtered row k. -/
def pcU (W : Nat) (b : List UInt8) (k : Nat) : List UInt8 := (b.drop ((W + 1) * k)).take (W + 1)
/-- The row ahead of row k; of the first one, zeros. -/
def rowU (W bpp : Nat) (b : List UInt8) : Nat → List UInt8
  | 0 => List.replicate W 0
  | k + 1 => uRow (byteAt (pcU W b k) 0) bpp ((pcU W b k).drop 1) (rowU W bpp b k) W
theorem rowU_length (W bpp : Nat) (b : List UInt8) : ∀ k, (rowU W bpp b k).length = W
  | 0 => by simp [rowU]
  | k + 1 => uRow_length ..
/-- The first k rows. -/
def outU (W bpp : Nat) (b : List UInt8) : Nat → List UInt8
  | 0 => []
  | k + 1 => outU W bpp b k ++ rowU W bpp b (k + 1)
theorem outU_length (W bpp : Nat) (b : List UInt8) : ∀ k, (outU W bpp b k).length = W * k
  | 0 => by simp [outU]
  | k + 1 => by rw [outU, List.length_append, outU_length W bpp b k, rowU_length, Nat.mul_succ]
theorem pcU_length {W : Nat} {b : List UInt8} {k N : Nat} (h : (W + 1) * N = b.length) (hk : k < N) : (pcU W b k).length = W + 1 := by
  have := Nat.mul_le_mul_left (W + 1) (show k + 1 ≤ N by omega)
  rw [Nat.mul_succ] at this
  rw [pcU, List.length_take, List.length_drop]
  omega
theorem u8_val (x g : Nat) : (UInt8.ofNat (x + g)).toNat = (x + g) % 256 := UInt8.toNat_ofNat'
end Go.Proofs.Ytaloieeemibblaa

/- The program's Unfilter. -/
set_option linter.unusedVariables false
set_option linter.unusedSimpArgs false
namespace Go.Proofs.Ytaloieeemibblaa
open Go.ChangeShapes Go.WideShapes Go.ChangeAt Go.RowKit Go.Shelf
attribute [local go_sem] Oper.semAt_some

theorem make_u8 (n : Nat) : (madeCells (Value.int .u8 0).cells (n * 1)).toList = bytesV (List.replicate n 0) := by
  rw [show (Value.int .u8 0).cells = #[.int .u8 0] from rfl, Nat.mul_one, toList_madeCells_one]
  simp [bytesV, bv]
theorem append8 (base : Nat) (w : World) (v : Value) (n : Nat) (xs : List UInt8) (h : w.ownsRow base 5 1 v n (bytesV xs)) (hbase : base ≤ w.heap.size) (B : Nat) (A : Option Addr) (m c : Nat) (l : List UInt8) (hm : l.length = m) (hl : Bs w B A l)
    (h47 : n + m ≤ 140737488355328) (ty : TypeId) :
    ∃ A' c' w', (Builtin.append_ #[22, 22] ty #[v, .slice A m c]).run Try.prog w = .ok (.slice A' (n + m) c') w' ∧
      w'.ownsRow base 5 1 (.slice A' (n + m) c') (n + m) (bytesV (xs ++ l)) ∧ w.grownBy w' v.ownBlock ∧ ((Value.slice A' (n + m) c').ownBlock = v.ownBlock ∨ (Value.slice A' (n + m) c').ownBlock = some w.heap.size) := by
  subst hm
  obtain ⟨i0, hi, hz0, hz1, hz2⟩ := info_parts info_u8
  rw [bytesV_append]
  exact run_append_bs w base 22 ty 5 i0 Try.underlying22 hi hz0 hz1 hz2 v n (bytesV xs) h B A c l hl h47 hbase
theorem own_u8 {w : World} {base gd n c : Nat} {l : List UInt8} (h : w.ownsRow base 5 1 (.slice (some ⟨gd, 0, none⟩) n c) n (bytesV l)) (q : Nat) (x : UInt8) :
    (w.setCell ⟨gd, q, none⟩ (.int .u8 (x.toNat : Int))).ownsRow base 5 1 (.slice (some ⟨gd, 0, none⟩) n c) n (bytesV (l.set q x)) := by
  have e : bytesV (l.set q x) = (bytesV l).set q (.int .u8 (x.toNat : Int)) := by simp [bytesV, bv, List.map_set]
  rw [e]
  exact (h.stored q _).1
theorem bs_own {w : World} {base : Nat} {e : TypeId} {A : Option Addr} {n c : Nat} {l : List UInt8} (h : w.ownsRow base e 1 (.slice A n c) n (bytesV l)) : Bs w w.heap.size A l ∧ l.length = n := by
  have hn := own_len h
  rw [bytesV_length] at hn
  subst hn
  exact ⟨Bs.of_own h, rfl⟩
theorem own_cell {w : World} {base : Nat} {e : TypeId} {g n c : Nat} {l : List UInt8} (h : w.ownsRow base e 1 (.slice (some ⟨g, 0, none⟩) n c) n (bytesV l)) (k : Nat) (hk : k < n) : w.cell? ⟨g, k, none⟩ = some (.int .u8 (byteAt l k : Nat)) := by
  have hn := (bs_own h).2
  rw [h.cellAt k (by omega), bytesV_get l k (by omega), byteAt_get]
/-- What holds behind k rows. -/
structure UfS (w : World) (o a bc W bpp m c : Nat) (ad : Option Addr) (B : Nat) (lb : List UInt8) (k : Nat) (V : World) : Prop where
  hb : Blk V w.heap.size 3 #[.int .i64 (bpp : Nat)]
  h6 : Blk V (w.heap.size + 1) 22 #[.slice none 0 0]
  h7 : Blk V (w.heap.size + 1 + 1) 25 #[.int .i64 0]
  row : ∃ Ao co Aa ca, Blk V o 22 #[.slice Ao (W * k) co] ∧ V.ownsRow w.heap.size 5 1 (.slice Ao (W * k) co) (W * k) (bytesV (outU W bpp lb k)) ∧
    Blk V a 22 #[.slice Aa W ca] ∧ V.ownsRow w.heap.size 5 1 (.slice Aa W ca) W (bytesV (rowU W bpp lb k)) ∧ ∀ g, (Value.slice Aa W ca).ownBlock = some g → (Value.slice Ao (W * k) co).ownBlock ≠ some g
  cb : Blk V bc 22 #[.slice ad m c]
  ci : Blk V (bc + 1) 3 #[.int .i64 ((W + 1 : Nat) : Int)]
  bs : Bs V B ad lb
  hB : B ≤ w.heap.size
  bel : Below w.heap.size w V
  lt : w.heap.size + 1 + 1 < o ∧ o < a ∧ a < bc
section
variable {w : World} {o a bc W bpp m c B k : Nat} {ad : Option Addr} {lb : List UInt8} {V V' : World}
/-- It stays where only what is newer changes. -/
theorem UfS.keep (h : UfS w o a bc W bpp m c ad B lb k V) {S : Nat → Prop} (u : Upd S V V') (hS : ∀ j, S j → V.heap.size ≤ j) : UfS w o a bc W bpp m c ad B lb k V' := by
  obtain ⟨Ao, co, Aa, ca, h1, h2, h3, h4, h5⟩ := h.row
  have nb : ∀ {b t cs}, Blk V b t cs → ¬ S b := fun hb e => by have := hS _ e; have := hb.lt; omega
  have nr : ∀ {v : Value} {n : Nat} {xs : List Value}, V.ownsRow w.heap.size 5 1 v n xs → ∀ j, v.ownBlock = some j → ¬ S j := fun ho j hj e => by have := hS _ e; have := (ho.lt j hj).2; omega
  exact ⟨h.hb.upd u (nb h.hb), h.h6.upd u (nb h.h6), h.h7.upd u (nb h.h7), ⟨Ao, co, Aa, ca, h1.upd u (nb h1), own_upd h2 u (nr h2), h3.upd u (nb h3), own_upd h4 u (nr h4), h5⟩, h.cb.upd u (nb h.cb), h.ci.upd u (nb h.ci),
    h.bs.upd u (Nat.le_trans h.hB h.bel.size) (fun ad _ hlt e => by have := hS _ e; have := h.hB; have := h.bel.size; omega), h.hB, h.bel.trans (u.below h.bel.size (fun j hj e => by have := hS _ e; have := h.bel.size; omega)), h.lt⟩
theorem UfS.put (h : UfS w o a bc W bpp m c ad B lb k V) {ll : Nat} {ob : Obj} (hll : w.heap.size ≤ ll) (ho : V.heap[ll]? = some ob) (hoc : ob.isCells = false) (o' : Obj) : UfS w o a bc W bpp m c ad B lb k (V.putObj ll o') := by
  have u := upd_putObj (S := (· = ll)) V ll o' rfl
  have hub := u.below (B := w.heap.size) h.bel.size (fun i hi e => by omega)
  obtain ⟨Ao, co, Aa, ca, h1, h2, h3, h4, h5⟩ := h.row
  exact ⟨h.hb.upd u (blk_ne_obj h.hb ho hoc), h.h6.upd u (blk_ne_obj h.h6 ho hoc), h.h7.upd u (blk_ne_obj h.h7 ho hoc), ⟨Ao, co, Aa, ca, h1.upd u (blk_ne_obj h1 ho hoc), own_put h2 ho hoc o', h3.upd u (blk_ne_obj h3 ho hoc), own_put h4 ho hoc o', h5⟩, h.cb.upd u (blk_ne_obj h.cb ho hoc), h.ci.upd u (blk_ne_obj h.ci ho hoc), h.bs.below (hub.mono h.hB), h.hB, h.bel.trans hub, h.lt⟩
/-- What a row more makes of it: V1 with the row, newer than V0; w9 behind the append; behind both stores. -/
theorem UfS.step {V0 V1 w9 : World} {rg rc : Nat} {Ao : Option Addr} {co : Nat} {Aa : Option Addr} {ca : Nat} (h : UfS w o a bc W bpp m c ad B lb k V1) (hr : V1.ownsRow V0.heap.size 5 1 (.slice (some ⟨rg, 0, none⟩) W rc) W (bytesV (rowU W bpp lb (k + 1)))) (hV0 : w.heap.size ≤ V0.heap.size)
    (h1 : Blk V1 o 22 #[.slice Ao (W * k) co]) (h2 : V1.ownsRow w.heap.size 5 1 (.slice Ao (W * k) co) (W * k) (bytesV (outU W bpp lb k))) (h3 : Blk V1 a 22 #[.slice Aa W ca])
    (hne : (Value.slice Ao (W * k) co).ownBlock ≠ some rg) {A9 : Option Addr} {c9 : Nat} (o9 : w9.ownsRow w.heap.size 5 1 (.slice A9 (W * k + W) c9) (W * k + W) (bytesV (outU W bpp lb k ++ rowU W bpp lb (k + 1)))) (hg9 : V1.grownBy w9 (Value.slice Ao (W * k) co).ownBlock)
    (hw9 : (Value.slice A9 (W * k + W) c9).ownBlock = (Value.slice Ao (W * k) co).ownBlock ∨ (Value.slice A9 (W * k + W) c9).ownBlock = some V1.heap.size) :
    Blk w9 o 22 #[.slice Ao (W * k) co] ∧ (Blk w9 a 22 #[.slice Aa W ca] ∧ Blk (w9.setCell ⟨o, 0, none⟩ (.slice A9 (W * k + W) c9)) a 22 #[.slice Aa W ca]) ∧ KeepsOthers V1 ((w9.setCell ⟨o, 0, none⟩ (.slice A9 (W * k + W) c9)).setCell ⟨a, 0, none⟩ (.slice (some ⟨rg, 0, none⟩) W rc)) ∧
      UfS w o a bc W bpp m c ad B lb (k + 1) ((w9.setCell ⟨o, 0, none⟩ (.slice A9 (W * k + W) c9)).setCell ⟨a, 0, none⟩ (.slice (some ⟨rg, 0, none⟩) W rc)) := by
  have hV := h.bel.size
  obtain ⟨lt1, lt2, lt3⟩ := h.lt
  have u9 : Upd (fun j => some j = (Value.slice Ao (W * k) co).ownBlock) V1 w9 := (Upd.of_grown hg9).mono (fun j _ e => e)
  have us1 := (Upd.refl (· = o) w9).setCell (p := ⟨o, 0, none⟩) (fun _ => rfl) (.slice A9 (W * k + W) c9)
  have us2 := (Upd.refl (· = a) (w9.setCell ⟨o, 0, none⟩ (.slice A9 (W * k + W) c9))).setCell (p := ⟨a, 0, none⟩) (fun _ => rfl) (.slice (some ⟨rg, 0, none⟩) W rc)
  have nb : ∀ {b t cs}, Blk V1 b t cs → t ≠ 5 → ¬ some b = (Value.slice Ao (W * k) co).ownBlock := fun hb ht e => own_blk_ne h2 hb (fun e => ht e.symm) e.symm
  have b9 := h1.upd u9 (nb h1 (by decide))
  have a9 := (h3.upd u9 (nb h3 (by decide))).upd us1 (by omega)
  have hub9 : Below w.heap.size V1 w9 := u9.below hV (fun j hj e => by have := (h2.lt j e.symm).1; omega)
  have hub1 : Below w.heap.size w9 (w9.setCell ⟨o, 0, none⟩ (.slice A9 (W * k + W) c9)) := us1.below (Nat.le_trans hV hub9.size) (fun j hj e => by omega)
  have hub2 : Below w.heap.size (w9.setCell ⟨o, 0, none⟩ (.slice A9 (W * k + W) c9)) _ := us2.below (Nat.le_trans (Nat.le_trans hV hub9.size) hub1.size) (fun j hj e => by omega)
  have r9 : w9.ownsRow w.heap.size 5 1 (.slice (some ⟨rg, 0, none⟩) W rc) W (bytesV (rowU W bpp lb (k + 1))) := own_low (own_upd hr u9 (fun j hj e => hne (by rw [← e, ← hj]; rfl))) hV0
  have pb : ∀ {b t cs}, Blk V1 b t cs → t ≠ 5 → b ≠ o → b ≠ a → Blk ((w9.setCell ⟨o, 0, none⟩ (.slice A9 (W * k + W) c9)).setCell ⟨a, 0, none⟩ (.slice (some ⟨rg, 0, none⟩) W rc)) b t cs := fun hb ht e1 e2 => ((hb.upd u9 (nb hb ht)).upd us1 e1).upd us2 e2
  have pr : ∀ {v : Value} {n : Nat} {xs : List Value}, w9.ownsRow w.heap.size 5 1 v n xs → ((w9.setCell ⟨o, 0, none⟩ (.slice A9 (W * k + W) c9)).setCell ⟨a, 0, none⟩ (.slice (some ⟨rg, 0, none⟩) W rc)).ownsRow w.heap.size 5 1 v n xs := fun ho =>
    own_upd (own_upd ho us1 (fun j hj e => own_blk_ne ho b9 (by decide) (by rw [hj, e]))) us2 (fun j hj e => own_blk_ne (own_upd ho us1 (fun j hj e => own_blk_ne ho b9 (by decide) (by rw [hj, e]))) a9 (by decide) (by rw [hj, e]))
  refine ⟨b9, ⟨h3.upd u9 (nb h3 (by decide)), a9⟩, (keeps_row h2 hg9).trans ((KeepsOthers.setCell w9 ⟨o, 0, none⟩ _).trans (KeepsOthers.setCell _ ⟨a, 0, none⟩ _)), ?_⟩
  refine ⟨pb h.hb (by decide) (by omega) (by omega), pb h.h6 (by decide) (by omega) (by omega), pb h.h7 (by decide) (by omega) (by omega), ⟨A9, c9, some ⟨rg, 0, none⟩, rc, ?_, ?_, ?_, pr r9, ?_⟩, pb h.cb (by decide) (by omega) (by omega), pb h.ci (by decide) (by omega) (by omega),
    ((h.bs.below (hub9.mono h.hB)).below (hub1.mono h.hB)).below (hub2.mono h.hB), h.hB, ((h.bel.trans hub9).trans hub1).trans hub2, h.lt⟩
  · rw [Nat.mul_succ]
    have := b9.set_ 0 (.slice A9 (W * k + W) c9)
    exact (by simpa using this : Blk _ o _ #[.slice A9 (W * k + W) c9]).upd us2 (by omega)
  · rw [Nat.mul_succ, outU]
    exact pr o9
  · simpa using a9.set_ 0 (.slice (some ⟨rg, 0, none⟩) W rc)
  · intro g hg e
    have eg : g = rg := by simpa [Value.ownBlock] using hg.symm
    subst eg
    rw [Nat.mul_succ] at e
    rcases hw9 with q | q
    · exact hne (by rw [← q]; exact e)
    · have := (hr.lt g rfl).2
      have := Option.some.inj (e.symm.trans q)
      omega
end
/-- What Unfilter answers: its number; its rows. -/
def ufE (W bpp : Nat) (lb : List UInt8) (N : Nat) : Nat := if ∃ k, k < N ∧ 4 < byteAt (pcU W lb k) 0 then 9 else 0
set_option maxRecDepth 100000 in
set_option maxHeartbeats 8000000 in
theorem unf_rows (W bpp N m c : Nat) (A : Option Addr) (ad : Addr) (hA : 0 < N → A = some ad) (lb : List UInt8) (hW1 : 1 ≤ W) (hW : W ≤ 1048576) (hb1 : 1 ≤ bpp) (hb8 : bpp ≤ 8) (hm : lb.length = m) (hN : (W + 1) * N = m) (hmc : m ≤ c) (hcb : c ≤ maxLen) (hmb : m ≤ 140737488355328) (B : Nat) (w : World) (hbs : Bs w B A lb) (hB : B ≤ w.heap.size) :
    Calls Try.prog 21 #[.slice A m c, .int .i64 (W : Nat), .int .i64 (bpp : Nat)] w fun e w' => Below w.heap.size w w' ∧ ((e = .returned (.tuple #[.slice none 0 0, .int .i64 9]) ∧ ∃ k, k < N ∧ 4 < byteAt (pcU W lb k) 0) ∨
      (∃ A' c', e = .returned (.tuple #[.slice A' (W * N) c', .int .i64 0]) ∧ w'.ownsRow w.heap.size 5 1 (.slice A' (W * N) c') (W * N) (bytesV (outU W bpp lb N)) ∧ ∀ k, k < N → byteAt (pcU W lb k) 0 ≤ 4)) := by
  have HLB := Lib.hid hm; have HN := Lib.hid hN
  have hWN : W * N ≤ m := by rw [Nat.add_mul] at hN; omega
  have HWN := Lib.hid hWN
  obtain ⟨i0, hti, hz0, hz1, hz2⟩ := info_parts info_u8
  have hmix : Try.prog.follows .mixedOrders = true := by kernel_rfl
  obtain ⟨bel, hsz, k0, k1, k2⟩ := boxes3 w #[.int .i64 (bpp : Nat)] #[.slice none 0 0] #[.int .i64 0] 3 22 25
  have hrem : ((m : Int).tmod (1 + (W : Int))) = 0 := by
    rw [← hN, show ((((W + 1) * N : Nat)) : Int) = (1 + (W : Int)) * (N : Int) by push_cast; rw [Int.add_comm]]
    exact Int.mul_tmod_right _ _
  have hrem2 : ((m : Int) % (1 + (W : Int))) = 0 := by
    rw [← hN, show ((((W + 1) * N : Nat)) : Int) = (1 + (W : Int)) * (N : Int) by push_cast; rw [Int.add_comm]]
    exact Int.mul_emod_right _ _
  clear hm hN hWN
  have hbs1 := hbs.below (bel.mono hB)
  refine (callsIn_wide (n := 3)).1 ?_
  refine callsIn_of_wp_marks Try.func21 rfl trivial ?_ rfl
  simp only [Try.ntmps21, List.size_toArray, List.length_cons, List.length_nil, Nat.reduceAdd, Nat.reduceSub, Array.replicate_succ, Array.replicate_zero, List.push_toArray, List.append_toArray, List.nil_append, List.cons_append]
  refine wpIn_wide.2 ?_
  go_upto_region 1 with (fail)
  generalize ((w.alloc (.cells #[.int .i64 (bpp : Nat)] 3)).alloc (.cells #[.slice none 0 0] 22)).alloc (.cells #[.int .i64 0] 25) = w1 at *
  have HK := Lib.hid (And.intro k0 (And.intro k1 k2)); have HBel := Lib.hid bel; have HBs := Lib.hid hbs1
  have c0 : w1.cell? ⟨w.heap.size, 0, none⟩ = some (.int .i64 (bpp : Nat)) := k0.cell 0
  have hmay : mayC (W : Int) (bpp : Int) = true := by simp [mayC]; omega
  have HMB := Lib.hid (mayBe_any (W : Int) (bpp : Int) w1)
  rw [hmay] at HMB
  clear k0 k1 k2 bel hbs1 hmay hbs
  go_wp2_with fail
  refine HMB.out.mono ?_
  rintro e w2 ⟨rfl, rfl⟩
  clear HMB
  go_upto_region 6 with (fail)
  have hs2 := HBel.out.size
  have bo := Blk.new w2 22 #[.slice none 0 0]
  have u3 := (Upd.refl No w2).alloc (.cells #[.slice none 0 0] 22)
  have hs3 : w.heap.size + 1 + 1 + 1 < (w2.alloc (.cells #[.slice none 0 0] 22)).heap.size := by rw [World.size_alloc, hsz]; omega
  rw [hsz] at bo
  have HK3 := Lib.hid (And.intro (HK.out.1.upd u3 id) (And.intro (HK.out.2.1.upd u3 id) (And.intro (HK.out.2.2.upd u3 id) bo)))
  have HBel3 := Lib.hid (HBel.out.trans (u3.fresh.mono hs2)); have HBs3 := Lib.hid (HBs.out.below (u3.fresh.mono (by omega)))
  generalize w2.alloc (.cells #[.slice none 0 0] 22) = w3 at *
  clear bo u3 HK HBel HBs c0
  go_upto_region 7 with (at_make; refine wpList_make_full _ rfl (.tmp 24) (.tmp 24) 22 rfl w3.heap.size 5 i0 (.int .u8 0) 1 Try.underlying22 hti hz0 hz1 .i64 .i64 (W : Int) (W : Int) W rfl rfl rfl rfl (by rw [hz2]; omega) (by unfold maxLen; omega) (Nat.le_refl _) ?_; intro w4 hown4 hg4)
  rw [make_u8] at hown4
  have u4 : Upd No w3 w4 := (Upd.of_grown hg4).mono (fun k _ h => by simp at h)
  have hs4 := u4.size
  have u5 := u4.alloc (.cells #[.slice (some ⟨w3.heap.size, 0, none⟩) W W] 22)
  have ha5 := Blk.new w4 22 #[.slice (some ⟨w3.heap.size, 0, none⟩) W W]
  have o5 := own_low (own_upd hown4 ((Upd.refl No w4).alloc (.cells #[.slice (some ⟨w3.heap.size, 0, none⟩) W W] 22)) (fun _ _ => id)) (show w.heap.size ≤ w3.heap.size by omega)
  have hs5 : w4.heap.size < (w4.alloc (.cells #[.slice (some ⟨w3.heap.size, 0, none⟩) W W] 22)).heap.size := by rw [World.size_alloc]; omega
  have HK5 := Lib.hid (And.intro (HK3.out.1.upd u5 id) (And.intro (HK3.out.2.1.upd u5 id) (And.intro (HK3.out.2.2.1.upd u5 id) (HK3.out.2.2.2.upd u5 id))))
  have HBel5 := Lib.hid (HBel3.out.trans (u5.fresh.mono (by omega))); have HBs5 := Lib.hid (HBs3.out.below (u5.fresh.mono (by omega)))
  obtain ⟨ab, hab⟩ : ∃ ab, w4.heap.size = ab := ⟨_, rfl⟩
  obtain ⟨g4, hg4'⟩ : ∃ g4, w3.heap.size = g4 := ⟨_, rfl⟩
  rw [hab, hg4'] at ha5
  rw [hg4'] at o5 HK5 HBel5 HBs5
  rw [hg4', hab]
  have HA5 := Lib.hid ha5; have HO5 := Lib.hid o5
  rw [hg4', hab] at hs5
  generalize w4.alloc (.cells #[.slice (some ⟨g4, 0, none⟩) W W] 22) = w5 at *
  have hlt5 : w.heap.size + 1 + 1 + 1 < ab ∧ ab < w5.heap.size := by omega
  clear u4 u5 ha5 o5 hown4 hg4 HK3 HBel3 HBs3 hz0 hz1 hz2 hti hab hg4' hs3 hs4
  go_wp2_with fail
  rw [show (1 : Int) + (W : Int) = ((W + 1 : Nat) : Int) by push_cast; omega]
  refine (chunk8_any w5 A m c (W + 1) (by omega)).mono ?_
  rintro e w6 ⟨rfl, rfl⟩
  go_wp2_with fail
  obtain ⟨bc, hbc⟩ : ∃ bc, w5.heap.size = bc := ⟨_, rfl⟩
  have u6 := ((Upd.refl No w5).alloc (.cells #[.slice A m c] 22)).alloc (.cells #[.int .i64 ((W + 1 : Nat) : Int)] 3)
  have hcb : Blk ((w5.alloc (.cells #[.slice A m c] 22)).alloc (.cells #[.int .i64 ((W + 1 : Nat) : Int)] 3)) bc 22 #[.slice A m c] := by
    rw [← hbc]
    exact (Blk.new w5 _ _).alloc _
  have hci : Blk ((w5.alloc (.cells #[.slice A m c] 22)).alloc (.cells #[.int .i64 ((W + 1 : Nat) : Int)] 3)) (bc + 1) 3 #[.int .i64 ((W + 1 : Nat) : Int)] := by
    rw [← hbc, ← World.size_alloc w5 (.cells #[.slice A m c] 22)]
    exact Blk.new (w5.alloc (.cells #[.slice A m c] 22)) _ _
  have hst : UfS w (w.heap.size + 1 + 1 + 1) ab bc W bpp m c A B lb 0 ((w5.alloc (.cells #[.slice A m c] 22)).alloc (.cells #[.int .i64 ((W + 1 : Nat) : Int)] 3)) :=
    ⟨HK5.out.1.upd u6 id, HK5.out.2.1.upd u6 id, HK5.out.2.2.1.upd u6 id, ⟨none, 0, some ⟨g4, 0, none⟩, W, by rw [Nat.mul_zero]; exact HK5.out.2.2.2.upd u6 id, by rw [Nat.mul_zero]; exact World.ownsRow_nil _ _ _ _, HA5.out.upd u6 id, own_upd HO5.out u6 (fun _ _ => id), fun g _ e => by rw [Nat.mul_zero] at e; cases e⟩, hcb, hci, HBs5.out.below (u6.fresh.mono (Nat.le_trans hB HBel5.out.size)), hB, HBel5.out.trans (u6.fresh.mono HBel5.out.size), by omega⟩
  have HST := Lib.hid hst
  clear hst u6 hcb hci HK5 HBel5 HBs5 HA5 HO5 hs2 hs5
  rw [hbc]
  push_cast
  rw [show ((W + 1 : Nat) : Int) = (W : Int) + 1 from by push_cast; rfl] at HST
  generalize (w5.alloc (.cells #[.slice A m c] 22)).alloc (.cells #[.int .i64 ((W : Int) + 1)] 3) = w6 at *
  refine wpIn_wide.1 (wpIn_range_stop (α := Nat) (F := Fence.wide) (n := 3) rfl (by omega) (gf := 55) (lb := #[.pointer (some ⟨bc, 0, none⟩), .pointer (some ⟨bc + 1, 0, none⟩)]) rfl trivial (enters_of Try.func55 (by kernel_rfl) rfl) (fun j => pieceC ad (W + 1) j) N
    (fun k V => UfS w (w.heap.size + 1 + 1 + 1) ab bc W bpp m c A B lb k V ∧ ∀ j, j < k → byteAt (pcU W lb j) 0 ≤ 4)
    (fun k x _ => x = k) (fun j V => j = .ret ∧ Blk V (w.heap.size + 1) 22 #[.slice none 0 0] ∧ Blk V (w.heap.size + 1 + 1) 25 #[.int .i64 9] ∧ Below w.heap.size w V ∧ ∃ k, k < N ∧ 4 < byteAt (pcU W lb k) 0)
    ?seq (fun _ => rfl) ?ia ?ip ?ep ?xp ?start ?a1 ?assign ?body ?done ?stop)
  case seq =>
    intro ll Rr Jx V hRb hY h0 hR
    exact chunk8_in (3 - 1) (by omega) ll bc (W + 1) N m c A ad hA (by omega) HN.out hmc hmb _ Rr Jx (fun k V h => ⟨h.1.cb.cell 0, h.1.ci.cell 0⟩) (fun k V h => ⟨h.1.keep (Upd.refl No V).drew (fun _ h => absurd h id), h.2⟩) (fun V h => hRb V V.drew h (Below.refl _ V).drew) (fun k V hk h1 h2 => hY k k V hk h1 h2 rfl) V h0 hR
  case ia => rintro k V o h; exact ⟨h.1.keep ((Upd.refl No V).alloc o) (fun _ h => absurd h id), h.2⟩
  case ip =>
    rintro k V ll o o' hll ho hoc h
    exact ⟨h.1.put (Nat.le_trans HST.out.bel.size hll) ho hoc o', h.2⟩
  case ep => rintro k x V ll o o' hll ho hoc h; exact h
  case xp =>
    rintro j V ll o o' hll ho hoc ⟨h1, h2, h3, h4, h5⟩
    have u := upd_putObj (S := (· = ll)) V ll o' rfl
    exact ⟨h1, h2.upd u (blk_ne_obj h2 ho hoc), h3.upd u (blk_ne_obj h3 ho hoc), h4.trans (u.below h4.size (fun i hi e => by have := HST.out.bel.size; omega)), h5⟩
  case start => exact ⟨HST.out, fun j hj => by omega⟩
  case assign =>
    intro ll x V K hK
    dsimp only [pieceC]
    have HK := Lib.hid hK
    clear hK
    gi_wp2
    exact HK.out
  case body =>
    rintro ll k x V hk ⟨hI, hgood⟩ hx
    have hx' : k = x := hx.symm
    subst hx'
    clear hx
    have HG := Lib.hid hgood
    obtain ⟨Ao, co, Aa, ca, h1, h2, h3, h4, hne⟩ := hI.row
    have hw0 := hI.bel.size
    have hlt3 := hI.lt
    have hpl : (pcU W lb k).length = W + 1 := pcU_length (by rw [HLB.out]; exact HN.out) hk
    have hkT : (W + 1) * k ≤ lb.length := by
      rw [HLB.out, ← HN.out]
      exact Nat.mul_le_mul_left _ (by omega)
    have hWk : W * k + W ≤ m := by
      have e1 := Nat.mul_le_mul_left W (show k + 1 ≤ N by omega)
      rw [Nat.mul_succ] at e1
      exact Nat.le_trans e1 HWN.out
    have hpb : Bs V B (some (ad.add ((W + 1) * k))) (pcU W lb k) := bs_piece (by have := hI.bs; rw [hA (by omega)] at this; exact this) ((W + 1) * k) (W + 1) hkT
    have kd0 : V.cell? (ad.add ((W + 1) * k)) = some (.int .u8 (byteAt (pcU W lb k) 0 : Nat)) := by
      obtain ⟨ad', e, _, hc⟩ := hpb.at_ (k := 0) (by omega)
      injection e with e
      subst e
      rw [byteAt_get _ _ (by omega)] at hc
      simpa [Addr.add] using hc
    have hfb : Bs V B (some ((ad.add ((W + 1) * k)).add 1)) ((pcU W lb k).drop 1) := by
      have := hpb.drop (k := 1) (cap := W + 2) (by omega) (by omega)
      rw [if_neg (by omega)] at this
      exact this
    have hfl : ((pcU W lb k).drop 1).length = W := by rw [List.length_drop]; omega
    have HCl := Lib.hid (sclone_any ((ad.add ((W + 1) * k)).add 1) W W ((pcU W lb k).drop 1) hfl B V.drew hfb (Nat.le_trans hI.hB hw0) (by omega))
    rw [show (ad.add ((W + 1) * k)).add 1 = ⟨(ad.add ((W + 1) * k)).block, (ad.add ((W + 1) * k)).off + 1, none⟩ from add_succ _ 0] at HCl
    have hkd := byteAt_lt (pcU W lb k) 0
    have HROW : Hid (rowU W bpp lb (k + 1) = uRow (byteAt (pcU W lb k) 0) bpp ((pcU W lb k).drop 1) (rowU W bpp lb k) W) := Lib.hid rfl
    have HBAD : Hid (4 < byteAt (pcU W lb k) 0 → ∃ k, k < N ∧ 4 < byteAt (pcU W lb k) 0) := Lib.hid (fun h => ⟨k, hk, h⟩)
    have HGOOD : Hid (byteAt (pcU W lb k) 0 ≤ 4 → ∀ j, j < k + 1 → byteAt (pcU W lb j) 0 ≤ 4) := Lib.hid (fun h j hj => by
      rcases Nat.lt_or_ge j k with h5 | h5
      · exact HG.out j h5
      · obtain rfl : j = k := by omega
        exact h)
    have HI := Lib.hid hI
    have HR := Lib.hid (And.intro h1 (And.intro h2 (And.intro h3 (And.intro h4 hne))))
    clear hI hgood h1 h2 h3 h4 hne hpl hkT hpb hfb HG
    generalize byteAt (pcU W lb k) 0 = KD at *
    generalize (pcU W lb k).drop 1 = f at *
    generalize (W + 1) * k = F at *
    have i1 : ¬ (W + 1 = 1) := by omega
    have HFL := Lib.hid hfl
    clear hfl
    gi_wp2_with fail
    refine wpRound_region_T (fun W' => W'.cell? (ad.add F) = some (.int .u8 (KD : Nat))) 8 hmix (by kernel_rfl) (by rintro ⟨_, _, h⟩; exact h) 9 rfl ?_
    refine wpAnyT_take (i := 0) (v := .slice (some (ad.add F)) (W + 1) (W + 1)) rfl (by kernel_rfl) (by kernel_rfl) (by kernel_rfl) (by kernel_rfl) (fun _ _ _ h => h) (Or.inl ⟨by rfl, ?_⟩) kd0 ?_
    · rintro wz _
      go_simp
    simp only [Act.put, List.getElem_toArray, List.getElem_cons_succ, List.getElem_cons_zero, List.setIfInBounds_toArray, List.set_cons_zero, List.set_cons_succ]
    refine wpAnyT_take (i := 1) (v := .pointer (some (ad.add F))) rfl (by kernel_rfl) (by kernel_rfl) (by kernel_rfl) (by kernel_rfl) (fun _ _ _ h => h) (Or.inl ⟨by rfl, ?_⟩) kd0 ?_
    · rintro wz _
      go_simp
    simp only [Act.put, List.getElem_toArray, List.getElem_cons_succ, List.getElem_cons_zero, List.setIfInBounds_toArray, List.set_cons_zero, List.set_cons_succ]
    refine wpAnyT_take (i := 2) (v := .int .u8 (KD : Nat)) rfl (by kernel_rfl) (by kernel_rfl) (by kernel_rfl) (by kernel_rfl) (fun _ _ _ h => h) (Or.inl ⟨by rfl, ?_⟩) kd0 ?_
    · rintro wz z1
      go_simp
    simp only [Act.put, List.getElem_toArray, List.getElem_cons_succ, List.getElem_cons_zero, List.setIfInBounds_toArray, List.set_cons_zero, List.set_cons_succ]
    refine wpAnyT_take (i := 3) (v := .int .i64 (KD : Nat)) rfl (by kernel_rfl) (by kernel_rfl) (by kernel_rfl) (by kernel_rfl) (fun _ _ _ h => h) (Or.inl ⟨by rfl, ?_⟩) kd0 ?_
    · rintro wz _
      go_simp
      exact IntWalk.i64_in _ (by omega)
    simp only [Act.put, List.getElem_toArray, List.getElem_cons_succ, List.getElem_cons_zero, List.setIfInBounds_toArray, List.set_cons_zero, List.set_cons_succ]
    refine wpAnyT_take (i := 4) (v := .slice (some (ad.add F)) (W + 1) (W + 1)) rfl (by kernel_rfl) (by kernel_rfl) (by kernel_rfl) (by kernel_rfl) (fun _ _ _ h => h) (Or.inl ⟨by rfl, ?_⟩) kd0 ?_
    · rintro wz _
      go_simp
    simp only [Act.put, List.getElem_toArray, List.getElem_cons_succ, List.getElem_cons_zero, List.setIfInBounds_toArray, List.set_cons_zero, List.set_cons_succ]
    refine wpAnyT_take (i := 5) (v := .slice (some ⟨(ad.add F).block, (ad.add F).off + 1, none⟩) W W) rfl (by kernel_rfl) (by kernel_rfl) (by kernel_rfl) (by kernel_rfl) (fun _ _ _ h => h) (Or.inl ⟨by rfl, ?_⟩) kd0 ?_
    · rintro wz _
      go_simp
      rw [if_pos (by omega), if_neg (by omega)]
    simp only [Act.put, List.getElem_toArray, List.getElem_cons_succ, List.getElem_cons_zero, List.setIfInBounds_toArray, List.set_cons_zero, List.set_cons_succ]
    refine wpAnyT_one (i := 6) rfl (by kernel_rfl) (by rfl) ?_
    go_simp
    refine HCl.out.mono ?_
    rintro e V1 ⟨Ar, rc, rfl, o1, hb1⟩
    have hb1' := of_drew hb1
    have kd1 : V1.cell? (ad.add F) = some (.int .u8 (KD : Nat)) := by rw [hb1'.cell (p := ad.add F) (block_lt_of_cell kd0)]; exact kd0
    have O1 := Lib.hid o1; have HB1 := Lib.hid hb1'
    clear o1 hb1 hb1' HCl
    refine ⟨kd1, ?_⟩
    try simp only [Act.put, List.getElem_toArray, List.getElem_cons_succ, List.getElem_cons_zero, List.setIfInBounds_toArray, List.set_cons_zero, List.set_cons_succ]
    refine wpAnyT_one (i := 7) rfl (by kernel_rfl) (by rfl) ?_
    go_simp
    try simp only [Act.put, List.getElem_toArray, List.getElem_cons_succ, List.getElem_cons_zero, List.setIfInBounds_toArray, List.set_cons_zero, List.set_cons_succ]
    refine wpAnyT_one (i := 8) rfl (by kernel_rfl) (by rfl) ?_
    go_simp
    try simp only [Act.put, List.getElem_toArray, List.getElem_cons_succ, List.getElem_cons_zero, List.setIfInBounds_toArray, List.set_cons_zero, List.set_cons_succ]
    refine wpAnyT_done (by kernel_rfl) ?_
    have HI1 := Lib.hid (HI.out.keep (Upd.of_below HB1.out) (fun j h => h))
    have hs1 := HB1.out.size
    obtain ⟨rg, rfl, hrc, _, hrg, hrg2⟩ := row_form O1.out (by omega)
    have hrgV : V.heap.size ≤ rg := hrg
    clear kd0 kd1 hrg
    by_cases hk4 : KD ≤ 4
    · have j4 : ¬ ((4 : Int) < (KD : Int)) := by omega
      have HR1 : Hid (∀ wr, Upd (fun j => V.heap.size ≤ j) V wr → Blk wr (w.heap.size + 1 + 1 + 1) 22 #[.slice Ao (W * k) co] ∧ wr.ownsRow w.heap.size 5 1 (.slice Ao (W * k) co) (W * k) (bytesV (outU W bpp lb k)) ∧
          Blk wr ab 22 #[.slice Aa W ca] ∧ wr.ownsRow w.heap.size 5 1 (.slice Aa W ca) W (bytesV (rowU W bpp lb k)) ∧ UfS w (w.heap.size + 1 + 1 + 1) ab bc W bpp m c A B lb k wr) := Lib.hid (fun wr u => by
        obtain ⟨h1, h2, h3, h4, _⟩ := HR.out
        exact ⟨h1.upd u (by have := h1.lt; omega), own_upd h2 u (fun j hj e => by have := (h2.lt j hj).2; omega), h3.upd u (by have := h3.lt; omega), own_upd h4 u (fun j hj e => by have := (h4.lt j hj).2; omega), HI.out.keep u (fun j e => e)⟩)
      have HNE : Hid ((Value.slice Ao (W * k) co).ownBlock ≠ some rg) := Lib.hid (fun e => by have := (HR.out.2.1.lt rg e).2; omega)
      have HST1 : Hid (KeepsOthers V V1 ∧ Upd (fun j => V.heap.size ≤ j) V V1 ∧ V1.ownsRow V.heap.size 5 1 (.slice (some ⟨rg, 0, none⟩) W rc) W (bytesV (bufU KD bpp f (rowU W bpp lb k) 0))) := Lib.hid ⟨keeps_of_fresh HB1.out, Upd.of_below HB1.out, O1.out⟩
      have HSt : Hid (∀ wr, Upd (fun j => V.heap.size ≤ j) V wr → wr.ownsRow V.heap.size 5 1 (.slice (some ⟨rg, 0, none⟩) W rc) W (bytesV (bufU KD bpp f (rowU W bpp lb k) W)) →
          ∃ A9 c9 w9, (Builtin.append_ #[22, 22] 22 #[.slice Ao (W * k) co, .slice (some ⟨rg, 0, none⟩) W rc]).run Try.prog wr = .ok (.slice A9 (W * k + W) c9) w9 ∧ Blk w9 (w.heap.size + 1 + 1 + 1) 22 #[.slice Ao (W * k) co] ∧
            (Blk w9 ab 22 #[.slice Aa W ca] ∧ Blk (w9.setCell ⟨w.heap.size + 1 + 1 + 1, 0, none⟩ (.slice A9 (W * k + W) c9)) ab 22 #[.slice Aa W ca]) ∧ KeepsOthers wr ((w9.setCell ⟨w.heap.size + 1 + 1 + 1, 0, none⟩ (.slice A9 (W * k + W) c9)).setCell ⟨ab, 0, none⟩ (.slice (some ⟨rg, 0, none⟩) W rc)) ∧
            UfS w (w.heap.size + 1 + 1 + 1) ab bc W bpp m c A B lb (k + 1) ((w9.setCell ⟨w.heap.size + 1 + 1 + 1, 0, none⟩ (.slice A9 (W * k + W) c9)).setCell ⟨ab, 0, none⟩ (.slice (some ⟨rg, 0, none⟩) W rc))) := Lib.hid (fun wr u or => by
        obtain ⟨h1, h2, h3, h4, h5⟩ := HR1.out wr u
        rw [bufU_all HFL.out, ← HROW.out] at or
        obtain ⟨A9, c9, w9, hrun, o9, hg9, hw9⟩ := append8 w.heap.size wr (.slice Ao (W * k) co) (W * k) (outU W bpp lb k) h2 h5.bel.size wr.heap.size (some ⟨rg, 0, none⟩) W rc _ (rowU_length ..) (bs_own or).1 (by omega) 22
        obtain ⟨e1, e2, e3, e4⟩ := h5.step or hw0 h1 h2 h3 HNE.out o9 hg9 hw9
        exact ⟨A9, c9, w9, hrun, e1, e2, e3, e4⟩)
      have hfl2 : f.length = W := HFL.out
      have HF2 := Lib.hid hfl2
      have HWK := Lib.hid hWk
      clear HI1 HI HR HB1 O1 hs1 hfl2 HFL hWk hrg2
      generalize W * k = Z at *
      gi_wp2_with fail
      gi_loopw [42] (fun i wr => ∃ j : Nat, j ≤ W ∧ i = .int .i64 (j : Int) ∧ Hid (KeepsOthers V wr ∧ Upd (fun j => V.heap.size ≤ j) V wr ∧ wr.ownsRow V.heap.size 5 1 (.slice (some ⟨rg, 0, none⟩) W rc) W (bytesV (bufU KD bpp f (rowU W bpp lb k) j)))) (fun i _ => W - (intOf i).toNat)
      case atStart => exact ⟨0, Nat.zero_le _, rfl, HST1⟩
      case round =>
        obtain ⟨j, hj, rfl, HJ⟩ := hrel
        clear HST1
        by_cases hlt : j < W
        · have q1 : (j : Int) < (W : Int) := by omega
          have q2 : wr.drew.cell? ⟨rg, j, none⟩ = some (.int .u8 (byteAt f j : Nat)) := by
            have := own_cell HJ.out.2.2 j hlt
            rw [bufU_at] at this
            exact this
          have q3 : wr.drew.cell? ⟨ab, 0, none⟩ = some (.slice Aa W ca) := (HR1.out wr HJ.out.2.1).2.2.1.cell 0
          have q4 : wr.drew.cell? ⟨w.heap.size, 0, none⟩ = some (.int .i64 (bpp : Nat)) := (HR1.out wr HJ.out.2.1).2.2.2.2.hb.cell 0
          have qf := HJ.out.2.2.frozenAt j
          have HGS := Lib.hid (guess_any KD bpp j W W rc ca (some ⟨rg, 0, none⟩) Aa (bufU KD bpp f (rowU W bpp lb k) j) (rowU W bpp lb k) hk4 hb1 hb8 hlt hlt (bs_own HJ.out.2.2).2 (rowU_length ..) (by omega) wr.heap.size wr.heap.size wr.drew (bs_own HJ.out.2.2).1 (bs_own (HR1.out wr HJ.out.2.1).2.2.2.1).1)
          have hgl := gsB_lt KD bpp j (bufU KD bpp f (rowU W bpp lb k) j) (rowU W bpp lb k)
          have hxl := byteAt_lt f j
          have HSTEP := Lib.hid (bufU_step (kind := KD) (bpp := bpp) (f := f) (ab := rowU W bpp lb k) (n := j) hb1 (by rw [HF2.out]; exact hlt))
          generalize gsB KD bpp j (bufU KD bpp f (rowU W bpp lb k) j) (rowU W bpp lb k) = g at *
          generalize byteAt f j = x at *
          have HW8 : Hid (IntKind.u8.wrap ((x : Int) + (g : Int)) = ((UInt8.ofNat (x + g)).toNat : Int) ∧ ((x : Int) + (g : Int)) % 256 = ((UInt8.ofNat (x + g)).toNat : Int)) := Lib.hid (by
            rw [u8_val]
            refine ⟨?_, by omega⟩
            simp [IntKind.wrap, IntKind.bits, IntKind.signed])
          gi_wp2_with fail
          have HS : Hid (wr.drew.cell? ⟨rg, j, none⟩ = some (.int .u8 (x : Nat)) ∧ wr.drew.cell? ⟨ab, 0, none⟩ = some (.slice Aa W ca) ∧ wr.drew.cell? ⟨w.heap.size, 0, none⟩ = some (.int .i64 (bpp : Nat))) := Lib.hid ⟨q2, q3, q4⟩
          refine wpRound_region_T (fun W' => W'.cell? ⟨rg, j, none⟩ = some (.int .u8 (x : Nat)) ∧ W'.cell? ⟨ab, 0, none⟩ = some (.slice Aa W ca) ∧ W'.cell? ⟨w.heap.size, 0, none⟩ = some (.int .i64 (bpp : Nat))) 12 hmix (by kernel_rfl) (by rintro ⟨_, _, h⟩; exact h) 13 rfl ?_
          clear q2 q3 q4
          refine wpAnyT_take (i := 0) (v := .slice (some ⟨rg, 0, none⟩) W rc) rfl (by kernel_rfl) (by kernel_rfl) (by kernel_rfl) (by kernel_rfl) (fun _ _ _ h => h) (Or.inl ⟨by rfl, ?_⟩) HS.out ?_
          · rintro wz _
            go_simp
          simp only [Act.put, List.getElem_toArray, List.getElem_cons_succ, List.getElem_cons_zero, List.setIfInBounds_toArray, List.set_cons_zero, List.set_cons_succ]
          refine wpAnyT_take (i := 1) (v := .int .i64 (j : Int)) rfl (by kernel_rfl) (by kernel_rfl) (by kernel_rfl) (by kernel_rfl) (fun _ _ _ h => h) (Or.inl ⟨by rfl, ?_⟩) HS.out ?_
          · rintro wz _
            go_simp
          simp only [Act.put, List.getElem_toArray, List.getElem_cons_succ, List.getElem_cons_zero, List.setIfInBounds_toArray, List.set_cons_zero, List.set_cons_succ]
          refine wpAnyT_take (i := 2) (v := .pointer (some ⟨rg, j, none⟩)) rfl (by kernel_rfl) (by kernel_rfl) (by kernel_rfl) (by kernel_rfl) (fun _ _ _ h => h) (Or.inl ⟨by rfl, ?_⟩) HS.out ?_
          · rintro wz _
            go_simp
          simp only [Act.put, List.getElem_toArray, List.getElem_cons_succ, List.getElem_cons_zero, List.setIfInBounds_toArray, List.set_cons_zero, List.set_cons_succ]
          refine wpAnyT_take (i := 3) (v := .int .u8 (x : Nat)) rfl (by kernel_rfl) (by kernel_rfl) (by kernel_rfl) (by kernel_rfl) (fun _ _ _ h => h) (Or.inl ⟨by rfl, ?_⟩) HS.out ?_
          · rintro wz ⟨z1, z2, z3⟩
            go_simp
          simp only [Act.put, List.getElem_toArray, List.getElem_cons_succ, List.getElem_cons_zero, List.setIfInBounds_toArray, List.set_cons_zero, List.set_cons_succ]
          refine wpAnyT_take (i := 4) (v := .int .i64 (KD : Nat)) rfl (by kernel_rfl) (by kernel_rfl) (by kernel_rfl) (by kernel_rfl) (fun _ _ _ h => h) (Or.inl ⟨by rfl, ?_⟩) HS.out ?_
          · rintro wz _
            go_simp
          simp only [Act.put, List.getElem_toArray, List.getElem_cons_succ, List.getElem_cons_zero, List.setIfInBounds_toArray, List.set_cons_zero, List.set_cons_succ]
          refine wpAnyT_take (i := 5) (v := .slice (some ⟨rg, 0, none⟩) W rc) rfl (by kernel_rfl) (by kernel_rfl) (by kernel_rfl) (by kernel_rfl) (fun _ _ _ h => h) (Or.inl ⟨by rfl, ?_⟩) HS.out ?_
          · rintro wz _
            go_simp
          simp only [Act.put, List.getElem_toArray, List.getElem_cons_succ, List.getElem_cons_zero, List.setIfInBounds_toArray, List.set_cons_zero, List.set_cons_succ]
          refine wpAnyT_take (i := 6) (v := .slice Aa W ca) rfl (by kernel_rfl) (by kernel_rfl) (by kernel_rfl) (by kernel_rfl) (fun _ _ _ h => h) (Or.inl ⟨by rfl, ?_⟩) HS.out ?_
          · rintro wz ⟨z1, z2, z3⟩
            go_simp
          simp only [Act.put, List.getElem_toArray, List.getElem_cons_succ, List.getElem_cons_zero, List.setIfInBounds_toArray, List.set_cons_zero, List.set_cons_succ]
          refine wpAnyT_take (i := 7) (v := .int .i64 (j : Int)) rfl (by kernel_rfl) (by kernel_rfl) (by kernel_rfl) (by kernel_rfl) (fun _ _ _ h => h) (Or.inl ⟨by rfl, ?_⟩) HS.out ?_
          · rintro wz _
            go_simp
          simp only [Act.put, List.getElem_toArray, List.getElem_cons_succ, List.getElem_cons_zero, List.setIfInBounds_toArray, List.set_cons_zero, List.set_cons_succ]
          refine wpAnyT_take (i := 8) (v := .int .i64 (bpp : Nat)) rfl (by kernel_rfl) (by kernel_rfl) (by kernel_rfl) (by kernel_rfl) (fun _ _ _ h => h) (Or.inl ⟨by rfl, ?_⟩) HS.out ?_
          · rintro wz ⟨z1, z2, z3⟩
            go_simp
          simp only [Act.put, List.getElem_toArray, List.getElem_cons_succ, List.getElem_cons_zero, List.setIfInBounds_toArray, List.set_cons_zero, List.set_cons_succ]
          refine wpAnyT_one (i := 9) rfl (by kernel_rfl) (by rfl) ?_
          go_simp
          refine HGS.out.mono ?_
          rintro e V2 ⟨rfl, md, rfl⟩
          refine ⟨HS.out, ?_⟩
          try simp only [Act.put, List.getElem_toArray, List.getElem_cons_succ, List.getElem_cons_zero, List.setIfInBounds_toArray, List.set_cons_zero, List.set_cons_succ]
          refine wpAnyT_one (i := 10) rfl (by kernel_rfl) (by rfl) ?_
          go_simp
          refine ⟨HS.out, ?_⟩
          try simp only [Act.put, List.getElem_toArray, List.getElem_cons_succ, List.getElem_cons_zero, List.setIfInBounds_toArray, List.set_cons_zero, List.set_cons_succ]
          first | rw [HW8.out.1] | rw [HW8.out.2]
          refine wpAnyT_one (i := 11) rfl (by kernel_rfl) (by rfl) ?_
          go_simp
          refine ⟨HS.out, ?_⟩
          try simp only [Act.put, List.getElem_toArray, List.getElem_cons_succ, List.getElem_cons_zero, List.setIfInBounds_toArray, List.set_cons_zero, List.set_cons_succ]
          refine wpAnyT_one (i := 12) rfl (by kernel_rfl) (by rfl) ?_
          have qs : wr.cell? ⟨rg, j, none⟩ = some (.int .u8 (x : Nat)) := HS.out.1
          go_simp
          try simp only [Act.put, List.getElem_toArray, List.getElem_cons_succ, List.getElem_cons_zero, List.setIfInBounds_toArray, List.set_cons_zero, List.set_cons_succ]
          refine wpAnyT_done (by kernel_rfl) ?_
          gi_wp2_with fail
          go_roundw
          case rel =>
            have hq : (wr.drewN (1 + md)).ownsRow V.heap.size 5 1 (.slice (some ⟨rg, 0, none⟩) W rc) W (bytesV (bufU KD bpp f (rowU W bpp lb k) j)) := HJ.out.2.2
            have hq2 := own_u8 hq j (UInt8.ofNat (x + g))
            rw [HSTEP.out, ← HW8.out.2] at hq2
            have hk0 : KeepsOthers wr (wr.drewN (1 + md)) := ⟨Nat.le_refl _, fun _ _ h _ => h⟩
            exact ⟨j + 1, by omega, by go_num, Lib.hid ⟨HJ.out.1.trans (hk0.trans (KeepsOthers.setCell _ _ _)), (HJ.out.2.1.drewN _).setCell (p := ⟨rg, j, none⟩) (fun _ => hrgV) _, hq2⟩⟩
          case measure => simp [intOf]; omega
        · obtain rfl : j = W := by omega
          obtain ⟨h1, _⟩ := HR1.out wr HJ.out.2.1
          obtain ⟨A9, c9, w9, hrun, b9, a9, hko, hstep⟩ := HSt.out wr HJ.out.2.1 HJ.out.2.2
          have HRN := Lib.hid hrun
          have HFIN := Lib.hid (And.intro (HJ.out.1.trans hko) hstep)
          have k1 : wr.cell? ⟨w.heap.size + 1 + 1 + 1, 0, none⟩ = some (.slice Ao Z co) := h1.cell 0
          have k2 : w9.cell? ⟨w.heap.size + 1 + 1 + 1, 0, none⟩ = some (.slice Ao Z co) := b9.cell 0
          have k3 := b9.frozen 0
          have k4 : w9.cell? ⟨ab, 0, none⟩ = some (.slice Aa j ca) := a9.1.cell 0
          have k5 := a9.1.frozen 0
          have k6 : (w9.setCell ⟨w.heap.size + 1 + 1 + 1, 0, none⟩ (.slice A9 (Z + j) c9)).cell? ⟨ab, 0, none⟩ = some (.slice Aa j ca) := a9.2.cell 0
          have k7 := a9.2.frozen 0
          have k8 : ¬ w.heap.size + 1 + 1 + 1 = ab := by omega
          clear h1 hrun b9 a9 hko hstep HSt HR1 HJ
          gi_wp2_with (gi_at_builtin; refine wpListIn_append_run rfl (.tmp 58) (.tmp 59) _ rfl rfl rfl HRN.out ?_)
          exact ⟨HFIN.out.1, HFIN.out.2, HGOOD.out hk4⟩
    · have j4 : (4 : Int) < (KD : Int) := by omega
      have c6 : V1.cell? ⟨w.heap.size + 1, 0, none⟩ = some (.slice none 0 0) := HI1.out.h6.cell 0
      have c7 : V1.cell? ⟨w.heap.size + 1 + 1, 0, none⟩ = some (.int .i64 0) := HI1.out.h7.cell 0
      have f6 := HI1.out.h6.frozen 0
      have f7 := HI1.out.h7.frozen 0
      have HE : Hid (KeepsOthers V ((V1.setCell ⟨w.heap.size + 1, 0, none⟩ (.slice none 0 0)).setCell ⟨w.heap.size + 1 + 1, 0, none⟩ (.int .i64 9)) ∧ Blk ((V1.setCell ⟨w.heap.size + 1, 0, none⟩ (.slice none 0 0)).setCell ⟨w.heap.size + 1 + 1, 0, none⟩ (.int .i64 9)) (w.heap.size + 1) 22 #[.slice none 0 0] ∧
          Blk ((V1.setCell ⟨w.heap.size + 1, 0, none⟩ (.slice none 0 0)).setCell ⟨w.heap.size + 1 + 1, 0, none⟩ (.int .i64 9)) (w.heap.size + 1 + 1) 25 #[.int .i64 9] ∧ Below w.heap.size w ((V1.setCell ⟨w.heap.size + 1, 0, none⟩ (.slice none 0 0)).setCell ⟨w.heap.size + 1 + 1, 0, none⟩ (.int .i64 9))) := Lib.hid (by
        have u1 := (Upd.refl (· = w.heap.size + 1) V1).setCell (p := ⟨w.heap.size + 1, 0, none⟩) (fun _ => rfl) (.slice none 0 0)
        have u2 := (Upd.refl (· = w.heap.size + 1 + 1) (V1.setCell ⟨w.heap.size + 1, 0, none⟩ (.slice none 0 0))).setCell (p := ⟨w.heap.size + 1 + 1, 0, none⟩) (fun _ => rfl) (.int .i64 9)
        have e1 : Blk (V1.setCell ⟨w.heap.size + 1, 0, none⟩ (.slice none 0 0)) (w.heap.size + 1) 22 #[.slice none 0 0] := by simpa using HI1.out.h6.set_ 0 (.slice none 0 0)
        have e2 : Blk (V1.setCell ⟨w.heap.size + 1, 0, none⟩ (.slice none 0 0)) (w.heap.size + 1 + 1) 25 #[.int .i64 0] := HI1.out.h7.upd u1 (by omega)
        have hb := HI1.out.bel
        have hb2 := u1.below hb.size (fun j hj e => by omega)
        have hb3 := u2.below (Nat.le_trans hb.size hb2.size) (fun j hj e => by omega)
        exact ⟨(keeps_of_fresh HB1.out).trans ((KeepsOthers.setCell _ _ _).trans (KeepsOthers.setCell _ _ _)), e1.upd u2 (by omega), by simpa using e2.set_ 0 (.int .i64 9), (hb.trans hb2).trans hb3⟩)
      clear HI HI1 HR O1 HB1 HROW
      gi_wp2_with fail
      exact ⟨HE.out.1, rfl, HE.out.2.1, HE.out.2.2.1, HE.out.2.2.2, HBAD.out (by omega)⟩
  case done =>
    rintro D V hD ⟨hI, hgood⟩ hK
    obtain ⟨Ao, co, Aa, ca, h1, h2, _, _, _⟩ := hI.row
    have c8 : V.cell? ⟨w.heap.size + 1 + 1 + 1, 0, none⟩ = some (.slice Ao (W * N) co) := h1.cell 0
    have c6 : V.cell? ⟨w.heap.size + 1, 0, none⟩ = some (.slice none 0 0) := hI.h6.cell 0
    have c7 : V.cell? ⟨w.heap.size + 1 + 1, 0, none⟩ = some (.int .i64 0) := hI.h7.cell 0
    have f6 := hI.h6.frozen 0
    have f7 := hI.h7.frozen 0
    have hw0 := HST.out.bel.size
    have HE : Hid (∀ X : Nat, X = Nat.mul W N → Blk ((V.setCell ⟨w.heap.size + 1, 0, none⟩ (.slice Ao X co)).setCell ⟨w.heap.size + 1 + 1, 0, none⟩ (.int .i64 0)) (w.heap.size + 1) 22 #[.slice Ao X co] ∧
        Blk ((V.setCell ⟨w.heap.size + 1, 0, none⟩ (.slice Ao X co)).setCell ⟨w.heap.size + 1 + 1, 0, none⟩ (.int .i64 0)) (w.heap.size + 1 + 1) 25 #[.int .i64 0] ∧ Below w.heap.size w ((V.setCell ⟨w.heap.size + 1, 0, none⟩ (.slice Ao X co)).setCell ⟨w.heap.size + 1 + 1, 0, none⟩ (.int .i64 0)) ∧
        ((V.setCell ⟨w.heap.size + 1, 0, none⟩ (.slice Ao X co)).setCell ⟨w.heap.size + 1 + 1, 0, none⟩ (.int .i64 0)).ownsRow w.heap.size 5 1 (.slice Ao X co) X (bytesV (outU W bpp lb N)) ∧
        ((V.setCell ⟨w.heap.size + 1, 0, none⟩ (.slice Ao X co)).setCell ⟨w.heap.size + 1 + 1, 0, none⟩ (.int .i64 0)).heap[D]? = some (.deferred (some []))) := Lib.hid (fun X hX => by
      have hX : X = W * N := hX
      subst hX
      have u1 := (Upd.refl (· = w.heap.size + 1) V).setCell (p := ⟨w.heap.size + 1, 0, none⟩) (fun _ => rfl) (.slice Ao (W * N) co)
      have u2 := (Upd.refl (· = w.heap.size + 1 + 1) (V.setCell ⟨w.heap.size + 1, 0, none⟩ (.slice Ao (W * N) co))).setCell (p := ⟨w.heap.size + 1 + 1, 0, none⟩) (fun _ => rfl) (.int .i64 0)
      have e1 : Blk (V.setCell ⟨w.heap.size + 1, 0, none⟩ (.slice Ao (W * N) co)) (w.heap.size + 1) 22 #[.slice Ao (W * N) co] := by simpa using hI.h6.set_ 0 (.slice Ao (W * N) co)
      have e2 : Blk (V.setCell ⟨w.heap.size + 1, 0, none⟩ (.slice Ao (W * N) co)) (w.heap.size + 1 + 1) 25 #[.int .i64 0] := hI.h7.upd u1 (by omega)
      have hb := hI.bel
      have hb2 := u1.below hb.size (fun j hj e => by omega)
      have hb3 := u2.below (Nat.le_trans hb.size hb2.size) (fun j hj e => by omega)
      have o1 := own_upd h2 u1 (fun j hj e => own_blk_ne h2 hI.h6 (by decide) (by rw [hj, e]))
      exact ⟨e1.upd u2 (by omega), by simpa using e2.set_ 0 (.int .i64 0), (hb.trans hb2).trans hb3, own_upd o1 u2 (fun j hj e => own_blk_ne o1 e2 (by decide) (by rw [hj, e])),
        (u2.block D (by have := (Array.getElem?_eq_some_iff.1 hK).1; simpa using this) (by have := hI.lt; have := hI.ci.lt; have := HST.out.ci.lt; omega)).trans ((u1.block D (Array.getElem?_eq_some_iff.1 hK).1 (by have := hI.lt; have := HST.out.ci.lt; omega)).trans hK)⟩)
    have HGD := Lib.hid hgood
    clear hI h1 h2 hK hgood
    generalize hZ : W * N = Z at *
    have HE2 := Lib.hid (HE.out Z hZ.symm)
    have k8 : ¬ w.heap.size + 1 + 1 = w.heap.size + 1 := by omega
    clear HE
    have HZ := Lib.hid hZ
    clear hZ
    go_wp2_with fail
    obtain ⟨e1, e2, e3, e4, e5⟩ := HE2.out
    generalize (V.setCell ⟨w.heap.size + 1, 0, none⟩ (.slice Ao Z co)).setCell ⟨w.heap.size + 1 + 1, 0, none⟩ (.int .i64 0) = X at *
    refine ⟨by simp, .inl ⟨_, _, rfl, run_takeDeferred e5, ?_⟩⟩
    have u := upd_putObj (S := (· = D)) X D (.deferred none) rfl
    have x1 := (e1.upd u (blk_ne_obj e1 e5 rfl)).cell 0
    have x2 := (e2.upd u (blk_ne_obj e2 e5 rfl)).cell 0
    have hs := e3.size
    have hz := HZ.out
    subst hz
    refine ⟨.tuple #[.slice Ao (W * N) co, .int .i64 0], by simp [results, Try.results21, go_sem, x1, x2], e3.trans (u.below hs (fun j hj e => by omega)), .inr ⟨Ao, co, rfl, own_put e4 e5 rfl _, HGD.out⟩⟩
  case stop =>
    rintro D j V hD ⟨rfl, h1, h2, h3, h4⟩ hK
    refine wpIn_wide.2 ?_
    go_wp2_with fail
    refine ⟨by simp, .inl ⟨_, _, rfl, run_takeDeferred hK, ?_⟩⟩
    have u := upd_putObj (S := (· = D)) V D (.deferred none) rfl
    have x1 := (h1.upd u (blk_ne_obj h1 hK rfl)).cell 0
    have x2 := (h2.upd u (blk_ne_obj h2 hK rfl)).cell 0
    have hs := h3.size
    have hw0 := HST.out.bel.size
    refine ⟨.tuple #[.slice none 0 0, .int .i64 9], by simp [results, Try.results21, go_sem, x1, x2], h3.trans (u.below hs (fun j hj e => by omega)), .inl ⟨rfl, h4⟩⟩
end Go.Proofs.Ytaloieeemibblaa
