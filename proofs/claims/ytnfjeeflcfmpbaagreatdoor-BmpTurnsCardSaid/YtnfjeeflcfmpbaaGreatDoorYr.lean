/- Joined texts (a claim has at most 60 files): Yw Yo Yr. -/
import Derived.Test.YtnfjeeflcfmpbaaGreatDoorYv
import Derived.Test.YtnfjeeflcfmpbaaGreatDoorQg
import Derived.Test.YtnfjeeflcfmpbaaGreatDoorJ
import Derived.Test.YtnfjeeflcfmpbaaGreatDoorQp
import Derived.Test.YtnfjeeflcfmpbaaGreatDoorCt
import Derived.Laws.EntriesVeiled
import Derived.Test.YtnfjeeflcfmpbaaGreatDoorRo
import Derived.Test.YtnfjeeflcfmpbaaGreatDoorQh
/- The numbers of all pixels. -/
set_option linter.unusedVariables false
set_option linter.unusedSimpArgs false
namespace Go.Proofs.YtnfjeeflcfmpbaaGreatDoor
open Go.ChangeShapes Go.WideShapes Go.ChangeAt Go.RowKit Go.Shelf

theorem rowN_pos (al : Bool) (W : Nat) (h : 1 ≤ W) : 1 ≤ rowN al W := by
  have h1 := (row_fits al W).1
  have h2 : 1 ≤ pxN al := by cases al <;> simp [pxN]
  have := Nat.mul_le_mul h2 h
  omega
set_option maxRecDepth 100000 in
set_option maxHeartbeats 4000000 in
theorem numbers_any (al : Bool) (s k0 n0 : Int) (p W H : Nat) (dn : Bool) (m c : Nat) (A : Option Addr) (fb : List UInt8) (hk : k0 = 0 ∨ k0 = 3) (hW1 : 1 ≤ W) (hW : W ≤ 4096) (hH1 : 1 ≤ H) (hH : H ≤ 4096) (hf : W * H ≤ 65536) (hm : fb.length = m) (hp : p + rowN al W * H ≤ m) (hmc : m ≤ c) (hcb : c ≤ maxLen) (hmb : m ≤ 67108864) (B : Nat) (w : World) (hbs : Bs w B A fb) (hB : B ≤ w.heap.size) :
    Calls Tryz.prog 24 #[hdV s p (W : Nat) (H : Nat) dn (dep al : Nat) k0 n0, .slice A m c] w fun e w' => ∃ A' c', e = .returned (.tuple #[.slice A' (W * H) c', .bool true]) ∧ w'.ownsRow w.heap.size 45 1 (.slice A' (W * H) c') (W * H) (nV (numR (fb.drop p) (rowN al W) (dep al) W H)) ∧ Below w.heap.size w w' := by
  have bel := (Below.refl w.heap.size w).alloc (Nat.le_refl _) (.cells (hdC s p (W : Nat) (H : Nat) dn (dep al : Nat) k0 n0) 55)
  have hb := Blk.new w 55 (hdC s p (W : Nat) (H : Nat) dn (dep al : Nat) k0 n0)
  have hT1 : 1 ≤ rowN al W * H := Nat.mul_le_mul (rowN_pos al W hW1) hH1
  have hcp : ¬ c = p := by omega
  have hbs1 := (hbs.below (bel.mono hB)).drop (k := p) (cap := c) (by omega) (by omega)
  rw [if_neg hcp] at hbs1
  obtain ⟨ad, rfl, _, _⟩ := hbs (by omega)
  replace hbs1 : Bs _ B (some (ad.add p)) (fb.drop p) := hbs1
  have hln : (fb.drop p).length = m - p := by rw [List.length_drop, hm]
  have hR := fun (w1 : World) (h1 : Bs w1 B (some (ad.add p)) (fb.drop p)) (h2 : B ≤ w1.heap.size) => rows_any al s p W H k0 n0 dn (m - p) (c - p) _ (fb.drop p) hW1 hW hH1 hH hf hln (by omega) (by omega) (by omega) B w1 h1 h2
  generalize W * H = M at *
  go_enter Tryz.func24, Tryz.ntmps24
  go_upto_region 1 with (fail)
  generalize w.alloc (.cells (hdC s p (W : Nat) (H : Nat) dn (dep al : Nat) k0 n0) 55) = w1 at *
  have HR := Lib.hid (hR w1 hbs1 (by have := bel.size; omega))
  have HBel := Lib.hid bel
  have hs := hb.lt
  have hpm : p ≤ m := by omega
  have hpc : p ≤ c := by omega
  have c0 : w1.cell? ⟨w.heap.size, 0, none⟩ = some (.int .i64 s) := hb.cell 0
  have c1 : w1.cell? ⟨w.heap.size, 1, none⟩ = some (.int .i64 (p : Nat)) := hb.cell 1
  have c2 : w1.cell? ⟨w.heap.size, 2, none⟩ = some (.int .i64 (W : Nat)) := hb.cell 2
  have c3 : w1.cell? ⟨w.heap.size, 3, none⟩ = some (.int .i64 (H : Nat)) := hb.cell 3
  have c4 : w1.cell? ⟨w.heap.size, 4, none⟩ = some (.bool dn) := hb.cell 4
  have c5 : w1.cell? ⟨w.heap.size, 5, none⟩ = some (.int .i64 (dep al : Nat)) := hb.cell 5
  have c6 : w1.cell? ⟨w.heap.size, 6, none⟩ = some (.int .i64 k0) := hb.cell 6
  have c7 : w1.cell? ⟨w.heap.size, 7, none⟩ = some (.int .i64 n0) := hb.cell 7
  clear hb bel hbs hbs1 hR hln hp hf hT1
  rcases hk with rfl | rfl <;> (
  go_wp2_with fail
  refine HR.out.mono ?_
  rintro e w2 ⟨A', c', rfl, o2, hb2⟩
  have HO := Lib.hid (own_low o2 (show w.heap.size ≤ w1.heap.size by omega))
  have HBel2 := Lib.hid (HBel.out.trans (hb2.mono (by omega)))
  clear o2 hb2 HR c0 c1 c2 c3 c4 c5 c6 c7
  go_wp2_with fail
  refine bodyPost_ret (v := .tuple #[.slice A' M c', .bool true]) (by simp [results, Tryz.results24, go_sem]) rfl ?_
  exact ⟨A', c', rfl, HO.out, HBel2.out⟩)
end Go.Proofs.YtnfjeeflcfmpbaaGreatDoor

/- A file's numbers, read by a closure, where all are there. -/
set_option linter.unusedVariables false
set_option linter.unusedSimpArgs false
namespace Go.Proofs.YtnfjeeflcfmpbaaGreatDoor
open Go.ChangeShapes Go.WideShapes Go.ChangeAt Go.RowKit

/-- What reads a file's numbers, as a value. -/
abbrev flV (gb gf : Nat) : Value := .agg #[.func (.func 49) #[] #[.pointer (some ⟨gb, 0, none⟩), .pointer (some ⟨gf, 0, none⟩)], .func (.func 51) #[] #[.pointer (some ⟨gf, 0, none⟩)]]
abbrev flC (gb gf : Nat) : Array Value := #[.func (.func 49) #[] #[.pointer (some ⟨gb, 0, none⟩), .pointer (some ⟨gf, 0, none⟩)], .func (.func 51) #[] #[.pointer (some ⟨gf, 0, none⟩)]]
/-- The boxes of the file's bytes and of the fault, of which there is none. -/
structure FlS (w : World) (B gb gf n : Nat) (A : Option Addr) (c : Nat) (l : List UInt8) : Prop where
  bb : Blk w gb 22 #[.slice A n c]
  fb : Blk w gf 27 #[.int .i64 0]
  bs : Bs w B A l
  len : l.length = n
  b1 : B ≤ gb
  b2 : B ≤ gf
theorem FlS.lt {w : World} {B gb gf n : Nat} {A : Option Addr} {c : Nat} {l : List UInt8} (h : FlS w B gb gf n A c l) : B ≤ w.heap.size := by have := h.bb.lt; have := h.b1; omega
theorem FlS.upd {w w' : World} {B gb gf n : Nat} {A : Option Addr} {c : Nat} {l : List UInt8} {S : Nat → Prop} (h : FlS w B gb gf n A c l) (u : Upd S w w') (h1 : ¬ S gb) (h2 : ¬ S gf) (h3 : ∀ k, S k → B ≤ k) : FlS w' B gb gf n A c l :=
  ⟨h.bb.upd u h1, h.fb.upd u h2, h.bs.upd u h.lt (fun ad _ hlt e => by have := h3 _ e; omega), h.len, h.b1, h.b2⟩
theorem FlS.call {w w' : World} {B gb gf n : Nat} {A : Option Addr} {c : Nat} {l : List UInt8} (h : FlS w B gb gf n A c l) (hb : Below w.heap.size w w') : FlS w' B gb gf n A c l := h.upd (Upd.of_fresh hb) id id (fun k e => absurd e id)
theorem fieldsOf_any (w : World) (B n c : Nat) (A : Option Addr) (l : List UInt8) (hl : l.length = n) (hbs : Bs w B A l) (hB : B ≤ w.heap.size) :
    Calls Tryz.prog 20 #[.slice A n c] w fun e w' => ∃ gb gf, e = .returned (flV gb gf) ∧ FlS w' B gb gf n A c l ∧ w.heap.size ≤ gb ∧ w.heap.size ≤ gf ∧ Below w.heap.size w w' := by
  obtain ⟨bel, hsz, hb1, hb2, hb3⟩ := boxes3 w #[.slice A n c] #[.nilFunc, .nilFunc] #[.int .i64 0] 22 52 27
  go_enter Tryz.func20, Tryz.ntmps20
  go_upto_region 2 with (fail)
  generalize ((w.alloc (.cells #[.slice A n c] 22)).alloc (.cells #[.nilFunc, .nilFunc] 52)).alloc (.cells #[.int .i64 0] 27) = W at *
  have k0 : W.cell? ⟨w.heap.size + 1, 0, none⟩ = some .nilFunc := hb2.cell 0
  have k1 : W.cell? ⟨w.heap.size + 1, 1, none⟩ = some .nilFunc := hb2.cell 1
  have f0 := hb2.frozen 0; have f1 := hb2.frozen 1
  obtain ⟨v0, hv0⟩ : ∃ v, v = Value.func (.func 49) #[] #[.pointer (some ⟨w.heap.size, 0, none⟩), .pointer (some ⟨w.heap.size + 1 + 1, 0, none⟩)] := ⟨_, rfl⟩
  obtain ⟨v1, hv1⟩ : ∃ v, v = Value.func (.func 51) #[] #[.pointer (some ⟨w.heap.size + 1 + 1, 0, none⟩)] := ⟨_, rfl⟩
  have u : Upd (· = w.heap.size + 1) W ((W.setCell ⟨w.heap.size + 1, 0, none⟩ v0).setCell ⟨w.heap.size + 1, 1, none⟩ v1) := ((Upd.refl (· = w.heap.size + 1) W).setCell (fun _ => rfl) _).setCell (fun _ => rfl) _
  have h9 : Blk ((W.setCell ⟨w.heap.size + 1, 0, none⟩ v0).setCell ⟨w.heap.size + 1, 1, none⟩ v1) (w.heap.size + 1) 52 #[v0, v1] := by simpa using (hb2.set_ 0 v0).set_ 1 v1
  have HS := Lib.hid (show FlS ((W.setCell ⟨w.heap.size + 1, 0, none⟩ v0).setCell ⟨w.heap.size + 1, 1, none⟩ v1) B w.heap.size (w.heap.size + 1 + 1) n A c l from ⟨hb1.upd u (by omega), hb3.upd u (by omega), (hbs.below (bel.mono hB)).upd u (by omega) (fun ad _ hlt e => by omega), hl, hB, by omega⟩)
  have HB := Lib.hid (bel.trans (u.below bel.size (fun k hk e => by omega)))
  have n0 : ((W.setCell ⟨w.heap.size + 1, 0, none⟩ v0).setCell ⟨w.heap.size + 1, 1, none⟩ v1).cell? ⟨w.heap.size + 1, 0, none⟩ = some v0 := h9.cell 0
  have n1 : ((W.setCell ⟨w.heap.size + 1, 0, none⟩ v0).setCell ⟨w.heap.size + 1, 1, none⟩ v1).cell? ⟨w.heap.size + 1, 1, none⟩ = some v1 := h9.cell 1
  subst hv0 hv1
  clear hbs hl bel hsz hb1 hb2 hb3 u h9
  go_wp2_with fail
  refine bodyPost_ret (v := flV w.heap.size (w.heap.size + 1 + 1)) (by simp [results, Tryz.results20, go_sem, n0, n1]) rfl ?_
  exact ⟨_, _, rfl, HS.out, Nat.le_refl _, by omega, HB.out⟩
theorem below_same {w w' : World} {g : Nat} {t : TypeId} {cs : Array Value} (u : Upd (· = g) w w') (h : Blk w g t cs) (h' : Blk w' g t cs) : Below w.heap.size w w' :=
  Upd.fresh ⟨u.os, u.tape, u.output, u.size, fun k hk _ => by
    by_cases e : k = g
    · subst e
      exact (show w'.heap[k]? = _ from h').trans (show w.heap[k]? = _ from h).symm
    · exact u.block k hk e⟩
set_option maxRecDepth 100000 in
theorem number_ok (w : World) (B gb gf n c : Nat) (A : Option Addr) (l : List UInt8) (h : FlS w B gb gf n A c l) (hn : n ≤ 140737488355328) (a s : Int) (at_ s' : Nat) (ha : a = (at_ : Int)) (hs : s = (s' : Int)) (h1 : 1 ≤ s') (h4 : s' ≤ 4) (hat : at_ + s' ≤ n) (v : Nat) (hv : numB false (fun i => byteAt l (at_ + i)) s' = v) :
    Calls Tryz.prog 49 #[.int .i64 a, .int .i64 s, .pointer (some ⟨gb, 0, none⟩), .pointer (some ⟨gf, 0, none⟩)] w fun e w' => e = .returned (.int .i64 (v : Nat)) ∧ Below w.heap.size w w' := by
  subst ha hs
  have hl := h.len
  have HG := Lib.hid (get_ok A c l at_ s' false B w h.bs (by omega) h1 h4 (by omega))
  rw [hl, hv] at HG
  have hvb : v < 4294967296 := by rw [← hv]; exact numB_lt _ _ (fun i => byteAt_lt l _) s' h4
  have k0 : w.cell? ⟨gb, 0, none⟩ = some (.slice A n c) := h.bb.cell 0
  have k1 : w.cell? ⟨gf, 0, none⟩ = some (.int .i64 0) := h.fb.cell 0
  have hne : gb ≠ gf := h.bb.ne_ h.fb (by decide)
  have HS := Lib.hid h
  clear h hl hv
  go_enter Tryz.func49, Tryz.ntmps49
  go_wp2_with fail
  refine HG.out.mono ?_
  rintro e w1 ⟨rfl, m, rfl⟩
  have kf := HS.out.fb.frozen 0
  have k2 : (w.drewN m).cell? ⟨gf, 0, none⟩ = some (.int .i64 0) := k1
  have kf2 : (w.drewN m).frozen? ⟨gf, 0, none⟩ = false := kf
  have HF : Hid (FlS ((w.drewN m).setCell ⟨gf, 0, none⟩ (.int .i64 0)) B gb gf n A c l ∧ Upd (· = gf) w ((w.drewN m).setCell ⟨gf, 0, none⟩ (.int .i64 0))) := Lib.hid (by
    have u : Upd (· = gf) w ((w.drewN m).setCell ⟨gf, 0, none⟩ (.int .i64 0)) := ((Upd.refl (· = gf) w).drewN m).setCell (fun _ => rfl) _
    refine ⟨⟨HS.out.bb.upd u hne, ?_, HS.out.bs.upd u HS.out.lt (fun ad _ hlt e => by have := HS.out.b2; omega), HS.out.len, HS.out.b1, HS.out.b2⟩, u⟩
    have e := (HS.out.fb.upd ((Upd.refl No w).drewN m) id).set_ 0 (.int .i64 0)
    simpa using e)
  clear k0 k1 kf
  go_wp2_with fail
  go_ret
  exact ⟨rfl, below_same HF.out.2 HS.out.fb HF.out.1.fb⟩
theorem whole_ok (w : World) (gf : Nat) (h : Blk w gf 27 #[.int .i64 0]) : Calls Tryz.prog 51 #[.pointer (some ⟨gf, 0, none⟩)] w fun e w' => e = .returned (.bool true) ∧ w' = w := by
  have k0 : w.cell? ⟨gf, 0, none⟩ = some (.int .i64 0) := h.cell 0
  go_enter Tryz.func51, Tryz.ntmps51
  go_wp2_with fail
  go_ret
  exact ⟨rfl, rfl⟩
theorem signed_ok (w : World) (B gb gf n c : Nat) (A : Option Addr) (l : List UInt8) (h : FlS w B gb gf n A c l) (hn : n ≤ 140737488355328) (a : Int) (at_ : Nat) (ha : a = (at_ : Int)) (hat : at_ + 4 ≤ n) (v : Nat) (hv : numB false (fun i => byteAt l (at_ + i)) 4 = v) (z : Int) (hz : IntKind.i32.wrap (v : Int) = z) (hzb : -2147483648 ≤ z ∧ z ≤ 2147483647) :
    Calls Tryz.prog 53 #[flV gb gf, .int .i64 a] w fun e w' => e = .returned (.int .i64 z) ∧ Below w.heap.size w w' := by
  subst ha
  have hb := (Below.refl w.heap.size w).alloc (Nat.le_refl _) (.cells (flC gb gf) 52)
  have HN := Lib.hid (number_ok _ B gb gf n c A l (h.call hb) hn (at_ : Int) 4 at_ 4 rfl rfl (by omega) (by omega) hat v hv)
  have HB := Lib.hid hb
  have hfx := Blk.new w 52 (flC gb gf)
  clear h hv
  go_enter Tryz.func53, Tryz.ntmps53
  go_upto_region 1 with (fail)
  generalize w.alloc (.cells (flC gb gf) 52) = w1 at *
  have k0 : w1.cell? ⟨w.heap.size, 0, none⟩ = some (.func (.func 49) #[] #[.pointer (some ⟨gb, 0, none⟩), .pointer (some ⟨gf, 0, none⟩)]) := hfx.cell 0
  have hs := HB.out.size
  clear hfx hb
  go_wp2_with fail
  refine HN.out.mono ?_
  rintro e w2 ⟨rfl, hb2⟩
  have HB2 := Lib.hid (HB.out.trans (hb2.mono hs))
  clear hb2 k0
  go_wp2_with fail
  go_ret
  exact ⟨rfl, HB2.out⟩
end Go.Proofs.YtnfjeeflcfmpbaaGreatDoor

/- A number's colour by the masks that are written. -/
set_option linter.unusedVariables false
set_option linter.unusedSimpArgs false
namespace Go.Proofs.YtnfjeeflcfmpbaaGreatDoor
open Go.ChangeShapes Go.WideShapes Go.ChangeAt Go.RowKit
theorem and_sh (v s : Nat) : (v &&& (255 * 2 ^ s)) / 2 ^ s = v / 2 ^ s % 256 := by
  rw [← Nat.shiftRight_eq_div_pow, ← Nat.shiftRight_eq_div_pow, Nat.shiftRight_and_distrib, ← Nat.shiftLeft_eq, Nat.shiftLeft_shiftRight, show 255 = 2 ^ 8 - 1 from rfl, Nat.and_two_pow_sub_one_eq_mod]
theorem up8_any (x : Nat) (hx : x ≤ 255) (w : World) : Calls Tryz.prog 118 #[.int .i64 (x : Nat), .int .i64 255] w fun e w' => e = .returned (.tuple #[.int .u16 (upN x 255), .int .i64 0]) ∧ w' = w :=
  (up_any x 255 (by omega) (by omega) w).mono fun e w' h => by
    obtain ⟨rfl, ⟨_, rfl⟩ | ⟨h, _⟩⟩ := h
    · exact ⟨rfl, rfl⟩
    · exact absurd ⟨by omega, by omega, by omega, by omega⟩ h
theorem samp0_any (v : Nat) (hv : v < 4294967296) (w : World) (hT : Tab32 w) : Calls Tryz.prog 96 #[.int .u32 (v : Nat), .int .u32 16711680] w fun e w' => e = .returned (.int .u16 (upN ((v / 65536 % 256 : Nat) : Int) 255)) ∧ ∃ n, w' = w.drewN n := by
  have HZ := Lib.hid (tz32_any 16711680 (by omega) w hT)
  rw [show Lib.ctz 32 16711680 = 16 from by decide +kernel] at HZ
  have ha : bits .and .u32 (v : Int) 16711680 = ((v &&& 16711680 : Nat) : Int) := and_u32 v 16711680 hv (by omega)
  have hb := and_sh v 16
  rw [show 255 * 2 ^ 16 = 16711680 from rfl, show 2 ^ 16 = 65536 from rfl] at hb
  have hb2 : v / 65536 % 256 ≤ 255 := by omega
  obtain ⟨x, hx⟩ : ∃ x, v / 65536 % 256 = x := ⟨_, rfl⟩
  obtain ⟨y, hy⟩ : ∃ y, v &&& 16711680 = y := ⟨_, rfl⟩
  have hyv : y ≤ v := by rw [← hy]; exact Nat.and_le_left
  rw [hx] at hb hb2 ⊢
  rw [hy] at ha hb
  have hdiv : (y : Int) / 65536 = (x : Int) := by omega
  have HU := Lib.hid (fun w => up8_any x hb2 w)
  clear hx hy hb hT
  go_enter Tryz.func96, Tryz.ntmps96
  go_wp2_with fail
  refine HZ.out.mono ?_
  rintro e w1 ⟨rfl, rfl⟩
  clear HZ
  go_wp2_with fail
  go_quiet ((go_at_call 118; exact Calls.quiet_of_same (HU.out _)))
  go_wp2_with fail
  go_ret
  exact ⟨rfl, _, rfl⟩
theorem samp1_any (v : Nat) (hv : v < 4294967296) (w : World) (hT : Tab32 w) : Calls Tryz.prog 96 #[.int .u32 (v : Nat), .int .u32 65280] w fun e w' => e = .returned (.int .u16 (upN ((v / 256 % 256 : Nat) : Int) 255)) ∧ ∃ n, w' = w.drewN n := by
  have HZ := Lib.hid (tz32_any 65280 (by omega) w hT)
  rw [show Lib.ctz 32 65280 = 8 from by decide +kernel] at HZ
  have ha : bits .and .u32 (v : Int) 65280 = ((v &&& 65280 : Nat) : Int) := and_u32 v 65280 hv (by omega)
  have hb := and_sh v 8
  rw [show 255 * 2 ^ 8 = 65280 from rfl, show 2 ^ 8 = 256 from rfl] at hb
  have hb2 : v / 256 % 256 ≤ 255 := by omega
  obtain ⟨x, hx⟩ : ∃ x, v / 256 % 256 = x := ⟨_, rfl⟩
  obtain ⟨y, hy⟩ : ∃ y, v &&& 65280 = y := ⟨_, rfl⟩
  have hyv : y ≤ v := by rw [← hy]; exact Nat.and_le_left
  rw [hx] at hb hb2 ⊢
  rw [hy] at ha hb
  have hdiv : (y : Int) / 256 = (x : Int) := by omega
  have HU := Lib.hid (fun w => up8_any x hb2 w)
  clear hx hy hb hT
  go_enter Tryz.func96, Tryz.ntmps96
  go_wp2_with fail
  refine HZ.out.mono ?_
  rintro e w1 ⟨rfl, rfl⟩
  clear HZ
  go_wp2_with fail
  go_quiet ((go_at_call 118; exact Calls.quiet_of_same (HU.out _)))
  go_wp2_with fail
  go_ret
  exact ⟨rfl, _, rfl⟩
theorem samp2_any (v : Nat) (hv : v < 4294967296) (w : World) (hT : Tab32 w) : Calls Tryz.prog 96 #[.int .u32 (v : Nat), .int .u32 255] w fun e w' => e = .returned (.int .u16 (upN ((v / 1 % 256 : Nat) : Int) 255)) ∧ ∃ n, w' = w.drewN n := by
  have HZ := Lib.hid (tz32_any 255 (by omega) w hT)
  rw [show Lib.ctz 32 255 = 0 from by decide +kernel] at HZ
  have ha : bits .and .u32 (v : Int) 255 = ((v &&& 255 : Nat) : Int) := and_u32 v 255 hv (by omega)
  have hb := and_sh v 0
  rw [show 255 * 2 ^ 0 = 255 from rfl, show 2 ^ 0 = 1 from rfl] at hb
  have hb2 : v / 1 % 256 ≤ 255 := by omega
  obtain ⟨x, hx⟩ : ∃ x, v / 1 % 256 = x := ⟨_, rfl⟩
  obtain ⟨y, hy⟩ : ∃ y, v &&& 255 = y := ⟨_, rfl⟩
  have hyv : y ≤ v := by rw [← hy]; exact Nat.and_le_left
  rw [hx] at hb hb2 ⊢
  rw [hy] at ha hb
  have hdiv : (y : Int) / 1 = (x : Int) := by omega
  have HU := Lib.hid (fun w => up8_any x hb2 w)
  clear hx hy hb hT
  go_enter Tryz.func96, Tryz.ntmps96
  go_wp2_with fail
  refine HZ.out.mono ?_
  rintro e w1 ⟨rfl, rfl⟩
  clear HZ
  go_wp2_with fail
  go_quiet ((go_at_call 118; exact Calls.quiet_of_same (HU.out _)))
  go_wp2_with fail
  go_ret
  exact ⟨rfl, _, rfl⟩
theorem samp3_any (v : Nat) (hv : v < 4294967296) (w : World) (hT : Tab32 w) : Calls Tryz.prog 96 #[.int .u32 (v : Nat), .int .u32 4278190080] w fun e w' => e = .returned (.int .u16 (upN ((v / 16777216 % 256 : Nat) : Int) 255)) ∧ ∃ n, w' = w.drewN n := by
  have HZ := Lib.hid (tz32_any 4278190080 (by omega) w hT)
  rw [show Lib.ctz 32 4278190080 = 24 from by decide +kernel] at HZ
  have ha : bits .and .u32 (v : Int) 4278190080 = ((v &&& 4278190080 : Nat) : Int) := and_u32 v 4278190080 hv (by omega)
  have hb := and_sh v 24
  rw [show 255 * 2 ^ 24 = 4278190080 from rfl, show 2 ^ 24 = 16777216 from rfl] at hb
  have hb2 : v / 16777216 % 256 ≤ 255 := by omega
  obtain ⟨x, hx⟩ : ∃ x, v / 16777216 % 256 = x := ⟨_, rfl⟩
  obtain ⟨y, hy⟩ : ∃ y, v &&& 4278190080 = y := ⟨_, rfl⟩
  have hyv : y ≤ v := by rw [← hy]; exact Nat.and_le_left
  rw [hx] at hb hb2 ⊢
  rw [hy] at ha hb
  have hdiv : (y : Int) / 16777216 = (x : Int) := by omega
  have HU := Lib.hid (fun w => up8_any x hb2 w)
  clear hx hy hb hT
  go_enter Tryz.func96, Tryz.ntmps96
  go_wp2_with fail
  refine HZ.out.mono ?_
  rintro e w1 ⟨rfl, rfl⟩
  clear HZ
  go_wp2_with fail
  go_quiet ((go_at_call 118; exact Calls.quiet_of_same (HU.out _)))
  go_wp2_with fail
  go_ret
  exact ⟨rfl, _, rfl⟩
end Go.Proofs.YtnfjeeflcfmpbaaGreatDoor
