/- Fill, the program's. -/
import Derived.Test.YtkfomjdmdgddlaaQi
namespace Go.Proofs.Ytkfomjdmdgddlaa
open Go.ChangeShapes Go.WideShapes Go.ChangeAt Go.RowKit

/-- An image that is answered, and an error. -/
structure IRes where
  W : Int
  H : Int
  E : Int
  l : List Int
def ImR (w : World) (r : IRes) (e : Ending) (w' : World) : Prop := ∃ A' c', e = .returned (.tuple #[imgV r.W r.H A' r.l.length c', .int .i64 r.E]) ∧ w'.ownsRow w.heap.size 28 1 (.slice A' r.l.length c') r.l.length (usV r.l) ∧ Below w.heap.size w w'
def errI (E : Int) : IRes := ⟨0, 0, E, []⟩
def colQ (x : Col) : List Int := [x.r, x.g, x.b, x.a]
def fillI (W H : Int) (x : Col) : IRes := if mayB W H = true then ⟨W, H, 0, fillL (colQ x) (W * H).toNat⟩ else errI 4
theorem ImR.err {w w' : World} {E : Int} (hb : Below w.heap.size w w') : ImR w (errI E) (.returned (.tuple #[imgV 0 0 none 0 0, .int .i64 E])) w' :=
  ⟨none, 0, rfl, ⟨rfl, .inl ⟨rfl, rfl⟩⟩, hb⟩
theorem IB.put {w : World} {g : Nat} {x y z : Value} (h : IB w g x y z) (x' y' z' : Value) (B : Nat) (hB : B ≤ g) : IB (((w.setCell ⟨g, 0, none⟩ x').setCell ⟨g, 1, none⟩ y').setCell ⟨g, 2, none⟩ z') g x' y' z' ∧
    Below B w (((w.setCell ⟨g, 0, none⟩ x').setCell ⟨g, 1, none⟩ y').setCell ⟨g, 2, none⟩ z') ∧ Upd (· = g) w (((w.setCell ⟨g, 0, none⟩ x').setCell ⟨g, 1, none⟩ y').setCell ⟨g, 2, none⟩ z') :=
  ⟨IB.of (set3 h.blk _ _ _), (set3_upd w g _ _ _).below (by have := h.blk.lt; omega) (fun k hk e => by omega), set3_upd w g _ _ _⟩
theorem own_other {w w' : World} {base g : Nat} {e t : TypeId} {cs : Array Value} {A : Option Addr} {n c : Nat} {xs : List Value} (h : w.ownsRow base e 1 (.slice A n c) n xs) (hg : Blk w g t cs) (hne : e ≠ t) (u : Upd (· = g) w w') : w'.ownsRow base e 1 (.slice A n c) n xs :=
  own_upd h u (fun k hk e => own_blk_ne h hg hne (by rw [← e]; exact hk))
set_option maxRecDepth 100000 in
set_option maxHeartbeats 1000000 in
theorem fill_any (W H : Int) (x : Col) (w : World) : Calls Try.prog 18 #[.int .i64 W, .int .i64 H, colV x] w (ImR w (fillI W H x)) := by
  obtain ⟨h1, hsz, h2, h3⟩ := boxes2 w #[.int .u16 x.r, .int .u16 x.g, .int .u16 x.b, .int .u16 x.a] #[.int .i64 0, .int .i64 0, .slice none 0 0] 30 24
  obtain ⟨W1, hW1⟩ : ∃ W1, (w.alloc (.cells #[.int .u16 x.r, .int .u16 x.g, .int .u16 x.b, .int .u16 x.a] 30)).alloc (.cells #[.int .i64 0, .int .i64 0, .slice none 0 0] 24) = W1 := ⟨_, rfl⟩
  rw [hW1] at h1 hsz h2 h3
  have HW1 := Lib.hid hW1
  have HB := Lib.hid h1
  have HC := Lib.hid (CB.of (x := x) h2)
  have HI := Lib.hid (IB.of h3)
  have HSZ := Lib.hid hsz
  clear hW1 h1 h2 h3 hsz
  go_enter Try.func18, Try.ntmps18
  go_upto_region 1 with (fail)
  rw [HW1.out]
  clear HW1
  go_wp2_with fail
  refine (mayBe_any W H W1).mono ?_
  rintro e w2 ⟨rfl, rfl⟩
  cases hm : mayB W H with
  | false =>
    have HE : Hid (fillI W H x = errI 4) := Lib.hid (by unfold fillI; rw [if_neg (by rw [hm]; simp)])
    obtain ⟨_, d0, d1, d2, f0, f1, f2⟩ := HI.out
    have HP := Lib.hid (IB.put HI.out (.int .i64 0) (.int .i64 0) (.slice none 0 0) w.heap.size (by omega))
    clear hm
    go_wp2_with fail
    have n0 := HP.out.1.c0; have n1 := HP.out.1.c1; have n2 := HP.out.1.c2
    refine bodyPost_ret (v := .tuple #[imgV 0 0 none 0 0, .int .i64 4]) (by simp [results, Try.results18, go_sem, n0, n1, n2]) rfl ?_
    rw [HE.out]
    exact ImR.err (HB.out.trans HP.out.2.1)
  | true =>
    obtain ⟨b1, b2, b3, b4, b5⟩ := mayB_bd hm
    obtain ⟨M, hM⟩ : ∃ M : Nat, W * H = (M : Int) := by
      have := Int.mul_pos (show 0 < W by omega) (show 0 < H by omega)
      exact ⟨(W * H).toNat, by omega⟩
    have hM1 : 1 ≤ M := by have := Int.mul_pos (show 0 < W by omega) (show 0 < H by omega); omega
    have hM2 : M ≤ 65536 := by omega
    have HE : Hid (fillI W H x = ⟨W, H, 0, fillL (colQ x) M⟩) := Lib.hid (by unfold fillI; rw [if_pos hm, hM]; rfl)
    have hwr : wrap64 (W * H) = (M : Int) := by rw [hM]; exact IntWalk.wrap64_in _ (by omega)
    obtain ⟨_, d0, d1, d2, d3, _, _, _, _⟩ := HC.out
    have HR := Lib.hid (repeat_any (w2.alloc (.cells #[.int .u16 x.r, .int .u16 x.g, .int .u16 x.b, .int .u16 x.a] 28)) (some ⟨w2.heap.size, 0, none⟩) 4 M (colQ x) rfl (by rw [World.size_alloc]; exact vs_lit w2 28 (usV (colQ x)) _ (by omega)) hM1 hM2)
    have HBL := Lib.hid ((Below.refl w2.heap.size w2).alloc (Nat.le_refl _) (.cells #[.int .u16 x.r, .int .u16 x.g, .int .u16 x.b, .int .u16 x.a] 28))
    clear hm hM b1 b2 b3 b4 b5
    go_wp2_with fail
    refine HR.out.mono ?_
    rintro e w3 ⟨rfl, ho, hb3⟩
    have hb3' : Below w2.heap.size w2 w3 := HBL.out.trans (hb3.mono (by simp))
    have HI3 := Lib.hid (HI.out.call hb3')
    have HB3 := Lib.hid (HB.out.trans (hb3'.mono HB.out.size))
    have HO3 := Lib.hid ho
    rw [World.size_alloc] at HO3
    clear HI HB HC hb3 hb3' ho hwr HR HBL d0 d1 d2 d3
    obtain ⟨_, d0, d1, d2, f0, f1, f2⟩ := HI3.out
    have HP := Lib.hid (IB.put HI3.out (.int .i64 W) (.int .i64 H) (.slice (some ⟨w2.heap.size + 1, 0, none⟩) (4 * M) (4 * M)) w.heap.size (by omega))
    go_wp2_with fail
    have n0 := HP.out.1.c0; have n1 := HP.out.1.c1; have n2 := HP.out.1.c2
    refine bodyPost_ret (v := .tuple #[imgV W H (some ⟨w2.heap.size + 1, 0, none⟩) (4 * M) (4 * M), .int .i64 0]) (by simp [results, Try.results18, go_sem, n0, n1, n2]) rfl ?_
    rw [HE.out]
    have hs := HSZ.out
    refine ⟨some ⟨w2.heap.size + 1, 0, none⟩, 4 * M, by simp only [fillL_length], ?_, HB3.out.trans HP.out.2.1⟩
    simp only [fillL_length]
    exact own_other (own_low HO3.out (by omega)) HI3.out.blk (by decide) HP.out.2.2
end Go.Proofs.Ytkfomjdmdgddlaa
