/- The small trial of layer 12's statements. -/
import Derived.Test.YtjcnjnkcpempoaaEy
set_option linter.unusedVariables false
set_option linter.unusedSimpArgs false
namespace Go.Proofs.Ytjcnjnkcpempoaa
open Go.ChangeShapes Go.WideShapes Go.ChangeAt Go.RowKit

theorem wk_cks (w : World) : Cks (w.alloc (.cells #[.string ⟨#[73, 69, 78, 68]⟩, .slice none 0 0] 57)) (w.heap.size + 1) (some ⟨w.heap.size, 0, none⟩) wkC := fun _ => by
  have hb := Blk.new w 57 #[.string ⟨#[73, 69, 78, 68]⟩, .slice none 0 0]
  refine ⟨w.heap.size, 0, rfl, Nat.lt_succ_self _, fun j hj => ?_⟩
  have hj1 : j < 1 := hj
  obtain rfl : j = 0 := by omega
  exact ⟨hb.cell 0, none, 0, hb.cell 1, fun h => absurd h (Nat.lt_irrefl 0)⟩
theorem wk_t : ∀ k ∈ wkC, k.t.size ≤ 140737488355328 := by
  intro k hk
  have : k = ⟨⟨#[73, 69, 78, 68]⟩, []⟩ := by simpa [wkC] using hk
  subst this
  show 4 ≤ 140737488355328
  omega
theorem wk_d : ∀ k ∈ wkC, k.d.length < 4294967296 := by
  intro k hk
  have : k = ⟨⟨#[73, 69, 78, 68]⟩, []⟩ := by simpa [wkC] using hk
  subst this
  show 0 < 4294967296
  omega
theorem join_wk (w : World) : Calls Try.prog 15 #[.slice (some ⟨w.heap.size, 0, none⟩) 1 1] (w.alloc (.cells #[.string ⟨#[73, 69, 78, 68]⟩, .slice none 0 0] 57)) fun e w' => ∃ A' c', e = .returned (.tuple #[.slice A' 20 c', .int .i64 0]) ∧ w'.ownsRow w.heap.size 5 1 (.slice A' 20 c') 20 (bytesV wkJ) ∧ Below w.heap.size w w' := by
  have hs : w.heap.size ≤ (w.alloc (.cells #[.string ⟨#[73, 69, 78, 68]⟩, .slice none 0 0] 57)).heap.size := by rw [World.size_alloc]; omega
  have h1 := (Below.refl w.heap.size w).alloc (Nat.le_refl _) (.cells #[.string ⟨#[73, 69, 78, 68]⟩, .slice none 0 0] 57)
  refine (join_any (some ⟨w.heap.size, 0, none⟩) 1 1 wkC rfl (by omega) wk_t wk_d (by rw [wk_len]; omega) (w.heap.size + 1) _ (wk_cks w) (by rw [World.size_alloc]; omega)).mono ?_
  intro e w' h
  rw [wk_join] at h
  obtain ⟨hb, A', c', h2, h3⟩ := h
  exact ⟨A', c', h2, own_low h3 hs, h1.trans (hb.mono hs)⟩
theorem wkJ_len : wkJ.length = 20 := rfl
theorem split_wk (A : Option Addr) (c : Nat) (hc : 20 ≤ c) (hcx : c ≤ maxLen) (B : Nat) (w : World) (hbs : Bs w B A wkJ) (hB : B ≤ w.heap.size) : Calls Try.prog 11 #[.slice A 20 c] w fun e w' => ∃ A' c', e = .returned (.tuple #[.slice A' 1 c', .int .i64 0]) ∧ Below w.heap.size w w' := by
  refine (split_any A 20 c wkJ wkJ_len hc hcx (by omega) B w hbs hB).mono ?_
  rintro e w' ⟨hb, ⟨_, h⟩ | ⟨k, A', c', h, hy, _⟩⟩
  · exact absurd h wk_no
  · obtain rfl := wk_split hy
    exact ⟨A', c', h, hb⟩
theorem filt_wk (w : World) : Calls Try.prog 19 #[.slice (some ⟨w.heap.size, 0, none⟩) 3 3, .int .i64 3, .int .i64 1, .int .i64 1] (w.alloc (.cells #[.int .u8 10, .int .u8 20, .int .u8 30] 5)) fun e w' => ∃ A' c', e = .returned (.tuple #[.slice A' 4 c', .int .i64 0]) ∧ w'.ownsRow w.heap.size 5 1 (.slice A' 4 c') 4 (bytesV [1, 10, 10, 10]) ∧ Below w.heap.size w w' := by
  have hs : w.heap.size ≤ (w.alloc (.cells #[.int .u8 10, .int .u8 20, .int .u8 30] 5)).heap.size := by rw [World.size_alloc]; omega
  have h1 := (Below.refl w.heap.size w).alloc (Nat.le_refl _) (.cells #[.int .u8 10, .int .u8 20, .int .u8 30] 5)
  refine (filt_rows 3 1 1 1 3 3 (some ⟨w.heap.size, 0, none⟩) ⟨w.heap.size, 0, none⟩ (fun _ => rfl) [10, 20, 30] (by omega) (by omega) (by omega) (by omega) (by omega) rfl rfl (by omega) (by unfold maxLen; omega) (by omega) (by omega) (w.heap.size + 1) _ (bs_const w 5 [10, 20, 30] (0, 0)) (by rw [World.size_alloc]; omega)).mono ?_
  rintro e w' ⟨hb, A', c', h2, h3⟩
  rw [wk_filt] at h3
  exact ⟨A', c', h2, own_low h3 hs, h1.trans (hb.mono hs)⟩
theorem unf_wk (A : Option Addr) (c : Nat) (hc : 4 ≤ c) (hcx : c ≤ maxLen) (B : Nat) (w : World) (hbs : Bs w B A [1, 10, 10, 10]) (hB : B ≤ w.heap.size) : Calls Try.prog 21 #[.slice A 4 c, .int .i64 3, .int .i64 1] w fun e w' => ∃ A' c', e = .returned (.tuple #[.slice A' 3 c', .int .i64 0]) ∧ w'.ownsRow w.heap.size 5 1 (.slice A' 3 c') 3 (bytesV [10, 20, 30]) ∧ Below w.heap.size w w' := by
  refine (unf_any 3 1 A 4 c [1, 10, 10, 10] rfl hc hcx (by omega) B w hbs hB).mono ?_
  intro e w' h
  rw [wk_unf] at h
  obtain ⟨hb, A', c', h2, h3⟩ := h
  exact ⟨A', c', h2, h3, hb⟩
theorem passes_wk (w : World) : Calls Try.prog 23 #[.int .i64 1, .int .i64 1] w fun e w' => ∃ A' c', e = .returned (.slice A' 1 c') ∧ Below w.heap.size w w' := by
  refine (passes_any 1 1 (by omega) (by omega) w).mono ?_
  rintro e w' ⟨A', n, c', h1, _, h3, h4⟩
  rw [wk_pass] at h3
  obtain rfl : n = 1 := by omega
  exact ⟨A', c', h1, h4⟩
theorem same_n (A1 A2 : Option Addr) (n m c1 c2 : Nat) (a b : List UInt8) (hn : a.length = n) (hm : b.length = m) (B : Nat) (w : World) (h1 : Bs w B A1 a) (h2 : Bs w B A2 b) (hl : n ≤ maxLen) :
    Calls Try.prog 18 #[.slice A1 n c1, .slice A2 m c2] w fun e w' => e = .returned (.bool (a == b)) ∧ ∃ n, w' = w.drewN n := by
  subst hn
  subst hm
  exact same_any A1 A2 c1 c2 a b B w h1 h2 hl
theorem same_lit (A : Option Addr) (n c : Nat) (l : List UInt8) (hn : l.length = n) (hl : n ≤ maxLen) (B : Nat) (w : World) (h : Bs w B A l) (hB : B ≤ w.heap.size) :
    Calls Try.prog 18 #[.slice A n c, .slice (some ⟨w.heap.size, 0, none⟩) n n] (w.alloc (.cells (bytesV l).toArray 5)) fun e w' => e = .returned (.bool true) ∧ Below w.heap.size w w' := by
  have h1 := (Below.refl w.heap.size w).alloc (Nat.le_refl _) (.cells (bytesV l).toArray 5)
  have hb := h.below (h1.mono hB)
  refine (same_n A (some ⟨w.heap.size, 0, none⟩) n n c n l l hn hn (w.heap.size + 1) _ (fun hn => by
    obtain ⟨ad, e, hlt, hc⟩ := hb hn
    exact ⟨ad, e, by omega, hc⟩) (bs_const w 5 l (0, 0)) hl).mono ?_
  rintro e w' ⟨rfl, q, rfl⟩
  exact ⟨by simp, h1.trans ((Upd.drewN (Upd.refl (fun _ => False) _) q).below (B := w.heap.size) h1.size (fun _ _ h => h))⟩
end Go.Proofs.Ytjcnjnkcpempoaa
