/- Joined texts (a claim has at most 60 files). -/
import Derived.Test.YtaloieeemibblaaEx
import Derived.Test.YtaloieeemibblaaSame
import Derived.Test.YtaloieeemibblaaEl
import Derived.Test.YtaloieeemibblaaEm
/- The small trial of layer 12's statements: what it calls. -/
set_option linter.unusedVariables false
set_option linter.unusedSimpArgs false
namespace Go.Proofs.Ytaloieeemibblaa
open Go.ChangeShapes Go.WideShapes Go.ChangeAt Go.RowKit

def wkC : List Ck := [⟨⟨#[73, 69, 78, 68]⟩, []⟩]
def wkJ : List UInt8 := [137, 80, 78, 71, 13, 10, 26, 10, 0, 0, 0, 0, 73, 69, 78, 68, 174, 66, 96, 130]
theorem wk_join : joinM wkC = .ok wkJ := by kernel_rfl
theorem wk_len : (joinF wkC 1).length = 20 := by kernel_rfl
theorem wk_mark : markOk wkJ = true := by kernel_rfl
theorem wk_first : firstOk (restC (wkJ.drop 8) 0) = true := by kernel_rfl
theorem wk_end : isE (typC (wkJ.drop 8) 0) = true := by kernel_rfl
theorem wk_filt : outF 1 3 1 [10, 20, 30] 1 = [1, 10, 10, 10] := by kernel_rfl
theorem wk_unf : ufM 3 1 [1, 10, 10, 10] = .ok [10, 20, 30] := by
  unfold ufM
  rw [if_neg (by decide), if_neg (by decide), if_neg]
  · kernel_rfl
  · rintro ⟨k, h1, h2⟩
    have : k = 0 := by simp at h1; omega
    subst this
    revert h2
    decide +kernel
theorem wk_pass : (pasL 1 1 7).length = 6 := by kernel_rfl
theorem wk_split {k : Nat} (h : splitYes wkJ k) : k = 0 := by
  rcases Nat.eq_zero_or_pos k with h0 | h0
  · exact h0
  · have := (h.2.1 0 h0).2
    rw [wk_end] at this
    cases this
theorem wk_no : ¬ splitNo wkJ := by
  rintro (h | ⟨N, h1, h2⟩)
  · rw [wk_mark] at h; cases h
  · rcases Nat.eq_zero_or_pos N with h0 | h0
    · subst h0; rw [wk_first] at h2; cases h2
    · have := (h1 0 h0).2
      rw [wk_end] at this
      cases this
set_option maxHeartbeats 400000 in
theorem own_any (A : Option Addr) (c n : Nat) (l : List UInt8) (hn : l.length = n) (B : Nat) (w : World) (h : Bs w B A l) (hB : B ≤ w.heap.size) (hl : n ≤ 140737488355328) :
    Calls Try.prog 12 #[.slice A n c] w fun e w' => ∃ A' c', e = .returned (.slice A' n c') ∧
      w'.ownsRow w.heap.size 5 1 (.slice A' n c') n (bytesV l) ∧ Below w.heap.size w w' := by
  subst hn
  obtain ⟨i0, hi, hz0, hz1, hz2⟩ := info_parts info_u8
  go_enter Try.func12, Try.ntmps12
  go_wp2_with (at_builtin; refine wpList_append_bs _ rfl (.tmp 3) (.tmp 4) _ rfl w.heap.size 5 i0 Try.underlying22 hi hz0 hz1 hz2 (.slice (some ⟨w.heap.size, 0, none⟩) 0 0) 0 [] rfl (World.ownsRow_made w #[] 0 (Nat.le_refl _) (by omega) rfl) B A c l rfl (h.alloc hB _) (by omega) (by simp) ?_; intro A1 c1 w1 hown1 hg1 hat1; simp only [Nat.zero_add, List.nil_append] at hown1 hat1 ⊢)
  go_ret
  exact ⟨A1, c1, rfl, hown1, ((Below.refl _ _).alloc (Nat.le_refl _) _).grown hg1 (by simp) (by simp [Value.ownBlock])⟩
/-- A row of the call's own has room. -/
theorem own_room {w : World} {base n c : Nat} {A : Option Addr} {xs : List Value} (h : w.ownsRow base 5 1 (.slice A n c) n xs) : n ≤ c ∧ c ≤ maxLen := by
  rcases h.2 with ⟨h1, _, h0⟩ | ⟨g, cap, cur, h1, _, _, h2, h3, _⟩
  · injection h1 with _ h1 h2
    subst h2
    exact ⟨Nat.le_refl _, by unfold maxLen; omega⟩
  · injection h1 with _ _ h1
    subst h1
    exact ⟨h2, by omega⟩
/-- Is a type's first letter a capital? -/
def critM (l : List UInt8) : Bool := decide (0 < l.length) && capB (byteAt l 0)
set_option maxHeartbeats 400000 in
theorem critical_wk (w : World) : Calls Try.prog 25 #[.string ⟨#[73, 68, 65, 84]⟩] w fun e w' => e = .returned (.bool true) ∧ w' = w := by
  go_enter Try.func25, Try.ntmps25
  go_wp2_with fail
  refine (isCapital_any 73 (by omega) w).mono ?_
  rintro e w1 ⟨rfl, rfl⟩
  go_wp2_with fail
  go_ret
  exact ⟨rfl, rfl⟩
end Go.Proofs.Ytaloieeemibblaa

/- The small trial of layer 12's statements. -/
set_option linter.unusedVariables false
set_option linter.unusedSimpArgs false
namespace Go.Proofs.Ytaloieeemibblaa
open Go.ChangeShapes Go.WideShapes Go.ChangeAt Go.RowKit

theorem wk_cks (w : World) : Cks (w.alloc (.cells #[.string ⟨#[73, 69, 78, 68]⟩, .slice none 0 0] 57)) (w.heap.size + 1) (some ⟨w.heap.size, 0, none⟩) wkC := fun _ => by
  have hb := Blk.new w 57 #[.string ⟨#[73, 69, 78, 68]⟩, .slice none 0 0]
  refine ⟨w.heap.size, 0, rfl, Nat.lt_succ_self _, fun j hj => ?_⟩
  have hj1 : j < 1 := hj
  obtain rfl : j = 0 := by omega
  exact ⟨hb.cell 0, none, 0, hb.cell 1, fun h => absurd h (Nat.lt_irrefl 0)⟩
theorem wk_t : ∀ k ∈ wkC, k.t.size ≤ 140737488355328 := by
  intro k hk
  have : k = ⟨⟨#[73, 69, 78, 68]⟩, []⟩ := by simpa [wkC] using hk
  subst this
  show 4 ≤ 140737488355328
  omega
theorem wk_d : ∀ k ∈ wkC, k.d.length < 4294967296 := by
  intro k hk
  have : k = ⟨⟨#[73, 69, 78, 68]⟩, []⟩ := by simpa [wkC] using hk
  subst this
  show 0 < 4294967296
  omega
theorem join_wk (w : World) : Calls Try.prog 15 #[.slice (some ⟨w.heap.size, 0, none⟩) 1 1] (w.alloc (.cells #[.string ⟨#[73, 69, 78, 68]⟩, .slice none 0 0] 57)) fun e w' => ∃ A' c', e = .returned (.tuple #[.slice A' 20 c', .int .i64 0]) ∧ w'.ownsRow w.heap.size 5 1 (.slice A' 20 c') 20 (bytesV wkJ) ∧ Below w.heap.size w w' := by
  have hs : w.heap.size ≤ (w.alloc (.cells #[.string ⟨#[73, 69, 78, 68]⟩, .slice none 0 0] 57)).heap.size := by rw [World.size_alloc]; omega
  have h1 := (Below.refl w.heap.size w).alloc (Nat.le_refl _) (.cells #[.string ⟨#[73, 69, 78, 68]⟩, .slice none 0 0] 57)
  refine (join_any (some ⟨w.heap.size, 0, none⟩) 1 1 wkC rfl (by omega) wk_t wk_d (by rw [wk_len]; omega) (w.heap.size + 1) _ (wk_cks w) (by rw [World.size_alloc]; omega)).mono ?_
  intro e w' h
  rw [wk_join] at h
  obtain ⟨hb, A', c', h2, h3⟩ := h
  exact ⟨A', c', h2, own_low h3 hs, h1.trans (hb.mono hs)⟩
theorem wkJ_len : wkJ.length = 20 := rfl
theorem split_wk (A : Option Addr) (c : Nat) (hc : 20 ≤ c) (hcx : c ≤ maxLen) (B : Nat) (w : World) (hbs : Bs w B A wkJ) (hB : B ≤ w.heap.size) : Calls Try.prog 11 #[.slice A 20 c] w fun e w' => ∃ A' c', e = .returned (.tuple #[.slice A' 1 c', .int .i64 0]) ∧ Below w.heap.size w w' := by
  refine (split_any A 20 c wkJ wkJ_len hc hcx (by omega) B w hbs hB).mono ?_
  rintro e w' ⟨hb, ⟨_, h⟩ | ⟨k, A', c', h, hy, _⟩⟩
  · exact absurd h wk_no
  · obtain rfl := wk_split hy
    exact ⟨A', c', h, hb⟩
theorem filt_wk (w : World) : Calls Try.prog 19 #[.slice (some ⟨w.heap.size, 0, none⟩) 3 3, .int .i64 3, .int .i64 1, .int .i64 1] (w.alloc (.cells #[.int .u8 10, .int .u8 20, .int .u8 30] 5)) fun e w' => ∃ A' c', e = .returned (.tuple #[.slice A' 4 c', .int .i64 0]) ∧ w'.ownsRow w.heap.size 5 1 (.slice A' 4 c') 4 (bytesV [1, 10, 10, 10]) ∧ Below w.heap.size w w' := by
  have hs : w.heap.size ≤ (w.alloc (.cells #[.int .u8 10, .int .u8 20, .int .u8 30] 5)).heap.size := by rw [World.size_alloc]; omega
  have h1 := (Below.refl w.heap.size w).alloc (Nat.le_refl _) (.cells #[.int .u8 10, .int .u8 20, .int .u8 30] 5)
  refine (filt_rows 3 1 1 1 3 3 (some ⟨w.heap.size, 0, none⟩) ⟨w.heap.size, 0, none⟩ (fun _ => rfl) [10, 20, 30] (by omega) (by omega) (by omega) (by omega) (by omega) rfl rfl (by omega) (by unfold maxLen; omega) (by omega) (by omega) (w.heap.size + 1) _ (bs_const w 5 [10, 20, 30] (0, 0)) (by rw [World.size_alloc]; omega)).mono ?_
  rintro e w' ⟨hb, A', c', h2, h3⟩
  rw [wk_filt] at h3
  exact ⟨A', c', h2, own_low h3 hs, h1.trans (hb.mono hs)⟩
theorem unf_wk (A : Option Addr) (c : Nat) (hc : 4 ≤ c) (hcx : c ≤ maxLen) (B : Nat) (w : World) (hbs : Bs w B A [1, 10, 10, 10]) (hB : B ≤ w.heap.size) : Calls Try.prog 21 #[.slice A 4 c, .int .i64 3, .int .i64 1] w fun e w' => ∃ A' c', e = .returned (.tuple #[.slice A' 3 c', .int .i64 0]) ∧ w'.ownsRow w.heap.size 5 1 (.slice A' 3 c') 3 (bytesV [10, 20, 30]) ∧ Below w.heap.size w w' := by
  refine (unf_any 3 1 A 4 c [1, 10, 10, 10] rfl hc hcx (by omega) B w hbs hB).mono ?_
  intro e w' h
  rw [wk_unf] at h
  obtain ⟨hb, A', c', h2, h3⟩ := h
  exact ⟨A', c', h2, h3, hb⟩
theorem passes_wk (w : World) : Calls Try.prog 23 #[.int .i64 1, .int .i64 1] w fun e w' => ∃ A' c', e = .returned (.slice A' 1 c') ∧ Below w.heap.size w w' := by
  refine (passes_any 1 1 (by omega) (by omega) w).mono ?_
  rintro e w' ⟨A', n, c', h1, _, h3, h4⟩
  rw [wk_pass] at h3
  obtain rfl : n = 1 := by omega
  exact ⟨A', c', h1, h4⟩
theorem same_n (A1 A2 : Option Addr) (n m c1 c2 : Nat) (a b : List UInt8) (hn : a.length = n) (hm : b.length = m) (B : Nat) (w : World) (h1 : Bs w B A1 a) (h2 : Bs w B A2 b) (hl : n ≤ maxLen) :
    Calls Try.prog 18 #[.slice A1 n c1, .slice A2 m c2] w fun e w' => e = .returned (.bool (a == b)) ∧ ∃ n, w' = w.drewN n := by
  subst hn
  subst hm
  exact same_any A1 A2 c1 c2 a b B w h1 h2 hl
theorem same_lit (A : Option Addr) (n c : Nat) (l : List UInt8) (hn : l.length = n) (hl : n ≤ maxLen) (B : Nat) (w : World) (h : Bs w B A l) (hB : B ≤ w.heap.size) :
    Calls Try.prog 18 #[.slice A n c, .slice (some ⟨w.heap.size, 0, none⟩) n n] (w.alloc (.cells (bytesV l).toArray 5)) fun e w' => e = .returned (.bool true) ∧ Below w.heap.size w w' := by
  have h1 := (Below.refl w.heap.size w).alloc (Nat.le_refl _) (.cells (bytesV l).toArray 5)
  have hb := h.below (h1.mono hB)
  refine (same_n A (some ⟨w.heap.size, 0, none⟩) n n c n l l hn hn (w.heap.size + 1) _ (fun hn => by
    obtain ⟨ad, e, hlt, hc⟩ := hb hn
    exact ⟨ad, e, by omega, hc⟩) (bs_const w 5 l (0, 0)) hl).mono ?_
  rintro e w' ⟨rfl, q, rfl⟩
  exact ⟨by simp, h1.trans ((Upd.drewN (Upd.refl (fun _ => False) _) q).below (B := w.heap.size) h1.size (fun _ _ h => h))⟩
end Go.Proofs.Ytaloieeemibblaa
