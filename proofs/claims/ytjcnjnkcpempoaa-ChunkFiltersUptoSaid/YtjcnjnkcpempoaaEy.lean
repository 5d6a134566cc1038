/- The small trial of layer 12's statements: what it calls. -/
import Derived.Test.YtjcnjnkcpempoaaEx
import Derived.Test.YtjcnjnkcpempoaaSame
import Derived.Test.YtjcnjnkcpempoaaEl
import Derived.Test.YtjcnjnkcpempoaaEm
set_option linter.unusedVariables false
set_option linter.unusedSimpArgs false
namespace Go.Proofs.Ytjcnjnkcpempoaa
open Go.ChangeShapes Go.WideShapes Go.ChangeAt Go.RowKit

def wkC : List Ck := [⟨⟨#[73, 69, 78, 68]⟩, []⟩]
def wkJ : List UInt8 := [137, 80, 78, 71, 13, 10, 26, 10, 0, 0, 0, 0, 73, 69, 78, 68, 174, 66, 96, 130]
theorem wk_join : joinM wkC = .ok wkJ := by kernel_rfl
theorem wk_len : (joinF wkC 1).length = 20 := by kernel_rfl
theorem wk_mark : markOk wkJ = true := by kernel_rfl
theorem wk_first : firstOk (restC (wkJ.drop 8) 0) = true := by kernel_rfl
theorem wk_end : isE (typC (wkJ.drop 8) 0) = true := by kernel_rfl
theorem wk_filt : outF 1 3 1 [10, 20, 30] 1 = [1, 10, 10, 10] := by kernel_rfl
theorem wk_unf : ufM 3 1 [1, 10, 10, 10] = .ok [10, 20, 30] := by
  unfold ufM
  rw [if_neg (by decide), if_neg (by decide), if_neg]
  · kernel_rfl
  · rintro ⟨k, h1, h2⟩
    have : k = 0 := by simp at h1; omega
    subst this
    revert h2
    decide +kernel
theorem wk_pass : (pasL 1 1 7).length = 6 := by kernel_rfl
theorem wk_split {k : Nat} (h : splitYes wkJ k) : k = 0 := by
  rcases Nat.eq_zero_or_pos k with h0 | h0
  · exact h0
  · have := (h.2.1 0 h0).2
    rw [wk_end] at this
    cases this
theorem wk_no : ¬ splitNo wkJ := by
  rintro (h | ⟨N, h1, h2⟩)
  · rw [wk_mark] at h; cases h
  · rcases Nat.eq_zero_or_pos N with h0 | h0
    · subst h0; rw [wk_first] at h2; cases h2
    · have := (h1 0 h0).2
      rw [wk_end] at this
      cases this
set_option maxHeartbeats 400000 in
theorem own_any (A : Option Addr) (c n : Nat) (l : List UInt8) (hn : l.length = n) (B : Nat) (w : World) (h : Bs w B A l) (hB : B ≤ w.heap.size) (hl : n ≤ 140737488355328) :
    Calls Try.prog 12 #[.slice A n c] w fun e w' => ∃ A' c', e = .returned (.slice A' n c') ∧
      w'.ownsRow w.heap.size 5 1 (.slice A' n c') n (bytesV l) ∧ Below w.heap.size w w' := by
  subst hn
  obtain ⟨i0, hi, hz0, hz1, hz2⟩ := info_parts info_u8
  go_enter Try.func12, Try.ntmps12
  go_wp2_with (at_builtin; refine wpList_append_bs _ rfl (.tmp 3) (.tmp 4) _ rfl w.heap.size 5 i0 Try.underlying22 hi hz0 hz1 hz2 (.slice (some ⟨w.heap.size, 0, none⟩) 0 0) 0 [] rfl (World.ownsRow_made w #[] 0 (Nat.le_refl _) (by omega) rfl) B A c l rfl (h.alloc hB _) (by omega) (by simp) ?_; intro A1 c1 w1 hown1 hg1 hat1; simp only [Nat.zero_add, List.nil_append] at hown1 hat1 ⊢)
  go_ret
  exact ⟨A1, c1, rfl, hown1, ((Below.refl _ _).alloc (Nat.le_refl _) _).grown hg1 (by simp) (by simp [Value.ownBlock])⟩
/-- A row of the call's own has room. -/
theorem own_room {w : World} {base n c : Nat} {A : Option Addr} {xs : List Value} (h : w.ownsRow base 5 1 (.slice A n c) n xs) : n ≤ c ∧ c ≤ maxLen := by
  rcases h.2 with ⟨h1, _, h0⟩ | ⟨g, cap, cur, h1, _, _, h2, h3, _⟩
  · injection h1 with _ h1 h2
    subst h2
    exact ⟨Nat.le_refl _, by unfold maxLen; omega⟩
  · injection h1 with _ _ h1
    subst h1
    exact ⟨h2, by omega⟩
/-- Is a type's first letter a capital? -/
def critM (l : List UInt8) : Bool := decide (0 < l.length) && capB (byteAt l 0)
set_option maxHeartbeats 400000 in
theorem critical_wk (w : World) : Calls Try.prog 25 #[.string ⟨#[73, 68, 65, 84]⟩] w fun e w' => e = .returned (.bool true) ∧ w' = w := by
  go_enter Try.func25, Try.ntmps25
  go_wp2_with fail
  refine (isCapital_any 73 (by omega) w).mono ?_
  rintro e w1 ⟨rfl, rfl⟩
  go_wp2_with fail
  go_ret
  exact ⟨rfl, rfl⟩
end Go.Proofs.Ytjcnjnkcpempoaa
