/- Contracts of the stream's length and distance. -/
import Derived.Test.YthbdhpciibjnmaaIb
namespace Go.Proofs.Ythbdhpciibjnmaa
open Go.ChangeShapes Go.WideShapes Go.ChangeAt Go.RowKit

theorem nextFrom_sym (l : List Int) (f : Nat → Bool) (av : Nat) : ∀ r n v, (nextFrom l f av n v r).2.2 = 0 → (nextFrom l f av n v r).2.1 < l.length ∧ n < (nextFrom l f av n v r).1 ∧ (nextFrom l f av n v r).1 ≤ av := by
  intro r
  induction r with
  | zero => intro n v h; simp [nextFrom] at h
  | succ r ih =>
    intro n v
    unfold nextFrom
    by_cases h1 : av ≤ n
    · rw [if_pos h1]; intro h; simp at h
    · rw [if_neg h1]
      by_cases h2 : 2 * endN l n ≤ 2 * v + (f n).toNat ∧ 2 * v + (f n).toNat < endN l (n + 1)
      · rw [if_pos h2]
        intro _
        refine ⟨?_, by simp, by simp; omega⟩
        have e : endN l (n + 1) = 2 * endN l n + cntN l (n + 1) := by
          have := endN_pred l (n + 1) (by omega)
          rw [Nat.add_sub_cancel] at this
          exact this
        have hlt : 2 * v + (f n).toNat - 2 * endN l n < (syms l (n + 1)).length := by rw [syms_length]; omega
        show (syms l (n + 1)).getD _ 0 < _
        rw [List.getD, List.getElem?_eq_getElem hlt, Option.getD_some]
        have hm : ∀ x ∈ syms l (n + 1), x < l.length := fun x hx => by
          unfold syms symsBelow at hx
          simpa using (List.mem_filter.mp hx).1
        exact hm _ (List.getElem_mem hlt)
      · rw [if_neg h2]
        by_cases h3 : moreB l (n + 1) (2 * v + (f n).toNat) = true
        · rw [if_pos h3]
          intro h
          obtain ⟨a, b, c⟩ := ih _ _ h
          exact ⟨a, by omega, c⟩
        · rw [if_neg h3]; intro h; simp at h
/-- A symbol that is read is one of the code's; at least a bit was taken, and no more than are there. -/
theorem nextM_ok {b : List UInt8} {l : List Int} {p v q : Nat} (h : nextM b l p = .ok (v, q)) : v < l.length ∧ p < q ∧ q ≤ 8 * b.length := by
  unfold nextM at h
  split at h
  · rename_i h0
    injection h with h
    injection h with h1 h2
    unfold nextOf at h0 h1 h2
    split at h0
    · rename_i ha
      rw [if_pos ha] at h1 h2
      obtain ⟨a, b, c⟩ := nextFrom_sym _ _ _ _ _ _ h0
      rw [h1] at a
      omega
    · simp at h0
  · cases h
theorem takeM_ok {b : List UInt8} {p n v q : Nat} (h : takeM b p n = .ok (v, q)) : v < 2 ^ n ∧ q = p + n ∧ q ≤ 8 * b.length := by
  unfold takeM at h
  split at h
  · injection h with h
    injection h with h1 h2
    have := numAt_lt b p n
    rw [h1] at this
    exact ⟨this, h2.symm, by omega⟩
  · cases h
theorem steppedM_ok {b : List UInt8} {k g p v q : Nat} (h : steppedM b k g p = .ok (v, q)) (hg : 2 ≤ g) (hg4 : g ≤ 4) (hk : k ≤ 31) (hp : p ≤ 8 * b.length) : v < 7 * 32768 + 32768 ∧ p ≤ q ∧ q ≤ 8 * b.length := by
  unfold steppedM at h
  split at h
  · injection h with h
    injection h with h1 h2
    omega
  · split at h
    · cases h
    · rename_i x q' hx
      injection h with h
      injection h with h1 h2
      obtain ⟨a, b', c⟩ := takeM_ok hx
      have hm : k / g - 1 ≤ 15 := by
        have h1 : k / g ≤ k / 2 := Nat.div_le_div_left hg (by omega)
        omega
      have e1 : 2 ^ (k / g - 1) ≤ 2 ^ 15 := Nat.pow_le_pow_right (by omega) hm
      have e2 : g + k % g ≤ 7 := by
        have := Nat.mod_lt k (show 0 < g by omega)
        omega
      have e3 : (g + k % g) * 2 ^ (k / g - 1) ≤ 7 * 2 ^ 15 := Nat.mul_le_mul e2 e1
      omega
section
variable (w : World) (B gs gr : Nat) (A : Option Addr) (c : Nat) (b : List UInt8) (most p : Nat) (Ao : Option Addr) (co : Nat) (out : List UInt8) (fx : Option Addr)
theorem length_num (h : Str w B gs gr A c b most p Ao co out fx) (v : Nat) (h1 : 257 ≤ v) (h2 : v ≤ 287) :
    Calls Try.prog 57 #[.pointer (some ⟨gs, 0, none⟩), .int .i64 (v : Int)] w (Num w B gs gr A c b most Ao co out fx (lengthM b v p)) := by
  unfold lengthM
  by_cases c1 : 285 < v
  · rw [if_pos c1]
    have d1 : decide ((285 : Int) < (v : Int)) = true := by simp; omega
    go_enter Try.func57, Try.ntmps57
    go_wp2_with fail
    exact ⟨rfl, rfl, Left.refl _ _⟩
  · rw [if_neg c1]
    have d1 : decide ((285 : Int) < (v : Int)) = false := by simp; omega
    by_cases c2 : v = 285
    · rw [if_pos c2]
      subst c2
      clear c1 d1
      go_enter Try.func57, Try.ntmps57
      go_wp2_with fail
      go_ret
      exact ⟨rfl, h, Left.refl _ _⟩
    · rw [if_neg c2]
      have d2 : ((v : Int) == 285) = false := by simp; omega
      obtain ⟨k, hk⟩ : ∃ k, v - 257 = k := ⟨_, rfl⟩
      have hk2 : (v : Int) - 257 = (k : Int) := by omega
      have HT := Lib.hid (stepped_num w B gs gr A c b most p Ao co out fx h k 4 (by omega) (by omega) (by omega))
      rw [hk]
      have hpp := h.rdr.2.2.2.1
      rcases hx : steppedM b k 4 p with ke | ⟨z, q⟩
      · rw [hx] at HT
        show Calls _ _ _ _ (Num w B gs gr A c b most Ao co out fx (.error ke))
        clear hx hk c1 c2
        go_enter Try.func57, Try.ntmps57
        go_wp2_with fail
        refine HT.out.mono ?_
        rintro e w1 ⟨rfl, hl⟩
        exact ⟨rfl, rfl, hl⟩
      · rw [hx] at HT
        show Calls _ _ _ _ (Num w B gs gr A c b most Ao co out fx (.ok (3 + z, q)))
        have hz := (steppedM_ok hx (by omega) (by omega) (by omega) hpp).1
        clear hx hk c1 c2
        go_enter Try.func57, Try.ntmps57
        go_wp2_with fail
        refine HT.out.mono ?_
        rintro e w1 ⟨rfl, hs, hl⟩
        go_wp2_with fail
        go_ret
        exact ⟨ret_nm (by omega), hs, hl⟩
theorem dist_num (h : Str w B gs gr A c b most p Ao co out fx) (bd gd : Nat) (l : List Int) (hD : DecAt w bd gd l) (hg : l.any badLen = false) (hl : l.length ≤ 30) (hro : 0 ≤ roomOf l) :
    Calls Try.prog 59 #[.pointer (some ⟨gs, 0, none⟩), .pointer (some ⟨gd, 0, none⟩)] w (Num w B gs gr A c b most Ao co out fx (distM b l p)) := by
  have HN := Lib.hid (next_num w B gs gr A c b most p Ao co out fx h bd gd l hD hg (by omega) hro)
  clear hD hg hro
  unfold distM
  rcases hx : nextM b l p with ke | ⟨d, q⟩
  · rw [hx] at HN
    show Calls _ _ _ _ (Num w B gs gr A c b most Ao co out fx (.error ke))
    clear hx
    go_enter Try.func59, Try.ntmps59
    go_wp2_with fail
    refine HN.out.mono ?_
    rintro e w1 ⟨rfl, hl⟩
    exact ⟨rfl, rfl, hl⟩
  · rw [hx] at HN
    show Calls _ _ _ _ (Num w B gs gr A c b most Ao co out fx (match steppedM b d 2 q with | .error e => .error e | .ok (x, q) => .ok (1 + x, q)))
    obtain ⟨hd, _, hq⟩ := nextM_ok hx
    clear hx
    rcases hx : steppedM b d 2 q with ke | ⟨z, q2⟩
    · show Calls _ _ _ _ (Num w B gs gr A c b most Ao co out fx (.error ke))
      have HX := Lib.hid hx; clear hx
      go_enter Try.func59, Try.ntmps59
      go_wp2_with fail
      refine HN.out.mono ?_
      rintro e w1 ⟨rfl, hs, hl⟩
      have HT := Lib.hid (stepped_num w1 B gs gr A c b most q Ao co out fx hs d 2 (by omega) (by omega) (by omega))
      rw [HX.out] at HT
      have HL := Lib.hid hl
      clear hl hs
      go_wp2_with fail
      refine HT.out.mono ?_
      rintro e w2 ⟨rfl, hl2⟩
      exact ⟨rfl, rfl, HL.out.trans hl2⟩
    · show Calls _ _ _ _ (Num w B gs gr A c b most Ao co out fx (.ok (1 + z, q2)))
      have hz := (steppedM_ok hx (by omega) (by omega) (by omega) hq).1
      have HX := Lib.hid hx; clear hx
      go_enter Try.func59, Try.ntmps59
      go_wp2_with fail
      refine HN.out.mono ?_
      rintro e w1 ⟨rfl, hs, hl⟩
      have HT := Lib.hid (stepped_num w1 B gs gr A c b most q Ao co out fx hs d 2 (by omega) (by omega) (by omega))
      rw [HX.out] at HT
      have HL := Lib.hid hl
      clear hl hs
      go_wp2_with fail
      refine HT.out.mono ?_
      rintro e w2 ⟨rfl, hs2, hl2⟩
      go_wp2_with fail
      go_ret
      exact ⟨ret_nm (by omega), hs2, HL.out.trans hl2⟩
end
end Go.Proofs.Ythbdhpciibjnmaa
