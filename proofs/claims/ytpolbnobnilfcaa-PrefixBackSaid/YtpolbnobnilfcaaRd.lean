/- Contracts: lists of numbers compared; the document's fault of Build. -/
import Derived.Test.YtpolbnobnilfcaaRc
namespace Go.Proofs.Ytpolbnobnilfcaa
open Go.ChangeShapes Go.WideShapes Go.ChangeAt Go.RowKit

theorem ret_bl {a b : Bool} (h : a = b) : Ending.returned (.bool a) = .returned (.bool b) := by rw [h]
theorem ret_nm {a b : Int} (h : a = b) : Ending.returned (.int .i64 a) = .returned (.int .i64 b) := by rw [h]
theorem take_eq_nextI (a b : List Int) (k : Nat) (h : a.take k = b.take k) (ha : k < a.length) (hb : k < b.length) (e : a[k] = b[k]) : a.take (k + 1) = b.take (k + 1) := by
  rw [List.take_succ_eq_append_getElem ha, List.take_succ_eq_append_getElem hb, h, e]

set_option maxHeartbeats 400000 in
theorem sameInts_n (A1 A2 : Option Addr) (n1 n2 c1 c2 : Nat) (a b : List Int) (hn1 : a.length = n1) (hn2 : b.length = n2) (B : Nat) (w : World) (h1 : Is w B A1 a) (h2 : Is w B A2 b) (hl : n1 ≤ maxLen) :
    Calls Try.prog 29 #[.slice A1 n1 c1, .slice A2 n2 c2] w fun e w' => e = .returned (.bool (a == b)) ∧ ∃ n, w' = w.drewN n := by
  subst hn1 hn2
  unfold maxLen at hl
  by_cases hlen : a.length = b.length
  · have hne : ((a.length : Int) != b.length) = false := by simp [hlen]
    have H := Lib.hid hlen; clear hlen
    go_enter Try.func29, Try.ntmps29
    go_wp2_with fail
    go_loopw [5] (fun i wr => ∃ k : Nat, k ≤ a.length ∧ i = .int .i64 k ∧ a.take k = b.take k ∧ ∃ n, wr = w.drewN n) (fun i _ => a.length - (intOf i).toNat)
    case atStart => exact ⟨0, by omega, rfl, by simp, 0, rfl⟩
    case round =>
      obtain ⟨k, hk, rfl, hE, n, rfl⟩ := hrel
      have HE := Lib.hid hE; clear hE
      by_cases hlt : k < a.length
      · have hb : k < b.length := by have := H.out; omega
        obtain ⟨ad1, rfl, _, hc1⟩ := h1.at_ hlt
        obtain ⟨ad2, rfl, _, hc2⟩ := h2.at_ hb
        have HN := Lib.hid (take_eq_nextI a b k HE.out hlt hb)
        have HD : Hid (a[k] ≠ b[k] → a ≠ b) := Lib.hid fun h e => by subst e; exact h rfl
        generalize a[k] = x at *
        generalize b[k] = y at *
        by_cases hxy : x = y
        · have d1 : (x != y) = false := by simp [hxy]
          have HXY := Lib.hid hxy; clear hxy
          go_wp2_with fail
          go_quiet (fail)
          go_wp2_with fail
          go_roundw
          case rel => exact ⟨k + 1, by omega, by go_num, HN.out HXY.out, n + nq, rfl⟩
          case measure => simp [intOf]; omega
        · have d1 : (x != y) = true := by simp [hxy]
          have HXY := Lib.hid hxy; clear hxy
          go_wp2_with fail
          go_quiet (fail)
          go_wp2_with fail
          go_ret
          exact ⟨ret_bl (by simp [HD.out HXY.out]), n + nq, by simp⟩
      · go_wp2_with fail
        go_ret
        have h0 : k = a.length := by omega
        subst h0
        have h3 := HE.out
        rw [List.take_length, H.out, List.take_length] at h3
        exact ⟨ret_bl (by simp [h3]), n, rfl⟩
  · have hne : ((a.length : Int) != b.length) = true := by simp; omega
    have H : Hid (a ≠ b) := Lib.hid (fun e => hlen (by rw [e]))
    clear hlen
    go_enter Try.func29, Try.ntmps29
    go_wp2_with fail
    go_ret
    have h3 := H.out
    exact ⟨ret_bl (by simp [h3]), 0, rfl⟩

def badCount (x : Int) : Bool := decide (x < 0) || decide (1073741824 < x)
def posN (l : List Int) : Nat := l.countP fun x => decide (0 < x)
/-- The error that Build answers. -/
def buildErr (l : List Int) (most : Int) : Int := if 4096 < l.length then 3 else if most < 1 ∨ 16 < most then 2 else if l.any badCount then 2 else if 2 ^ most.toNat < posN l then 31 else 0
theorem buildErr_long {l : List Int} {most : Int} (h : 4096 < l.length) : buildErr l most = 3 := if_pos h
theorem buildErr_most {l : List Int} {most : Int} (h : ¬ 4096 < l.length) (h2 : most < 1 ∨ 16 < most) : buildErr l most = 2 := by unfold buildErr; rw [if_neg h, if_pos h2]
theorem buildErr_count {l : List Int} {most : Int} (h : ¬ 4096 < l.length) (h2 : ¬ (most < 1 ∨ 16 < most)) (h3 : l.any badCount = true) : buildErr l most = 2 := by unfold buildErr; rw [if_neg h, if_neg h2, if_pos h3]
theorem buildErr_many {l : List Int} {most : Int} (h : ¬ 4096 < l.length) (h2 : ¬ (most < 1 ∨ 16 < most)) (h3 : l.any badCount = false) (h4 : 2 ^ most.toNat < posN l) : buildErr l most = 31 := by unfold buildErr; rw [if_neg h, if_neg h2, h3, if_neg (by decide), if_pos h4]
theorem buildErr_ok {l : List Int} {most : Int} (h : ¬ 4096 < l.length) (h2 : ¬ (most < 1 ∨ 16 < most)) (h3 : l.any badCount = false) (h4 : ¬ 2 ^ most.toNat < posN l) : buildErr l most = 0 := by unfold buildErr; rw [if_neg h, if_neg h2, h3, if_neg (by decide), if_neg h4]
theorem posN_succ (l : List Int) (k : Nat) (h : k < l.length) : posN (l.take (k + 1)) = posN (l.take k) + if 0 < l[k] then 1 else 0 := by
  unfold posN
  rw [List.take_succ_eq_append_getElem h, List.countP_append]
  simp [List.countP_cons]
theorem posN_le (l : List Int) (k : Nat) : posN (l.take k) ≤ k := by
  have h1 := List.countP_le_length (p := fun x : Int => decide (0 < x)) (l := l.take k)
  have h2 := List.length_take_le k l
  unfold posN; omega
theorem anyC_take (l : List Int) (k : Nat) (hk : k < l.length) (h : (l.take k).any badCount = false) (hb : badCount l[k] = false) : (l.take (k + 1)).any badCount = false := by
  rw [List.take_succ_eq_append_getElem hk, List.any_append, h]
  simp [hb]
theorem anyC_at (l : List Int) (k : Nat) (hk : k < l.length) (hb : badCount l[k] = true) : l.any badCount = true := List.any_eq_true.mpr ⟨_, List.getElem_mem hk, hb⟩
theorem two_pow_i (m : Int) (h1 : 1 ≤ m) (h2 : m ≤ 16) : ∃ q : Nat, q = 2 ^ m.toNat ∧ q ≤ 65536 ∧ wrap64 (2 ^ m.toNat) = (q : Int) := by
  refine ⟨2 ^ m.toNat, rfl, Nat.pow_le_pow_right (n := 2) (by omega) (show m.toNat ≤ 16 by omega), ?_⟩
  have e : ((2 : Int) ^ m.toNat) = ((2 ^ m.toNat : Nat) : Int) := by simp
  have h : 2 ^ m.toNat ≤ 65536 := Nat.pow_le_pow_right (n := 2) (by omega) (show m.toNat ≤ 16 by omega)
  rw [e]
  generalize 2 ^ m.toNat = q at h
  exact IntWalk.wrap64_in _ (by omega)

set_option maxHeartbeats 1000000 in
theorem refBad_any (A : Option Addr) (c : Nat) (l : List Int) (most : Int) (B : Nat) (w : World) (hbs : Is w B A l) (hl : l.length ≤ maxLen) (_hmi : -9223372036854775808 ≤ most ∧ most ≤ 9223372036854775807) :
    Calls Try.prog 23 #[.slice A l.length c, .int .i64 most] w fun e w' => e = .returned (.int .i64 (buildErr l most)) ∧ w = w' := by
  unfold maxLen at hl
  by_cases h4 : 4096 < l.length
  · have HE := Lib.hid (buildErr_long (most := most) h4)
    have d1 : decide ((4096 : Int) < l.length) = true := by simp; omega
    go_enter Try.func23, Try.ntmps23
    go_wp2_with fail
    go_ret
    exact ⟨ret_nm HE.out.symm, rfl⟩
  · have d1 : decide ((4096 : Int) < l.length) = false := by simp; omega
    by_cases hm : most < 1 ∨ 16 < most
    · have HE := Lib.hid (buildErr_most h4 hm)
      by_cases hm1 : most < 1
      · have d2 : decide (most < 1) = true := by simp; omega
        clear hm
        go_enter Try.func23, Try.ntmps23
        go_wp2_with fail
        go_ret
        exact ⟨ret_nm HE.out.symm, rfl⟩
      · have d2 : decide (most < 1) = false := by simp; omega
        have d3 : decide (16 < most) = true := by simp; omega
        clear hm
        go_enter Try.func23, Try.ntmps23
        go_wp2_with fail
        go_ret
        exact ⟨ret_nm HE.out.symm, rfl⟩
    · have d2 : decide (most < 1) = false := by simp; omega
      have d3 : decide (16 < most) = false := by simp; omega
      have hm1 : 1 ≤ most := by omega
      have hm2 : most ≤ 16 := by omega
      have HM := Lib.hid hm; clear hm
      go_enter Try.func23, Try.ntmps23
      go_wp2_with fail
      go_loop [5, 6] (fun n i => ∃ k : Nat, k ≤ l.length ∧ i = .int .i64 k ∧ n = .int .i64 ((posN (l.take k) : Nat) : Int) ∧ (l.take k).any badCount = false) (fun _ i => l.length - (intOf i).toNat)
      case atStart => exact ⟨0, by omega, rfl, by simp [posN], by simp⟩
      case round =>
        obtain ⟨k, hk, rfl, rfl, hg⟩ := hrel
        have HG := Lib.hid hg; clear hg
        have hpn := posN_le l k
        by_cases hlt : k < l.length
        · obtain ⟨ad, rfl, _, hcb⟩ := hbs.at_ hlt
          have HT := Lib.hid (posN_succ l k hlt)
          have HA := Lib.hid (anyC_take l k hlt HG.out)
          have HB := Lib.hid (anyC_at l k hlt)
          generalize l[k] = x at *
          generalize hp : posN (l.take k) = p at *
          have HP := Lib.hid hp; clear hp
          by_cases hx : x < 0 ∨ 1073741824 < x
          · have HE := Lib.hid (buildErr_count (by omega) HM.out (HB.out (by unfold badCount; simp; omega)))
            by_cases hx0 : x < 0
            · have e1 : decide (x < 0) = true := by simp; omega
              clear hx
              go_wp2_with fail
              go_ret
              exact ⟨ret_nm HE.out.symm, rfl⟩
            · have e1 : decide (x < 0) = false := by simp; omega
              have e2 : decide (1073741824 < x) = true := by simp; omega
              clear hx
              go_wp2_with fail
              go_ret
              exact ⟨ret_nm HE.out.symm, rfl⟩
          · have e1 : decide (x < 0) = false := by simp; omega
            have e2 : decide (1073741824 < x) = false := by simp; omega
            have HA2 := Lib.hid (HA.out (by unfold badCount; rw [e1, e2]; rfl))
            by_cases hx0 : 0 < x
            · have e3 : decide (0 < x) = true := by simp; omega
              have HX0 := Lib.hid hx0; clear hx hx0
              go_wp2_with fail
              go_round
              case rel => exact ⟨k + 1, by omega, by go_num, by rw [HT.out, if_pos HX0.out]; go_num, HA2.out⟩
              case measure => simp [intOf]; omega
            · have e3 : decide (0 < x) = false := by simp; omega
              have HX0 := Lib.hid hx0; clear hx hx0
              go_wp2_with fail
              go_round
              case rel => exact ⟨k + 1, by omega, by go_num, by rw [HT.out, if_neg HX0.out]; rfl, HA2.out⟩
              case measure => simp [intOf]; omega
        · have hkn : k = l.length := by omega
          subst hkn
          obtain ⟨q, hq, hq2, hw⟩ := two_pow_i most hm1 hm2
          have HG2 : Hid (l.any badCount = false) := Lib.hid (by have := HG.out; rwa [List.take_length] at this)
          rw [List.take_length] at hpn ⊢
          have HM1 := Lib.hid fun h => buildErr_many (most := most) h4 HM.out HG2.out h
          have HM2 := Lib.hid fun h => buildErr_ok (most := most) h4 HM.out HG2.out h
          rw [← hq] at HM1 HM2
          generalize posN l = p at *
          clear hq
          by_cases hpq : q < p
          · have e1 : decide (((q : Nat) : Int) < (p : Int)) = true := by simp; omega
            have HE := Lib.hid (HM1.out hpq)
            go_wp2_with fail
            go_ret
            exact ⟨ret_nm HE.out.symm, rfl⟩
          · have e1 : decide (((q : Nat) : Int) < (p : Int)) = false := by simp; omega
            have HE := Lib.hid (HM2.out hpq)
            go_wp2_with fail
            go_ret
            exact ⟨ret_nm HE.out.symm, rfl⟩
end Go.Proofs.Ytpolbnobnilfcaa
