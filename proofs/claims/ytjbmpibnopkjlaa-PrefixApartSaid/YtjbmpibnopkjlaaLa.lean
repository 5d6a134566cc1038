/- No code begins another one, longer codes come behind shorter ones, and codes of one length rise with their symbols: for every list of lengths. -/
import Derived.Test.YtjbmpibnopkjlaaWk
import Derived.Test.YtjbmpibnopkjlaaCp
import Derived.Deep.CondSized
namespace Go.Proofs.Ytjbmpibnopkjlaa
open Go.ChangeShapes Go.WideShapes Go.ChangeAt Go.RowKit
namespace PrefixApart

/-- What the codes of two symbols that both come are to each other. -/
def apartAll (l : List Int) (i k ci ck : Nat) : Prop :=
  ck < 4294967296 ∧ ci < 4294967296 ∧ (0 < itm l i → 0 < itm l k → (itm l i < itm l k → ci < ck / 2 ^ (itm l k - itm l i).toNat) ∧ (itm l i = itm l k → i < k → ci < ck) ∧ (itm l i = itm l k → k < i → ck < ci))
theorem apart_all (l : List Int) (hg : l.any badLen = false) (hro : 0 ≤ roomOf l) (i k : Nat) (hi : i < l.length) (hk : k < l.length) :
    apartAll l i k ((codesL l)[i]'(by rw [codesL_length]; exact hi)) ((codesL l)[k]'(by rw [codesL_length]; exact hk)) := by
  have hcv : ∀ (j : Nat) (hj : j < l.length), (codesL l)[j]'(by rw [codesL_length]; exact hj) = if 0 < itm l j then codeAt l j else 0 := fun j hj => by
    have h := codesL_get l j hj
    rw [List.getElem?_eq_getElem (by rw [codesL_length]; exact hj), lenAt_get l j hj, ← itm_get l j hj] at h
    exact Option.some.inj h
  have hlt : ∀ (j : Nat) (hj : j < l.length), 0 < itm l j → codeAt l j < 4294967296 := fun j hj h => by
    have h1 := good_len l hg j hj
    rw [← itm_get l j hj] at h1
    have h2 := codeAt_lt (itm l j).toNat j hj (by rw [← itm_get l j hj]; omega) (by omega)
    have h3 := endN_bd l hro (itm l j).toNat (by omega)
    omega
  rw [hcv i hi, hcv k hk]
  refine ⟨?_, ?_, fun h1 h2 => ?_⟩
  · split
    · exact hlt k hk (by assumption)
    · omega
  · split
    · exact hlt i hi (by assumption)
    · omega
  · rw [if_pos h1, if_pos h2]
    have ei : l[i] = ((itm l i).toNat : Int) := by rw [← itm_get l i hi]; omega
    have ek : l[k] = ((itm l k).toNat : Int) := by rw [← itm_get l k hk]; omega
    refine ⟨fun h => ?_, fun h h3 => ?_, fun h h3 => ?_⟩
    · have h4 := code_behind (itm l i).toNat (itm l k).toNat i k hi hk ei ek (by omega) (by omega)
      rwa [show (itm l k - itm l i).toNat = (itm l k).toNat - (itm l i).toNat by omega]
    · exact code_rising (itm l i).toNat i k hk h3 ei (by rw [ek, h]) (by omega)
    · exact code_rising (itm l i).toNat k i hi h3 (by rw [ek, h]) ei (by omega)
theorem shift_of (ci ck i k : Nat) (x y : Int) (_hik : i ≠ k) (hxy : x ≤ y)
    (h : ck < 4294967296 ∧ ci < 4294967296 ∧ (0 < x → 0 < y → (x < y → ci < ck / 2 ^ (y - x).toNat) ∧ (x = y → i < k → ci < ck) ∧ (x = y → k < i → ck < ci))) (hx : 0 < x) (hy : 0 < y) :
    ∃ z : Nat, (ck : Int) / 2 ^ (y - x).toNat = (z : Int) ∧ (x < y → ci < z) ∧ (¬ x < y → i < k → ci < z ∧ ci < ck) ∧ (¬ x < y → k < i → z < ci ∧ ck < ci) := by
  obtain ⟨_, _, h3⟩ := h
  obtain ⟨h4, h5, h6⟩ := h3 hx hy
  refine ⟨ck / 2 ^ (y - x).toNat, by simp, h4, fun hn hik => ?_, fun hn hik => ?_⟩
  · rw [show (y - x).toNat = 0 by omega]
    have := h5 (by omega) hik
    simpa using this
  · rw [show (y - x).toNat = 0 by omega]
    have := h6 (by omega) hik
    simpa using this
set_option maxHeartbeats 4000000 in
set_option maxRecDepth 100000 in
theorem walk (A : Option Addr) (c : Nat) (l : List Int) (w : World) (hbs : Is w w.heap.size A l) (_ : ∀ x ∈ l, -9223372036854775808 ≤ x ∧ x ≤ 9223372036854775807) (hl : l.length ≤ 17592186043904) :
    Calls Try.prog 7 #[.slice A l.length c] w fun e w' => e = .returned (.bool true) ∧ Below w.heap.size w w' := by
  by_cases hlen : 300 < l.length
  · have d0 : decide ((300 : Int) < (l.length : Int)) = true := by simp; omega
    go_enter Try.func7, Try.ntmps7
    go_wp2_with fail
    refine (wakes_any w).mono ?_
    rintro e w1 ⟨rfl, hb1⟩
    go_wp2_with fail
    go_ret
    exact ⟨rfl, hb1⟩
  · have d0 : decide ((300 : Int) < (l.length : Int)) = false := by simp; omega
    go_enter Try.func7, Try.ntmps7
    go_wp2_with fail
    refine (wakes_any w).mono ?_
    rintro e w1 ⟨rfl, hb1⟩
    go_wp2_with fail
    refine (ownI_n A c l.length l rfl _ w1 (Vs.below hbs hb1) hb1.size (by omega)).mono ?_
    rintro e w2 ⟨A2, c2, rfl, o2, hb2⟩
    have hb2' := hb1.trans (hb2.mono hb1.size)
    go_wp2_with fail
    refine (codes_any A2 c2 l w2 (Vs.of_own o2) (by omega)).mono ?_
    rintro e w3 ⟨A3, n3, c3, rfl, o3, hb3⟩
    have hb3' := hb2'.trans (hb3.mono hb2'.size)
    have hn3 := own_len o3
    rw [u32V_length] at hn3
    have v3 : Vs w3 w3.heap.size A3 (u32V (codesAns l)) := Vs.of_own o3
    have hbs3 : Is w3 w3.heap.size A l := Vs.more (Vs.below hbs hb3') hb3'.size
    have HB3 := Lib.hid hb3'
    clear o2 o3 hb1 hb2 hb2' hb3 hb3'
    by_cases h0 : codesErr l = 0
    · rw [h0]
      have hca : codesAns l = codesL l := by unfold codesAns; rw [if_pos h0]
      rw [hca] at v3 hn3
      obtain ⟨hre, hro⟩ := codesErr_zero h0
      obtain ⟨_, hg⟩ := roomErr_zero hre
      rw [codesL_length] at hn3
      subst hn3
      have d1 : ((l.length : Int) != (l.length : Int)) = false := by simp
      have HG := Lib.hid hg
      have HRO := Lib.hid hro
      clear h0 hca hre hro hg
      go_wp2_with fail
      go_loopw [37] (fun i wr => ∃ k : Nat, k ≤ l.length ∧ i = .int .i64 k ∧ ∃ n, wr = w3.drewN n) (fun i _ => l.length - (intOf i).toNat)
      case atStart => exact ⟨0, by omega, rfl, 0, rfl⟩
      case round =>
        obtain ⟨i, hi, rfl, n, rfl⟩ := hrel
        by_cases hil : i < l.length
        · go_wp2_with fail
          go_loopw [42] (fun j wr => ∃ k : Nat, k ≤ l.length ∧ j = .int .i64 k ∧ ∃ n, wr = w3.drewN n) (fun j _ => l.length - (intOf j).toNat)
          case atStart => exact ⟨0, by omega, rfl, n, rfl⟩
          case round =>
            obtain ⟨k, hk, rfl, n2, rfl⟩ := hrel
            by_cases hkl : k < l.length
            · obtain ⟨ad1, rfl, _, hc1⟩ := Is.at_ hbs3 hil
              obtain ⟨ad2, e2, _, hc2⟩ := Is.at_ hbs3 hkl
              injection e2 with e2; subst e2
              obtain ⟨ad3, rfl, hc3⟩ := u32_at v3 i (by rw [codesL_length]; exact hil)
              obtain ⟨ad4, e4, hc4⟩ := u32_at v3 k (by rw [codesL_length]; exact hkl)
              injection e4 with e4; subst e4
              have hil' : i < (codesL l).length := by rw [codesL_length]; exact hil
              have hkl' : k < (codesL l).length := by rw [codesL_length]; exact hkl
              have g1 := good_len l HG.out i hil
              have g2 := good_len l HG.out k hkl
              have HX : Hid (apartAll l i k (codesL l)[i] (codesL l)[k]) := Lib.hid (apart_all l HG.out HRO.out i k hil hkl)
              unfold apartAll at HX
              generalize (codesL l)[i] = ci at *
              generalize (codesL l)[k] = ck at *
              have HI : Hid (l[i] = itm l i) := Lib.hid (itm_get l i hil).symm
              have HK : Hid (l[k] = itm l k) := Lib.hid (itm_get l k hkl).symm
              rw [HI.out] at hc1 g1
              rw [HK.out] at hc2 g2
              generalize itm l i = x at *
              generalize itm l k = y at *
              clear HI HK
              by_cases hik : i = k
              · have e1 : ((i : Int) == (k : Int)) = true := by simp; omega
                clear hik HX
                go_wp2_with fail
                go_quiet (fail)
                go_wp2_with fail
                go_roundw
                case rel => exact ⟨k + 1, by omega, by go_num, _, rfl⟩
                case measure => simp [intOf]; omega
              · have e1 : ((i : Int) == (k : Int)) = false := by simp; omega
                by_cases hx : x = 0
                · have e2 : (x == 0) = true := by simp; omega
                  clear hx hik HX
                  go_wp2_with fail
                  go_quiet (fail)
                  go_wp2_with fail
                  go_roundw
                  case rel => exact ⟨k + 1, by omega, by go_num, _, rfl⟩
                  case measure => simp [intOf]; omega
                · have e2 : (x == 0) = false := by simp; omega
                  by_cases hy : y = 0
                  · have e3 : (y == 0) = true := by simp; omega
                    clear hx hy hik HX
                    go_wp2_with fail
                    go_quiet (fail)
                    go_wp2_with fail
                    go_roundw
                    case rel => exact ⟨k + 1, by omega, by go_num, _, rfl⟩
                    case measure => simp [intOf]; omega
                  · have e3 : (y == 0) = false := by simp; omega
                    by_cases hxy : y < x
                    · have e4 : decide (y < x) = true := by simp; omega
                      clear hx hy hik HX
                      go_wp2_with fail
                      go_quiet (fail)
                      go_wp2_with fail
                      go_roundw
                      case rel => exact ⟨k + 1, by omega, by go_num, _, rfl⟩
                      case measure => simp [intOf]; omega
                    · have e4 : decide (y < x) = false := by simp; omega
                      obtain ⟨z, hz, hz1, hz2, hz3⟩ := shift_of ci ck i k x y hik (by omega) HX.out (by omega) (by omega)
                      clear hx hy HX
                      by_cases hlt : x < y
                      · have f1 : ((z : Int) == (ci : Int)) = false := by simp; omega
                        have f2 : decide (x < y) = true := by simp; omega
                        have f3 : decide (z < ci) = false := by simp; omega
                        have f4 : (x == y) = false := by simp; omega
                        clear hz1 hz2 hz3 hik
                        go_wp2_with fail
                        go_quiet (fail)
                        go_wp2_with fail
                        go_quiet (fail)
                        go_wp2_with fail
                        go_quiet (fail)
                        go_wp2_with fail
                        go_roundw
                        case rel => exact ⟨k + 1, by omega, by go_num, _, rfl⟩
                        case measure => simp [intOf]; omega
                      · have f2 : decide (x < y) = false := by simp; omega
                        have f4 : (x == y) = true := by simp; omega
                        by_cases hk2 : i < k
                        · have f1 : ((z : Int) == (ci : Int)) = false := by simp; omega
                          have f3 : decide ((i : Int) < (k : Int)) = true := by simp; omega
                          have f5 : decide (ck ≤ ci) = false := by simp; omega
                          clear hz1 hz2 hz3 hik
                          go_wp2_with fail
                          go_quiet (fail)
                          go_wp2_with fail
                          go_quiet (fail)
                          go_wp2_with fail
                          go_quiet (fail)
                          go_wp2_with fail
                          go_roundw
                          case rel => exact ⟨k + 1, by omega, by go_num, _, rfl⟩
                          case measure => simp [intOf]; omega
                        · have f1 : ((z : Int) == (ci : Int)) = false := by simp; omega
                          have f3 : decide ((i : Int) < (k : Int)) = false := by simp; omega
                          clear hz1 hz2 hz3 hik
                          go_wp2_with fail
                          go_quiet (fail)
                          go_wp2_with fail
                          go_quiet (fail)
                          go_wp2_with fail
                          go_quiet (fail)
                          go_wp2_with fail
                          go_roundw
                          case rel => exact ⟨k + 1, by omega, by go_num, _, rfl⟩
                          case measure => simp [intOf]; omega
            · go_wp2_with fail
              exact ⟨⟨i + 1, by omega, by go_num, n2, rfl⟩, by simp [intOf]; omega⟩
        · go_wp2_with fail
          go_ret
          exact ⟨rfl, below_drewN HB3.out n⟩
    · have hca : codesAns l = [] := by unfold codesAns; rw [if_neg h0]
      rw [hca] at hn3
      obtain rfl : 0 = n3 := hn3
      have d1 : (codesErr l != 0) = true := by simp [h0]
      clear v3 hca
      generalize codesErr l = ee at *
      go_wp2_with fail
      go_ret
      exact ⟨rfl, HB3.out⟩

set_option maxRecDepth 100000 in
theorem lifted (os : Os) (started : os.Started) (H : Type) (enc : TypeId × Value → H) :
    ReturnsInHanded {} Try.checked os 7 .any (Rows.prefixApartSpec.pre6 enc Try.prog Try.f7 Rows.prefixApartRow.domain false) (Rows.prefixApartSpec.post enc Try.prog Try.f7 false true false false) := by
  refine returnsInHanded_of_change_sized (C := Try.checked) prog_own started (by kernel_rfl) Try.func7
    (ChangeSpec.witness6 (enc := enc) (C := Try.checked) false ⟨#[], #[.slice none 0 0], []⟩ 8 (by kernel_rfl) (by kernel_rfl) (by kernel_rfl) (by kernel_rfl)) ?_
  intro W base args ds gs before hval0 hW hcnd hsz _
  have hval : ∀ (j : Nat) t v, Try.f7.params[j]? = some t → args[j]? = some v → Value.okWide Try.prog W .any base t v := hval0
  have hW' := hW
  obtain ⟨p, q, hA0, hV, rfl, hfz, hnd⟩ := hW
  have hA : DataW.TrodAll enc Try.prog W 0 (fun _ => true) true Try.f7.params.toList args.toList ds p := hA0
  rw [Try.params7] at hA hval
  obtain ⟨v0, vs0, d0, ds0, p0, q0, hargs, rfl, rfl, h0, r0⟩ := trodAll_cons hA
  obtain ⟨rfl, rfl, rfl⟩ := trodAll_nil r0
  obtain rfl : args = #[v0] := by cases args; simp_all
  obtain ⟨rfl, rfl⟩ := trodVars_none hV
  obtain ⟨A0, l0, c0, rfl, hb0, hk0, hd0⟩ := open_numbers (hval 0 22 v0 rfl rfl) h0
  have hl0 : l0.length ≤ 17592186043904 := by
    rcases hd0 with ⟨_, rfl⟩ | ⟨e, s, rfl, hle⟩
    · simp
    · have this : (e.length + s.length) * Try.prog.bytesOf 3 ≤ reachBytes := sized_slice hsz (j := 0) (t := 22) (e := 3) rfl rfl Try.underlying22
      rw [bytes_int] at this
      unfold reachBytes at this
      omega
  have lt0 : ∀ x ∈ p0, x.block < W.heap.size := by obtain ⟨m, hm⟩ := h0; exact DataW.trod_lt m _ _ _ hm
  clear hA0 hval0
  refine (walk A0 c0 l0 W hb0 hk0 hl0).mono fun e W' ⟨he, bel⟩ => ?_
  subst he
  exact ⟨_, rfl, _, _, _, [], _, [], hW', trodAll_mk1 (shut_bool Try.underlying4 _), (trodAll_cons_mk (Below.trod prog_laid (by kernel_rfl) (of_decide_eq_true (by kernel_rfl)) h0 bel lt0) trodAll_mk0), rfl, bel.frame _, fun h => by cases h⟩

theorem over : Rows.prefixApartRow.holds Try.pinned (OpenSpec.ofChange Rows.prefixApartSpec) :=
  OpenClaim.holds_of_wide 7 Try.f7 rfl rfl rfl rfl rfl rfl rfl ⟨rfl, rfl, rfl, rfl, rfl⟩ rfl rfl rfl rfl rfl (by kernel_rfl) Try.func7 (by kernel_rfl)
    (of_decide_eq_true (by kernel_rfl)) (by unfold Func.isWrapper; first | (rw [if_pos (by decide +kernel)]; kernel_rfl) | (rw [if_neg (by decide +kernel)]; exact ⟨rfl, rfl⟩))
    (fun os started H enc _ => lifted os started H enc)
end PrefixApart

theorem prefixApart_holds : Rows.PrefixApartSaid := PrefixApart.over
#print axioms prefixApart_holds
end Go.Proofs.Ytjbmpibnopkjlaa
