/- slices.Repeat of four samples; Fill, the program's. -/
import Derived.Test.YtkfomjdmdgddlaaQh
import Derived.Laws.CopyOwn
import Derived.Shelf.Bits.Mul64
namespace Go.Proofs.Ytkfomjdmdgddlaa
open Go.ChangeShapes Go.WideShapes Go.ChangeAt Go.RowKit

set_option maxHeartbeats 4000000 in
set_option maxRecDepth 100000 in
theorem mul64_any (x y : Nat) (hx : x ≤ 65536) (hy : y ≤ 65536) (hp : x * y ≤ 67108864) (w : World) :
    Calls Try.prog 60 #[.int .u64 (x : Int), .int .u64 (y : Int)] w fun e w' => e = .returned (.tuple #[.int .u64 0, .int .u64 ((x * y : Nat) : Int)]) ∧ w = w' := by
  obtain ⟨z, hz⟩ : ∃ z, x * y = z := ⟨_, rfl⟩
  have hz' : (x : Int) * (y : Int) = (z : Int) := by rw [← hz]; exact (Int.natCast_mul x y).symm
  rw [hz] at hp ⊢
  have HZ := Lib.hid hz'
  clear hz hz'
  have m1 : bits .and .u64 (x : Int) 4294967295 = (x : Int) := by rw [Mul64.maskN x (by omega)]; omega
  have m2 : bits .and .u64 (y : Int) 4294967295 = (y : Int) := by rw [Mul64.maskN y (by omega)]; omega
  have m3 : bits .and .u64 0 4294967295 = 0 := by decide
  have s1 : (x : Int) / 4294967296 = 0 := by omega
  have s2 : (y : Int) / 4294967296 = 0 := by omega
  have s3 : (z : Int) / 4294967296 = 0 := by omega
  have s4 : IntKind.u64.wrap ((x : Int) * (y : Int)) = (z : Int) := by rw [HZ.out, IntKind.wrap_u64]; omega
  have s5 : ((x : Int) * (y : Int)) % 18446744073709551616 = (z : Int) := by rw [HZ.out]; omega
  go_enter Try.func60, Try.ntmps60
  go_wp2_with fail
  go_ret2
  exact ⟨rfl, rfl⟩
set_option maxHeartbeats 4000000 in
theorem mul_any (x y : Nat) (hx : x ≤ 65536) (hy : y ≤ 65536) (hp : x * y ≤ 67108864) (w : World) :
    Calls Try.prog 56 #[.int .u64 (x : Int), .int .u64 (y : Int)] w fun e w' => e = .returned (.tuple #[.int .u64 0, .int .u64 ((x * y : Nat) : Int)]) ∧ w = w' := by
  have HM := Lib.hid (mul64_any x y hx hy hp w)
  clear hp
  generalize x * y = z at *
  go_enter Try.func56, Try.ntmps56
  go_wp2_with fail
  refine HM.out.mono ?_
  rintro e w1 ⟨rfl, rfl⟩
  go_wp2_with fail
  go_ret2
  exact ⟨rfl, rfl⟩
theorem cell_of_heap {w : World} {g : Nat} {cur : List Value} {t : TypeId} (h : w.heap[g]? = some (.cells cur.toArray t (0, 0))) (j : Nat) : w.cell? ⟨g, j, none⟩ = cur[j]? := by
  have := cell_of_row w g j cur.toArray t (0, 0) h
  simpa using this
theorem info_u16_size : (Try.prog.info? 28).map (·.size) = some 1 := by kernel_rfl
/-- Four samples, M times. -/
def fillL (q : List Int) (M : Nat) : List Int := (List.range (4 * M)).map fun j => q.getD (j % 4) 0
theorem fillL_length (q : List Int) (M : Nat) : (fillL q M).length = 4 * M := by simp [fillL]
theorem fillL_succ (q : List Int) (M : Nat) (hq : q.length = 4) : fillL q (M + 1) = fillL q M ++ q := by
  have e : q = [q.getD 0 0, q.getD 1 0, q.getD 2 0, q.getD 3 0] := by
    match q, hq with
    | [a, b, c, d], _ => rfl
  have h0 : (4 * M) % 4 = 0 := by omega
  have h1 : (4 * M + 1) % 4 = 1 := by omega
  have h2 : (4 * M + 2) % 4 = 2 := by omega
  have h3 : (4 * M + 3) % 4 = 3 := by omega
  conv => rhs; rhs; rw [e]
  unfold fillL
  rw [show 4 * (M + 1) = 4 * M + 1 + 1 + 1 + 1 by omega, List.range_succ, List.range_succ, List.range_succ, List.range_succ]
  simp only [List.map_append, List.map_cons, List.map_nil, List.append_assoc, List.cons_append, List.nil_append]
  rw [h0, h1, show 4 * M + 1 + 1 = 4 * M + 2 by omega, show 4 * M + 2 + 1 = 4 * M + 3 by omega, h2, h3]
/-- The block's first p cells are the four samples, again and again. -/
def Filled (w : World) (g C p : Nat) (q : List Int) : Prop := ∃ cur : List Value, w.heap[g]? = some (.cells cur.toArray 28 (0, 0)) ∧ cur.length = C ∧ p % 4 = 0 ∧ ∀ j, j < p → cur[j]? = some (.int .u16 (q.getD (j % 4) 0))
/-- The first k cells of that. -/
def patV (q : List Int) (k : Nat) : List Value := (List.range k).map fun j => .int .u16 (q.getD (j % 4) 0)
theorem patV_length (q : List Int) (k : Nat) : (patV q k).length = k := by simp [patV]
theorem patV_get (q : List Int) (k j : Nat) (h : j < k) : (patV q k)[j]? = some (.int .u16 (q.getD (j % 4) 0)) := by simp [patV, h]
theorem patV_one (q : List Int) (k : Nat) : ∀ v ∈ patV q k, v.oneCell' = true := by
  intro v hv
  obtain ⟨j, _, rfl⟩ := List.mem_map.1 hv
  rfl
theorem Filled.more {w' : World} {g C p k : Nat} {q : List Int} {cur : List Value} (hc : cur.length = C) (h4 : p % 4 = 0) (hk4 : (p + k) % 4 = 0) (hp : ∀ j, j < p → cur[j]? = some (.int .u16 (q.getD (j % 4) 0))) (hpk : p + k ≤ C) (h : w'.heap[g]? = some (.cells (splice cur p (patV q k)).toArray 28 (0, 0))) : Filled w' g C (p + k) q := by
  refine ⟨_, h, by rw [length_splice _ _ _ (by rw [patV_length]; omega)]; exact hc, hk4, fun j hj => ?_⟩
  unfold splice
  by_cases h1 : j < p
  · rw [List.getElem?_append_left (by rw [List.length_take]; omega), List.getElem?_take_of_lt h1]
    exact hp j h1
  · rw [List.getElem?_append_right (by rw [List.length_take]; omega), List.length_take, List.getElem?_append_left (by rw [patV_length]; omega)]
    rw [Nat.min_eq_left (by omega), patV_get q k (j - p) (by omega), show (j - p) % 4 = j % 4 by omega]
theorem Filled.own {w w' : World} {C : Nat} {q : List Int} {M : Nat} (h : Filled w' w.heap.size C (4 * M) q) (hC : C = 4 * M) (hm : C ≤ maxLen) : w'.ownsRow w.heap.size 28 1 (.slice (some ⟨w.heap.size, 0, none⟩) (4 * M) (4 * M)) (4 * M) (usV (fillL q M)) := by
  obtain ⟨cur, hg, hl, _, hc⟩ := h
  have e : cur = usV (fillL q M) := by
    apply List.ext_getElem?
    intro j
    by_cases hj : j < 4 * M
    · rw [hc j hj]
      simp [usV, fillL, hj]
    · rw [List.getElem?_eq_none (by omega), List.getElem?_eq_none (by rw [usV_length, fillL_length]; omega)]
  rw [e] at hg
  exact ⟨by rw [usV_length, fillL_length]; omega, .inr ⟨_, 4 * M, _, rfl, Nat.le_refl _, hg, Nat.le_refl _, by omega, by simp [usV_length, fillL_length], by rw [List.take_of_length_le (by simp [usV_length, fillL_length])]⟩⟩
set_option maxHeartbeats 4000000 in
set_option maxRecDepth 100000 in
theorem repeat_any (w : World) (A : Option Addr) (c M : Nat) (q : List Int) (hq : q.length = 4) (h : Us w w.heap.size A q) (h1 : 1 ≤ M) (h2 : M ≤ 65536) : Calls Try.prog 42 #[.slice A 4 c, .int .i64 (M : Int)] w fun e w' =>
    e = .returned (.slice (some ⟨w.heap.size, 0, none⟩) (4 * M) (4 * M)) ∧ w'.ownsRow w.heap.size 28 1 (.slice (some ⟨w.heap.size, 0, none⟩) (4 * M) (4 * M)) (4 * M) (usV (fillL q M)) ∧ Below w.heap.size w w' := by
  obtain ⟨i0, hi, hz0, hz1, hz2⟩ := info_parts info_u16
  have HMl := Lib.hid (mul_any 4 M (by omega) (by omega) (by omega) w)
  obtain ⟨N, hN⟩ : ∃ N, 4 * M = N := ⟨_, rfl⟩
  have HN := Lib.hid hN
  rw [hN] at HMl
  have hN4 : 4 ≤ N := by omega
  have hNm : N ≤ 262144 := by omega
  have HV := Lib.hid h
  have HQ := Lib.hid hq
  clear h hq
  go_enter Try.func42, Try.ntmps42
  clear hN
  go_wp2_with fail
  refine HMl.out.mono ?_
  rintro e w1 ⟨rfl, rfl⟩
  clear HMl
  go_wp2_with (first
    | (at_make
       refine wpList_make_full _ rfl (.tmp 29) (.tmp 29) 22 rfl w.heap.size 28 i0 (.int .u16 0) 1 Try.underlying22 hi hz0 hz1 .i64 .i64 N N N rfl rfl rfl rfl (by rw [hz2]; omega) (by unfold maxLen; omega) (Nat.le_refl _) ?_
       intro w1 hown1 hg1
       obtain ⟨cur1, hcur1, hlen1⟩ := own_block hown1
       have hb1 := (Below.refl w.heap.size w).grown hg1 (Nat.le_refl _) (by simp)
       have HW1 := Lib.hid hb1
       have HG1 := Lib.hid hcur1
       have HSR : Hid (0 < (usV q).length → ∃ ad, A = some ad ∧ ∀ j v, (usV q)[j]? = some v → w1.cell? (ad.add j) = some v) := Lib.hid (fun hp => by
         obtain ⟨ad, e, _, hc⟩ := (Vs.below HV.out hb1) hp
         refine ⟨ad, e, fun j v hv => ?_⟩
         obtain ⟨hj, hv⟩ := List.getElem?_eq_some_iff.1 hv
         rw [hc j hj, hv])
       have HLB : Hid ((usV q).length = Nat.min 4 N) := Lib.hid (by rw [usV_length, HQ.out]; exact (Nat.min_eq_left hN4).symm)
       have hfit : 0 + (usV q).length ≤ cur1.length := by rw [usV_length, HQ.out, hlen1]; omega
       have HP4 : Hid (usV q = patV q 4) := Lib.hid (by
         have := HQ.out
         match q, this with
         | [a, b, c, d], _ => rfl)
       have HL1 := Lib.hid hlen1
       clear hown1 hg1 hcur1 hb1 hlen1)
    | (with_reducible refine wpList_copy_splice rfl (.tmp 31) (.tmp 32) 22 22 rfl 28 Try.underlying22 info_u16_size _ A N N 4 c rfl rfl w.heap.size 0 cur1 28 HG1.out (usV q) HLB.out (fun hp => ⟨rfl, HSR.out hp⟩) hfit (usV_one q) w.heap.size w HW1.out (Nat.le_refl _) ?_; intro w2 hg2 hb2; have HB2 := Lib.hid hb2; clear hb2; have HF2 := Lib.hid (Filled.more (C := N) (p := 0) (k := 4) (q := q) (cur := cur1) HL1.out (by omega) (by omega) (fun j hj => by omega) (by omega) (by rw [← HP4.out]; exact hg2.out)); clear hg2; rw [usV_length, HQ.out]))
  go_wp2_with fail
  go_loopw [8] (fun bp wr => ∃ p : Nat, 1 ≤ p ∧ p ≤ N ∧ bp = .int .i64 (p : Int) ∧ Hid (Filled wr w.heap.size N p q) ∧ Hid (Below w.heap.size w wr)) (fun bp _ => N - (intOf bp).toNat)
  case atStart => exact ⟨4, by omega, by omega, rfl, HF2, HB2⟩
  case round =>
    obtain ⟨p, hp1, hp2, rfl, HF, HBl⟩ := hrel
    by_cases hlt : p < N
    · obtain ⟨cur, hg, hcl, hp4, hcp⟩ := HF.out
      have HG := Lib.hid hg
      obtain ⟨k, hk⟩ : ∃ k, k = Nat.min p (N - p) := ⟨_, rfl⟩
      have hk1 : k ≤ p ∧ k ≤ N - p ∧ 1 ≤ k ∧ (p + k) % 4 = 0 := by
        have := HN.out
        rw [hk]
        have e : Nat.min p (N - p) = N - p ∨ Nat.min p (N - p) = p := by
          rcases Nat.le_total (N - p) p with h | h
          · exact .inl (Nat.min_eq_right h)
          · exact .inr (Nat.min_eq_left h)
        have g1 : Nat.min p (N - p) ≤ N - p := Nat.min_le_right _ _
        have g2 : Nat.min p (N - p) ≤ p := Nat.min_le_left _ _
        refine ⟨g2, g1, ?_, ?_⟩
        · rcases e with e | e <;> rw [e] <;> omega
        · rcases e with e | e <;> rw [e] <;> omega
      have HKD := Lib.hid hk
      have HFM := Lib.hid (fun (w' : World) (h : Hid (w'.heap[w.heap.size]? = some (.cells (splice cur p (patV q k)).toArray 28 (0, 0)))) => Filled.more (C := N) hcl hp4 hk1.2.2.2 hcp (by omega) h.out)
      have HPO : Hid (0 < (patV q k).length → ∀ j v, (patV q k)[j]? = some v → wr.drew.cell? ((⟨w.heap.size, 0, none⟩ : Addr).add j) = some v) := Lib.hid (fun _ j v hv => by
        have hj : j < k := by have := (List.getElem?_eq_some_iff.1 hv).1; rwa [patV_length] at this
        rw [patV_get q k j hj] at hv
        rw [add_off, Nat.zero_add, ← hv]
        exact (cell_of_heap hg j).trans (hcp j (by omega)))
      have HLN : Hid ((patV q k).length = Nat.min p (N - p)) := Lib.hid (by rw [patV_length]; exact hk)
      have hft : p + (patV q k).length ≤ cur.length := by rw [patV_length]; omega
      have HBd := Lib.hid (HBl.out.drew)
      have hpn : ¬ N = p := by omega
      have hk2 := hk1.1; have hk3 := hk1.2.1; have hk4 := hk1.2.2.1
      have s1 : IntKind.i64.wrap ((p : Int) + (k : Int)) = (p : Int) + (k : Int) := IntWalk.i64_in _ (by omega)
      have HLK := Lib.hid (patV_length q k)
      clear hg hcl hcp hk hk1 hp4 HF
      go_wp2_with fail
      go_region_law (refine step_copy_splice rfl (.tmp 41) (.tmp 44) 22 22 rfl 28 Try.underlying22 info_u16_size (some ⟨w.heap.size, p, none⟩) (some ⟨w.heap.size, 0, none⟩) (N - p) (N - p) p N (by go_simp) (by go_simp) w.heap.size p cur 28 HG.out (patV q k) HLN.out (fun hp => ⟨rfl, _, rfl, HPO.out hp⟩) hft (patV_one q k) w.heap.size w HBd.out (Nat.le_refl _) ?_; intro w3 hg3 hb3; rw [HLK.out])
      all_goals
        have HF3 := Lib.hid (HFM.out w3 hg3)
        have HB3 := Lib.hid hb3
        clear s1 hg3 hb3
        go_wp2_with fail
        simp only [List.getElem_toArray, List.getElem_cons_succ, List.getElem_cons_zero, Act.put, List.setIfInBounds_toArray, List.set_cons_succ, List.set_cons_zero]
        go_roundw
        case rel => exact ⟨p + k, by omega, by omega, by go_num, HF3, HB3⟩
        case measure => simp [intOf]; omega
    · obtain rfl : p = N := by omega
      have hnn := HN.out
      subst hnn
      have HOW := Lib.hid (HF.out.own rfl (by unfold maxLen; omega))
      clear HN
      go_wp2_with fail
      go_ret
      exact ⟨rfl, HOW.out, HBl.out⟩
end Go.Proofs.Ytkfomjdmdgddlaa
