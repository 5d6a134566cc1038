/- bytes.Repeat, as far as runs ask for it. -/
import Derived.Test.YthnfnfaiicfenaaUa
import Derived.Test.YthnfnfaiicfenaaVs
import Derived.Test.YthnfnfaiicfenaaCo
import Derived.Laws.CopyOwn
import Derived.Lib.MakeNoZero
import Derived.Laws.Externs
import Derived.Shelf.Bits.Mul64
namespace Go.Proofs.Ythnfnfaiicfenaa
open Go.ChangeShapes Go.WideShapes Go.ChangeAt Go.RowKit

set_option maxHeartbeats 4000000 in
set_option maxRecDepth 100000 in
theorem mul64_any (x y : Nat) (hx : x ≤ 8192) (hy : y ≤ 8192) (hp : x * y ≤ 67108864) (w : World) :
    Calls Try.prog 66 #[.int .u64 (x : Int), .int .u64 (y : Int)] w fun e w' => e = .returned (.tuple #[.int .u64 0, .int .u64 ((x * y : Nat) : Int)]) ∧ w = w' := by
  obtain ⟨z, hz⟩ : ∃ z, x * y = z := ⟨_, rfl⟩
  have hz' : (x : Int) * (y : Int) = (z : Int) := by rw [← hz]; exact (Int.natCast_mul x y).symm
  rw [hz] at hp ⊢
  have HZ := Lib.hid hz'
  clear hz hz'
  have m1 : bits .and .u64 (x : Int) 4294967295 = (x : Int) := by rw [Mul64.maskN x (by omega)]; omega
  have m2 : bits .and .u64 (y : Int) 4294967295 = (y : Int) := by rw [Mul64.maskN y (by omega)]; omega
  have m3 : bits .and .u64 0 4294967295 = 0 := by decide
  have s1 : (x : Int) / 4294967296 = 0 := by omega
  have s2 : (y : Int) / 4294967296 = 0 := by omega
  have s3 : (z : Int) / 4294967296 = 0 := by omega
  have s4 : IntKind.u64.wrap ((x : Int) * (y : Int)) = (z : Int) := by rw [HZ.out, IntKind.wrap_u64]; omega
  have s5 : ((x : Int) * (y : Int)) % 18446744073709551616 = (z : Int) := by rw [HZ.out]; omega
  go_enter Try.func66, Try.ntmps66
  go_wp2_with fail
  go_ret2
  exact ⟨rfl, rfl⟩
set_option maxHeartbeats 4000000 in
theorem mul_any (x y : Nat) (hx : x ≤ 8192) (hy : y ≤ 8192) (hp : x * y ≤ 67108864) (w : World) :
    Calls Try.prog 45 #[.int .u64 (x : Int), .int .u64 (y : Int)] w fun e w' => e = .returned (.tuple #[.int .u64 0, .int .u64 ((x * y : Nat) : Int)]) ∧ w = w' := by
  have HM := Lib.hid (mul64_any x y hx hy hp w)
  clear hp
  generalize x * y = z at *
  go_enter Try.func45, Try.ntmps45
  go_wp2_with fail
  refine HM.out.mono ?_
  rintro e w1 ⟨rfl, rfl⟩
  go_wp2_with fail
  go_ret2
  exact ⟨rfl, rfl⟩
/-- Memory that isn't set: a new row of whatever bytes. -/
theorem made_any (n : Nat) (hn : n ≤ 100000) (w : World) : ∃ (cs : Array Value) (m : Nat), (callFunc 46 #[.int .i64 (n : Int)]).run Try.prog w = .ok (.value (.slice (some ⟨w.heap.size, 0, none⟩) n cs.size)) ((w.alloc (.cells cs 5)).drewN m) ∧ n ≤ cs.size ∧ cs.size ≤ maxLen := by
  obtain ⟨cs, hrun, hle, hmax⟩ := Lib.run_makeNoZero (P := Try.prog) w #[3] 22 5 Try.underlying22 n (by omega)
  refine ⟨cs, 2, ?_, hle, hmax (by unfold maxLen; omega)⟩
  rw [run_callFunc_extern Try.func46 (by kernel_rfl) (by kernel_rfl) (by kernel_rfl) (e := Extern.BytealgMakeNoZero.makeNoZero #[3] #[22]) (by kernel_rfl), hrun]
  rfl
theorem below_drewN_ {B : Nat} {w w' : World} (h : Below B w w') (n : Nat) : Below B w (w'.drewN n) := ⟨h.os, h.tape, h.output, h.size, h.block⟩
/-- What Repeat answers: new memory that reads as the bytes. -/
def RepR (w : World) (n : Nat) (l : List UInt8) (e : Ending) (w' : World) : Prop := ∃ A' c', e = .returned (.slice A' n c') ∧ Bs w' w'.heap.size A' l ∧ Below w.heap.size w w'
set_option maxHeartbeats 4000000 in
set_option maxRecDepth 100000 in
theorem repeat_none (w : World) (A : Option Addr) (n c : Nat) : Calls Try.prog 28 #[.slice A n c, .int .i64 0] w (RepR w 0 []) := by
  go_enter Try.func28, Try.ntmps28
  go_wp2_with fail
  go_ret
  exact ⟨_, _, rfl, Bs.nil_, (Below.refl _ _).alloc (Nat.le_refl _) _⟩
theorem cell_of_heap {w : World} {g : Nat} {cur : List Value} {t : TypeId} (h : w.heap[g]? = some (.cells cur.toArray t (0, 0))) (j : Nat) : w.cell? ⟨g, j, none⟩ = cur[j]? := by
  have := cell_of_row w g j cur.toArray t (0, 0) h
  simpa using this
set_option maxHeartbeats 4000000 in
set_option maxRecDepth 100000 in
theorem repeat_once (w : World) (A : Option Addr) (c n : Nat) (l : List UInt8) (hl : l.length = n) (h : Bs w w.heap.size A l) (h1 : 1 ≤ n) (h2 : n ≤ 128) : Calls Try.prog 28 #[.slice A n c, .int .i64 1] w (RepR w n l) := by
  obtain ⟨cs, m, hcall, hle, hmax⟩ := made_any n (by omega) w
  have HMl := Lib.hid (mul_any n 1 (by omega) (by omega) (by omega))
  rw [Nat.mul_one] at HMl
  have HB := Lib.hid h
  have HLN := Lib.hid hl
  clear h hl
  have hn0 : ¬ n = 0 := by omega
  have hn1 : ((n : Int) == 0) = false := by simp; omega
  go_enter Try.func28, Try.ntmps28
  go_wp2_with fail
  refine (HMl.out _).mono ?_
  rintro e w1 ⟨rfl, rfl⟩
  clear HMl
  obtain ⟨w1, hw1⟩ : ∃ w1, (w.alloc (.cells cs 5)).drewN m = w1 := ⟨_, rfl⟩
  have hbw1 : Below w.heap.size w w1 := by rw [← hw1]; exact below_drewN_ ((Below.refl _ _).alloc (Nat.le_refl _) _) m
  have hg1 : w1.heap[w.heap.size]? = some (.cells cs.toList.toArray 5 (0, 0)) := by rw [← hw1]; exact Blk.new w 5 cs
  rw [hw1] at hcall
  have HW1 := Lib.hid hbw1
  have HG1 := Lib.hid hg1
  have hsrc : 0 < (bytesV l).length → ∃ ad, A = some ad ∧ ∀ j v, (bytesV l)[j]? = some v → w1.cell? (ad.add j) = some v := fun hp => copy_src HB.out hbw1 (Nat.le_refl _) hp
  have HSR := Lib.hid hsrc
  have hlb : (bytesV l).length = Nat.min n n := by rw [bytesV_length, HLN.out]; exact (Nat.min_self n).symm
  have HLB := Lib.hid hlb
  have hfit : 0 + (bytesV l).length ≤ cs.toList.length := by rw [bytesV_length, HLN.out]; simpa using hle
  clear hw1 hbw1 hg1 hsrc hlb
  go_wp2_with (with_reducible refine wpList_copy_splice rfl (.tmp 58) (.tmp 59) 22 22 rfl 5 Try.underlying22 info_u8_size _ A n n n c rfl rfl w.heap.size 0 cs.toList 5 HG1.out (bytesV l) (by rw [bytesV_length, HLN.out]; exact (Nat.min_self n).symm) (fun hp => ⟨rfl, HSR.out hp⟩) hfit (bytesV_oneCell l) w.heap.size w HW1.out (Nat.le_refl _) ?_; intro w2 hg2 hb2; have HB2 := Lib.hid hb2; clear hb2; rw [bytesV_length, HLN.out])
  go_wp2_with fail
  go_loopw [10] (fun bp wr => bp = .int .i64 (n : Int) ∧ Hid (wr.heap[w.heap.size]? = some (.cells (splice cs.toList 0 (bytesV l)).toArray 5 (0, 0))) ∧ Hid (Below w.heap.size w wr)) (fun _ _ => 0)
  case atStart => exact ⟨rfl, hg2, HB2⟩
  case round =>
    obtain ⟨rfl, HG, HBl⟩ := hrel
    go_wp2_with fail
    go_ret
    refine ⟨_, _, rfl, fun hn => ⟨_, rfl, ?_, fun j hj => ?_⟩, HBl.out⟩
    · have := (Array.getElem?_eq_some_iff.1 HG.out).1; exact this
    · have e : (⟨w.heap.size, 0, none⟩ : Addr).add j = ⟨w.heap.size, j, none⟩ := by unfold Addr.add; split <;> simp_all
      rw [e, cell_of_heap HG.out]
      unfold splice
      rw [List.take_zero, List.nil_append, List.getElem?_append_left (by rw [bytesV_length]; exact hj)]
      exact bytesV_get l j hj
/-- The block's first p cells are the byte y. -/
def Filled (w : World) (g C p : Nat) (y : UInt8) : Prop := ∃ cur : List Value, w.heap[g]? = some (.cells cur.toArray 5 (0, 0)) ∧ cur.length = C ∧ ∀ j, j < p → cur[j]? = some (bv y)
theorem Filled.more {w' : World} {g C p k : Nat} {y : UInt8} {cur : List Value} (hc : cur.length = C) (hp : ∀ j, j < p → cur[j]? = some (bv y)) (hpk : p + k ≤ C) (h : w'.heap[g]? = some (.cells (splice cur p (List.replicate k (bv y))).toArray 5 (0, 0))) : Filled w' g C (p + k) y := by
  refine ⟨_, h, by rw [length_splice _ _ _ (by simp; omega)]; exact hc, fun j hj => ?_⟩
  unfold splice
  by_cases h1 : j < p
  · rw [List.getElem?_append_left (by rw [List.length_take]; omega), List.getElem?_take_of_lt h1]
    exact hp j h1
  · rw [List.getElem?_append_right (by rw [List.length_take]; omega), List.length_take, List.getElem?_append_left (by simp; omega)]
    rw [List.getElem?_replicate, if_pos (by omega)]
set_option maxHeartbeats 4000000 in
set_option maxRecDepth 100000 in
theorem repeat_byte (w : World) (A : Option Addr) (c n : Nat) (y : UInt8) (h : Bs w w.heap.size A [y]) (h1 : 1 ≤ n) (h2 : n ≤ 128) : Calls Try.prog 28 #[.slice A 1 c, .int .i64 (n : Int)] w (RepR w n (List.replicate n y)) := by
  obtain ⟨cs, m, hcall, hle, hmax⟩ := made_any n (by omega) w
  have HMl := Lib.hid (mul_any 1 n (by omega) (by omega) (by omega))
  rw [Nat.one_mul] at HMl
  have HB := Lib.hid h
  clear h
  have hn0 : ¬ n = 0 := by omega
  have hn1 : ((n : Int) == 0) = false := by simp; omega
  go_enter Try.func28, Try.ntmps28
  go_wp2_with fail
  refine (HMl.out _).mono ?_
  rintro e w1 ⟨rfl, rfl⟩
  clear HMl
  obtain ⟨w1, hw1⟩ : ∃ w1, (w.alloc (.cells cs 5)).drewN m = w1 := ⟨_, rfl⟩
  have hbw1 : Below w.heap.size w w1 := by rw [← hw1]; exact below_drewN_ ((Below.refl _ _).alloc (Nat.le_refl _) _) m
  have hg1 : w1.heap[w.heap.size]? = some (.cells cs.toList.toArray 5 (0, 0)) := by rw [← hw1]; exact Blk.new w 5 cs
  rw [hw1] at hcall
  have HW1 := Lib.hid hbw1
  have HG1 := Lib.hid hg1
  have hsrc : 0 < (bytesV [y]).length → ∃ ad, A = some ad ∧ ∀ j v, (bytesV [y])[j]? = some v → w1.cell? (ad.add j) = some v := fun hp => copy_src HB.out hbw1 (Nat.le_refl _) hp
  have HSR := Lib.hid hsrc
  have hlb : (bytesV [y]).length = Nat.min 1 n := by rw [bytesV_length]; exact (Nat.min_eq_left h1).symm
  have HLB := Lib.hid hlb
  have hfit : 0 + (bytesV [y]).length ≤ cs.toList.length := by rw [bytesV_length]; simp; omega
  clear hw1 hbw1 hg1 hsrc hlb
  go_wp2_with (with_reducible refine wpList_copy_splice rfl (.tmp 58) (.tmp 59) 22 22 rfl 5 Try.underlying22 info_u8_size _ A n n 1 c rfl rfl w.heap.size 0 cs.toList 5 HG1.out (bytesV [y]) HLB.out (fun hp => ⟨rfl, HSR.out hp⟩) hfit (bytesV_oneCell [y]) w.heap.size w HW1.out (Nat.le_refl _) ?_; intro w2 hg2 hb2; have HB2 := Lib.hid hb2; clear hb2; have HF2 := Lib.hid (Filled.more (C := cs.size) (p := 0) (k := 1) (y := y) (cur := cs.toList) (by simp) (fun j hj => by omega) (by omega) hg2.out))
  go_wp2_with fail
  go_loopw [10] (fun bp wr => ∃ p : Nat, 1 ≤ p ∧ p ≤ n ∧ bp = .int .i64 (p : Int) ∧ Hid (Filled wr w.heap.size cs.size p y) ∧ Hid (Below w.heap.size w wr)) (fun bp _ => n - (intOf bp).toNat)
  case atStart => exact ⟨1, by omega, by omega, rfl, HF2, HB2⟩
  case round =>
    obtain ⟨p, hp1, hp2, rfl, HF, HBl⟩ := hrel
    by_cases hlt : p < n
    · obtain ⟨cur, hg, hcl, hcp⟩ := HF.out
      have HG := Lib.hid hg
      obtain ⟨k, hk⟩ : ∃ k, k = Nat.min p (n - p) := ⟨_, rfl⟩
      have hk1 : k ≤ p ∧ k ≤ n - p ∧ 1 ≤ k := by rw [hk]; exact ⟨Nat.min_le_left _ _, Nat.min_le_right _ _, Nat.le_min.2 ⟨hp1, by omega⟩⟩
      have HKD := Lib.hid hk
      have HFM := Lib.hid (fun (w' : World) (h : Hid (w'.heap[w.heap.size]? = some (.cells (splice cur p (List.replicate k (bv y))).toArray 5 (0, 0)))) => Filled.more (C := cs.size) hcl hcp (by omega) h.out)
      have hpos : 0 < (List.replicate k (bv y)).length → ∀ j v, (List.replicate k (bv y))[j]? = some v → wr.drew.cell? ((⟨w.heap.size, 0, none⟩ : Addr).add j) = some v := fun _ => fun j v hv => by
        have hj : j < k := by have := (List.getElem?_eq_some_iff.1 hv).1; simpa using this
        rw [List.getElem?_replicate, if_pos hj] at hv
        have e : (⟨w.heap.size, 0, none⟩ : Addr).add j = ⟨w.heap.size, j, none⟩ := by unfold Addr.add; split <;> simp_all
        rw [e, ← hv]
        exact (cell_of_heap hg j).trans (hcp j (by omega))
      have HPO := Lib.hid hpos
      have hone : ∀ v ∈ List.replicate k (bv y), v.oneCell' = true := fun v hv => by rw [(List.mem_replicate.1 hv).2]; rfl
      have HON := Lib.hid hone
      have hln : (List.replicate k (bv y)).length = Nat.min p (n - p) := by rw [List.length_replicate]; exact hk
      have HLN := Lib.hid hln
      have hft : p + (List.replicate k (bv y)).length ≤ cur.length := by simp; omega
      have HBd := Lib.hid (HBl.out.drew)
      have hpn : ¬ n = p := by omega
      have mi : min (p : Int) (n : Int) = (p : Int) := by omega
      have s1 : IntKind.i64.wrap ((p : Int) + (k : Int)) = (p : Int) + (k : Int) := IntWalk.i64_in _ (by omega)
      have hlk : (List.replicate k (bv y)).length = k := by simp
      have HLK := Lib.hid hlk
      clear hg hcl hcp hpos hone hln hk hlk HF
      go_wp2_with fail
      go_region_law (refine step_copy_splice rfl (.tmp 70) (.tmp 73) 22 22 rfl 5 Try.underlying22 info_u8_size (some ⟨w.heap.size, p, none⟩) (some ⟨w.heap.size, 0, none⟩) (n - p) (n - p) p n (by go_simp) (by go_simp) w.heap.size p cur 5 HG.out (List.replicate k (bv y)) HLN.out (fun hp => ⟨rfl, _, rfl, HPO.out hp⟩) hft HON.out w.heap.size w HBd.out (Nat.le_refl _) ?_; intro w3 hg3 hb3; rw [HLK.out])
      all_goals
        have HF3 := Lib.hid (HFM.out w3 hg3)
        have HB3 := Lib.hid hb3
        clear s1 hg3 hb3
        go_wp2_with fail
        simp only [List.getElem_toArray, List.getElem_cons_succ, List.getElem_cons_zero, Act.put, List.setIfInBounds_toArray, List.set_cons_succ, List.set_cons_zero]
        go_roundw
        case rel => exact ⟨p + k, by omega, by omega, by go_num, HF3, HB3⟩
        case measure => simp [intOf]; omega
    · obtain rfl : p = n := by omega
      go_wp2_with fail
      go_ret
      obtain ⟨cur, hg, hcl, hcp⟩ := HF.out
      refine ⟨_, _, rfl, fun hn => ⟨_, rfl, ?_, fun j hj => ?_⟩, HBl.out⟩
      · exact (Array.getElem?_eq_some_iff.1 hg).1
      · have e : (⟨w.heap.size, 0, none⟩ : Addr).add j = ⟨w.heap.size, j, none⟩ := by unfold Addr.add; split <;> simp_all
        rw [List.length_replicate] at hj
        rw [e, cell_of_heap hg, hcp j hj]
        simp [bv]
end Go.Proofs.Ythnfnfaiicfenaa
