/- Joined texts (a claim has at most 60 files): Zm Zn. -/
import Derived.Test.YtnfjeeflcfmpbaaGreatDoorZe
import Derived.Test.YtnfjeeflcfmpbaaGreatDoorYc
import Derived.Test.YtnfjeeflcfmpbaaGreatDoorYh
import Derived.BigQuiet
import Derived.Lib.Tables
import Derived.Lib.BitFns
import Derived.Lib.Walk
import Derived.Lib.Strings
import Derived.Lib.Slices
import Derived.Lib.Small
import Derived.Deep.QuietTactic
/- What is written is read: the head's numbers, the rows' numbers, the colours. No walk. -/
set_option linter.unusedVariables false
set_option linter.unusedSimpArgs false
namespace Go.Proofs.YtnfjeeflcfmpbaaGreatDoor

theorem setB_far (l : List UInt8) (a s v k j : Nat) (h : j < a ∨ a + k ≤ j) : byteAt (setB l a s false v k) j = byteAt l j := by
  induction k with
  | zero => rfl
  | succ k ih =>
    rw [setB]
    unfold byteAt at *
    rw [List.getElem?_set_ne (by omega)]
    exact ih (by omega)
theorem leNum_same {f g : Nat → Nat} : ∀ n, (∀ i, i < n → f i = g i) → leNum f n = leNum g n
  | 0, _ => rfl
  | n + 1, h => by rw [leNum, leNum, leNum_same n (fun i hi => h i (by omega)), h n (by omega)]
theorem numB_same {f g : Nat → Nat} (n : Nat) (h : ∀ i, i < n → f i = g i) : numB false f n = numB false g n := by
  unfold numB
  rw [if_neg (by simp), if_neg (by simp)]
  exact leNum_same n h
theorem numB_far (l : List UInt8) (a s v k p n : Nat) (h : p + n ≤ a ∨ a + k ≤ p) : numB false (fun i => byteAt (setB l a s false v k) (p + i)) n = numB false (fun i => byteAt l (p + i)) n :=
  numB_same n fun i hi => setB_far l a s v k (p + i) (by omega)
theorem byteAt_app (a b : List UInt8) (j : Nat) (h : j < a.length) : byteAt (a ++ b) j = byteAt a j := by
  unfold byteAt
  rw [List.getElem?_append_left h]
theorem numB_app (a b : List UInt8) (p n : Nat) (h : p + n ≤ a.length) : numB false (fun i => byteAt (a ++ b) (p + i)) n = numB false (fun i => byteAt a (p + i)) n :=
  numB_same n fun i hi => byteAt_app a b (p + i) (by omega)
theorem headB_ok (al : Bool) (W H P n : Nat) (body : List UInt8) (w1 : 1 ≤ W) (w2 : W ≤ 4096) (h1 : 1 ≤ H) (h2 : H ≤ 4096) (hn : (if al then 122 else 54) ≤ n) (hnb : n ≤ 4194304) :
    HdOk al false W H (numB false (fun i => byteAt (headB al W H P ++ body) (46 + i)) 4) n (headB al W H P ++ body) := by
  have hl := headB_length al W H P
  have hW : W % 2 ^ (8 * 4) = W := by omega
  have hH : H % 2 ^ (8 * 4) = H := by omega
  cases al
  all_goals
    simp only [Bool.false_eq_true, if_false, if_true] at hl hn
    refine ⟨?_, ?_, ?_, ?_, ?_, ?_, ?_, ?_, rfl, hn, hnb, w1, w2, h1, h2⟩
    all_goals
      rw [numB_app _ _ _ _ (by omega)]
      simp only [headB, Bool.false_eq_true, if_false, if_true]
      repeat rw [numB_far _ _ _ _ _ _ _ (by first | decide | omega)]
      rw [numB_setB _ _ _ _ _ (by simp [setB_length])]
      try (first | exact hW | exact hH | rfl)
section
variable {α : Type}
theorem piece_flat (R : Nat) : ∀ (RR : List (List α)) (j : Nat) (hj : j < RR.length), (∀ r ∈ RR, r.length = R) → (RR.flatten.drop (R * j)).take R = RR[j]
  | [], j, hj, _ => by simp at hj
  | x :: RR, 0, _, h => by
    have hx : x.length = R := h x (by simp)
    rw [Nat.mul_zero, List.drop_zero, List.flatten_cons, ← hx, List.take_left]
    rfl
  | x :: RR, j + 1, hj, h => by
    have hx : x.length = R := h x (by simp)
    have hj' : j < RR.length := by simpa using hj
    have := piece_flat R RR j hj' (fun r hr => h r (by simp [hr]))
    rw [List.flatten_cons, Nat.mul_succ, Nat.add_comm (R * j) R, ← List.drop_drop, ← hx, List.drop_left, hx, this]
    rfl
theorem flatMap_get (g : α → List Bool) (d : Nat) : ∀ (l : List α) (i q : Nat) (hi : i < l.length), (∀ x ∈ l, (g x).length = d) → q < d → (l.flatMap g)[d * i + q]? = (g l[i])[q]?
  | [], i, q, hi, _, _ => by simp at hi
  | x :: l, 0, q, _, h, hq => by
    have hx : (g x).length = d := h x (by simp)
    rw [List.flatMap_cons, Nat.mul_zero, Nat.zero_add, List.getElem?_append_left (by omega)]
    rfl
  | x :: l, i + 1, q, hi, h, hq => by
    have hx : (g x).length = d := h x (by simp)
    have hi' : i < l.length := by simpa using hi
    have := flatMap_get g d l i q hi' (fun y hy => h y (by simp [hy])) hq
    rw [List.flatMap_cons, Nat.mul_succ, List.getElem?_append_right (by omega), hx, show d * i + d + q - d = d * i + q from by omega, this]
    rfl
end
theorem numR_flat (RR : List (List UInt8)) (R d W : Nat) (h : ∀ r ∈ RR, r.length = R) : numR RR.flatten R d W RR.length = (RR.map fun r => numsL r d W).flatten := by
  unfold numR
  congr 1
  apply List.ext_getElem
  · simp
  · intro j h1 h2
    simp only [List.length_map, List.length_range] at h1
    simp only [List.getElem_map, List.getElem_range]
    rw [piece_flat R RR j h1 h]
theorem bitsB_pxs (al : Bool) : ∀ l : List Col, bitsB (pxsB al l) = l.flatMap fun c => bitsOf false (pxV al c.r c.g c.b c.a) (dep al)
  | [] => rfl
  | c :: l => by
    have := bitsB_pxs al l
    unfold pxsB at this ⊢
    rw [List.flatMap_cons, List.flatMap_cons, bitsB_append, this, pxV_bits]
theorem pxV_small (al : Bool) (r g b a : Int) : pxV al r g b a < 2 ^ dep al := by
  cases al
  · have h1 := (dn8 r).toNat_lt; have h2 := (dn8 g).toNat_lt; have h3 := (dn8 b).toNat_lt
    show _ < 16777216
    simp [pxV]
    omega
  · exact pxV_lt true r g b a
/-- A pixel's number. -/
def pxC (al : Bool) (c : Col) : Nat := pxV al c.r c.g c.b c.a
theorem num_v (f : Nat → Bool) (v n : Nat) (hf : ∀ i, i < n → f i = v.testBit i) : num false f n = v % 2 ^ n := by
  apply Nat.eq_of_testBit_eq
  intro j
  rw [Nat.testBit_mod_two_pow]
  unfold num
  rw [if_neg (by simp), numLo_testBit]
  by_cases hj : j < n
  · simp [hj, hf j hj]
  · simp [hj]
theorem numsL_row (al : Bool) (W : Nat) (lr : List Col) (h : lr.length = W) : numsL (rowB al W lr) (dep al) W = lr.map (pxC al) := by
  apply List.ext_getElem
  · simp [numsL, h]
  · intro i h1 h2
    have hi : i < lr.length := by simpa using h2
    simp only [numsL, List.getElem_map, List.getElem_range]
    refine (num_v _ (pxC al lr[i]) (dep al) ?_).trans (Nat.mod_eq_of_lt (pxV_small al _ _ _ _))
    intro q hq
    have hle : dep al * (i + 1) ≤ dep al * lr.length := Nat.mul_le_mul_left _ hi
    rw [Nat.mul_succ] at hle
    have hlen : (bitsB (pxsB al lr)).length = dep al * lr.length := by rw [bitsB_length, pxsB_length, ← Nat.mul_assoc, ← dep_px]
    rw [← bitsB_get, rowB, bitsB_append, List.getElem?_append_left (by omega), bitsB_pxs, flatMap_get _ (dep al) lr i q hi (fun x _ => bitsOf_length ..) hq, bitsOf_get _ _ _ _ hq]
    rfl
theorem encR_len (al : Bool) (W : Nat) (L : List Col) (H : Nat) : (encR al W L H).length = H := by simp [encR]
/-- The numbers of the rows of an image. -/
def rowsN (al : Bool) (W H : Nat) (L : List Col) : List (List Nat) := (List.range H).map fun j => (rowL W L j).map (pxC al)
theorem num_rows (al : Bool) (W H : Nat) (L : List Col) (hl : L.length = W * H) : numR (encR al W L H).reverse.flatten (rowN al W) (dep al) W H = (rowsN al W H L).reverse.flatten := by
  have hr : ∀ r ∈ (encR al W L H).reverse, r.length = rowN al W := by
    intro r hr
    simp only [List.mem_reverse, encR, List.mem_map, List.mem_range] at hr
    obtain ⟨j, hj, rfl⟩ := hr
    exact rowB_length al W _ (rowL_length hl hj)
  have h := numR_flat (encR al W L H).reverse (rowN al W) (dep al) W hr
  rw [List.length_reverse, encR_len] at h
  rw [h, List.map_reverse]
  congr 2
  unfold encR rowsN
  rw [List.map_map]
  apply List.map_congr_left
  intro j hj
  exact numsL_row al W _ (rowL_length hl (List.mem_range.1 hj))
theorem pcsN_rows (X : List (List Nat)) (W : Nat) (h : ∀ r ∈ X, r.length = W) : pcsN X.flatten W X.length = X := by
  apply List.ext_getElem
  · simp [pcsN]
  · intro j h1 h2
    simp only [pcsN, List.getElem_map, List.getElem_range]
    exact piece_flat W X j h2 h
theorem pcs_flat (W : Nat) (L : List Col) : ∀ H, W * H ≤ L.length → ((List.range H).map fun j => (L.drop (j * W)).take W).flatten = L.take (W * H)
  | 0, _ => by simp
  | H + 1, h => by
    rw [List.range_succ, List.map_append, List.flatten_append, pcs_flat W L H (by rw [Nat.mul_succ] at h; omega), Nat.mul_succ, List.take_add]
    simp [Nat.mul_comm H W]
theorem rowsN_flat (al : Bool) (W H : Nat) (L : List Col) (hl : L.length = W * H) : (rowsN al W H L).flatten = L.map (pxC al) := by
  have e : rowsN al W H L = ((List.range H).map fun j => (L.drop (j * W)).take W).map (List.map (pxC al)) := by
    unfold rowsN
    rw [List.map_map]
    rfl
  rw [e, ← List.map_flatten, pcs_flat W L H (by omega), ← hl, List.take_length]
theorem rowsN_len (al : Bool) (W H : Nat) (L : List Col) : (rowsN al W H L).length = H := by simp [rowsN]
theorem rowsN_each (al : Bool) (W H : Nat) (L : List Col) (hl : L.length = W * H) : ∀ r ∈ rowsN al W H L, r.length = W := by
  intro r hr
  simp only [rowsN, List.mem_map, List.mem_range] at hr
  obtain ⟨j, hj, rfl⟩ := hr
  rw [List.length_map, rowL_length hl hj]
theorem ord_rows (al : Bool) (W H : Nat) (L : List Col) (hl : L.length = W * H) : ordN false (rowsN al W H L).reverse.flatten W H = L.map (pxC al) := by
  have h := pcsN_rows (rowsN al W H L).reverse W (fun r hr => rowsN_each al W H L hl r (List.mem_reverse.1 hr))
  rw [List.length_reverse, rowsN_len] at h
  unfold ordN
  rw [if_neg (by simp), h, List.reverse_reverse, rowsN_flat al W H L hl]
theorem ord_rowsT (al : Bool) (W H : Nat) (L : List Col) (hl : L.length = W * H) : ordN true (rowsN al W H L).reverse.flatten W H = (rowsN al W H L).reverse.flatten := by
  have hm : (rowsN al W H L).reverse.flatten.length = W * H := by
    rw [rev_flatN, rowsN_flat al W H L hl, List.length_map, hl]
  unfold ordN
  rw [if_pos rfl, pcsN_flatten hm]
/-- A sample, rounded. -/
def rnd (s : Int) : Int := upN (downN s 255) 255
def rndC (al : Bool) (c : Col) : Col := ⟨rnd c.r, rnd c.g, rnd c.b, if al then rnd c.a else 65535⟩
theorem colP_px (al : Bool) (c : Col) (h : ColOk c) : colP al (pxC al c) = rndC al c := by
  obtain ⟨hr, hg, hb, ha⟩ := h
  have h1 := (dn8 c.r).toNat_lt; have h2 := (dn8 c.g).toNat_lt; have h3 := (dn8 c.b).toNat_lt; have h4 := (dn8 c.a).toNat_lt
  have e1 := dn8_nat hr; have e2 := dn8_nat hg; have e3 := dn8_nat hb; have e4 := dn8_nat ha
  unfold colP rndC rnd pxC pxV
  rw [← e1, ← e2, ← e3, ← e4]
  cases al
  · refine Col.ext_ ?_ ?_ ?_ rfl
    · show upN _ 255 = upN _ 255
      congr 2
      simp
      omega
    · show upN _ 255 = upN _ 255
      congr 2
      simp
      omega
    · show upN _ 255 = upN _ 255
      congr 2
      simp
      omega
  · refine Col.ext_ ?_ ?_ ?_ ?_
    · show upN _ 255 = upN _ 255
      congr 2
      simp
      omega
    · show upN _ 255 = upN _ 255
      congr 2
      simp
      omega
    · show upN _ 255 = upN _ 255
      congr 2
      simp
      omega
    · show upN _ 255 = upN _ 255
      congr 2
      simp
      omega
theorem encB_drop (al : Bool) (W H : Nat) (L : List Col) : (encB al W H L).drop (if al then 122 else 54) = (encR al W L H).reverse.flatten := by
  rw [encB, ← headB_length al W H (rowN al W * H), List.drop_left]
/-- What is written is read as the image, its samples rounded. -/
theorem dec_enc (al : Bool) (W H : Nat) (L : List Col) (hl : L.length = W * H) (hok : ∀ c ∈ L, ColOk c) : decI al false (encB al W H L) W H = ⟨W, H, 0, flatL (L.map (rndC al)) (W * H)⟩ := by
  unfold decI
  rw [encB_drop, num_rows al W H L hl, ord_rows al W H L hl]
  congr 2
  unfold colsK
  rw [← hl, ← List.length_map (f := pxC al), List.take_length, List.map_map]
  exact List.map_congr_left fun c hc => colP_px al c (hok c hc)
end Go.Proofs.YtnfjeeflcfmpbaaGreatDoor

/- The masks that are written may be. -/
set_option linter.unusedVariables false
set_option linter.unusedSimpArgs false
namespace Go.Proofs.YtnfjeeflcfmpbaaGreatDoor
open Go.ChangeShapes Go.WideShapes Go.ChangeAt Go.RowKit

theorem ret_n {a b : Int} (h : a = b) : Ending.returned (.int .i64 a) = .returned (.int .i64 b) := by rw [h]
set_option maxRecDepth 100000 in
theorem oc_any (x b1 b2 b3 b4 : Int) (e1 : x / 16777216 = b1) (e2 : bits BinOp.and IntKind.u32 (x / 65536) 255 = b2) (e3 : bits BinOp.and IntKind.u32 (x / 256) 255 = b3) (e4 : bits BinOp.and IntKind.u32 x 255 = b4)
    (h1 : 0 ≤ b1 ∧ b1 ≤ 255) (h2 : 0 ≤ b2 ∧ b2 ≤ 255) (h3 : 0 ≤ b3 ∧ b3 ≤ 255) (h4 : 0 ≤ b4 ∧ b4 ≤ 255) (hn : (Lib.pop8 b1 + Lib.pop8 b2 + Lib.pop8 b3 + Lib.pop8 b4) % 256 = 8) (w : World) : Calls Tryz.prog 116 #[.int .u32 x] w fun e w' => e = .returned (.int .i64 8) ∧ ∃ m, w' = w.drewN m := by
  obtain ⟨a1, c1⟩ := h1; obtain ⟨a2, c2⟩ := h2; obtain ⟨a3, c3⟩ := h3; obtain ⟨a4, c4⟩ := h4
  have HN := Lib.hid hn
  clear hn
  go_enter Tryz.func116, Tryz.ntmps116
  go_wp2_with fail
  go_quiet (fail)
  go_wp2_with fail
  go_ret
  exact ⟨ret_n HN.out, nq, rfl⟩
theorem oc_r (w : World) : Calls Tryz.prog 116 #[.int .u32 16711680] w fun e w' => e = .returned (.int .i64 8) ∧ ∃ m, w' = w.drewN m := oc_any _ 0 255 0 0 (by decide) (by decide) (by decide) (by decide) (by omega) (by omega) (by omega) (by omega) (by decide +kernel) w
theorem oc_g (w : World) : Calls Tryz.prog 116 #[.int .u32 65280] w fun e w' => e = .returned (.int .i64 8) ∧ ∃ m, w' = w.drewN m := oc_any _ 0 0 255 0 (by decide) (by decide) (by decide) (by decide) (by omega) (by omega) (by omega) (by omega) (by decide +kernel) w
theorem oc_b (w : World) : Calls Tryz.prog 116 #[.int .u32 255] w fun e w' => e = .returned (.int .i64 8) ∧ ∃ m, w' = w.drewN m := oc_any _ 0 0 0 255 (by decide) (by decide) (by decide) (by decide) (by omega) (by omega) (by omega) (by omega) (by decide +kernel) w
theorem oc_a (w : World) : Calls Tryz.prog 116 #[.int .u32 4278190080] w fun e w' => e = .returned (.int .i64 8) ∧ ∃ m, w' = w.drewN m := oc_any _ 255 0 0 0 (by decide) (by decide) (by decide) (by decide) (by omega) (by omega) (by omega) (by omega) (by decide +kernel) w
set_option maxRecDepth 100000 in
theorem ln_r (w : World) : Calls Tryz.prog 117 #[.int .u32 16711680] w fun e w' => e = .returned (.int .i64 24) ∧ w' = w := by
  go_enter Tryz.func117, Tryz.ntmps117
  go_wp2_with fail
  go_ret
  exact ⟨ret_n (by decide +kernel), rfl⟩
set_option maxRecDepth 100000 in
theorem ln_g (w : World) : Calls Tryz.prog 117 #[.int .u32 65280] w fun e w' => e = .returned (.int .i64 16) ∧ w' = w := by
  go_enter Tryz.func117, Tryz.ntmps117
  go_wp2_with fail
  go_ret
  exact ⟨ret_n (by decide +kernel), rfl⟩
set_option maxRecDepth 100000 in
theorem ln_b (w : World) : Calls Tryz.prog 117 #[.int .u32 255] w fun e w' => e = .returned (.int .i64 8) ∧ w' = w := by
  go_enter Tryz.func117, Tryz.ntmps117
  go_wp2_with fail
  go_ret
  exact ⟨ret_n (by decide +kernel), rfl⟩
set_option maxRecDepth 100000 in
theorem ln_a (w : World) : Calls Tryz.prog 117 #[.int .u32 4278190080] w fun e w' => e = .returned (.int .i64 32) ∧ w' = w := by
  go_enter Tryz.func117, Tryz.ntmps117
  go_wp2_with fail
  go_ret
  exact ⟨ret_n (by decide +kernel), rfl⟩
set_option maxRecDepth 100000 in
set_option maxHeartbeats 4000000 in
theorem mayBeT_ok (w : World) : Calls Tryz.prog 95 #[mkV 16711680 65280 255 4278190080, .int .i64 32] w fun e w' => e = .returned (.bool true) ∧ Below w.heap.size w w' := by
  have hb := Blk.new w 80 (mkC 16711680 65280 255 4278190080)
  have bel := (Below.refl w.heap.size w).alloc (Nat.le_refl _) (.cells (mkC 16711680 65280 255 4278190080) 80)
  have x0 := fun w => (ix4u (.int .u32 16711680) (.int .u32 65280) (.int .u32 255) (.int .u32 4278190080) w).1
  have x1 := fun w => (ix4u (.int .u32 16711680) (.int .u32 65280) (.int .u32 255) (.int .u32 4278190080) w).2.1
  have x2 := fun w => (ix4u (.int .u32 16711680) (.int .u32 65280) (.int .u32 255) (.int .u32 4278190080) w).2.2.1
  have x3 := fun w => (ix4u (.int .u32 16711680) (.int .u32 65280) (.int .u32 255) (.int .u32 4278190080) w).2.2.2
  have p0 : bits BinOp.and IntKind.u32 16711680 0 = 0 := by decide
  have p1 : bits BinOp.and IntKind.u32 65280 16711680 = 0 := by decide
  have p2 : bits BinOp.and IntKind.u32 255 16776960 = 0 := by decide
  have p3 : bits BinOp.and IntKind.u32 4278190080 16777215 = 0 := by decide
  have q0 : bits BinOp.and IntKind.u32 16711680 4278255616 = 65536 := by decide
  have q1 : bits BinOp.and IntKind.u32 65280 4294902016 = 256 := by decide
  have q2 : bits BinOp.and IntKind.u32 255 4294967041 = 1 := by decide
  have q3 : bits BinOp.and IntKind.u32 4278190080 16777216 = 16777216 := by decide
  have r0 : bits BinOp.and IntKind.u32 16711680 16777216 = 0 := by decide
  have r1 : bits BinOp.and IntKind.u32 65280 65536 = 0 := by decide
  have r2 : bits BinOp.and IntKind.u32 255 256 = 0 := by decide
  have r3 : bits BinOp.and IntKind.u32 4278190080 0 = 0 := by decide
  have s0 : bits BinOp.or IntKind.u32 0 16711680 = 16711680 := by decide
  have s1 : bits BinOp.or IntKind.u32 16711680 65280 = 16776960 := by decide
  have s2 : bits BinOp.or IntKind.u32 16776960 255 = 16777215 := by decide
  have s3 : bits BinOp.or IntKind.u32 16777215 4278190080 = 4294967295 := by decide
  go_enter Tryz.func95, Tryz.ntmps95
  go_upto_region 1 with (fail)
  generalize w.alloc (.cells (mkC 16711680 65280 255 4278190080) 80) = w1 at *
  have y0 : w1.cell? ⟨w.heap.size, 0, none⟩ = some (.int .u32 16711680) := hb.cell 0
  have y1 : w1.cell? ⟨w.heap.size, 1, none⟩ = some (.int .u32 65280) := hb.cell 1
  have y2 : w1.cell? ⟨w.heap.size, 2, none⟩ = some (.int .u32 255) := hb.cell 2
  have y3 : w1.cell? ⟨w.heap.size, 3, none⟩ = some (.int .u32 4278190080) := hb.cell 3
  have HBel := Lib.hid bel
  clear bel hb
  go_wp2_with fail
  go_loopw [5, 10] (fun a i wr => Hid (Below w.heap.size w wr) ∧ ((i = .int .i64 0 ∧ a = .int .u32 0) ∨ (i = .int .i64 1 ∧ a = .int .u32 16711680) ∨ (i = .int .i64 2 ∧ a = .int .u32 16776960) ∨ (i = .int .i64 3 ∧ a = .int .u32 16777215) ∨ (i = .int .i64 4 ∧ a = .int .u32 4294967295))) (fun _ i _ => 4 - (intOf i).toNat)
  case atStart => exact ⟨HBel, .inl ⟨rfl, rfl⟩⟩
  case round =>
    clear y0 y1 y2 y3 HBel
    obtain ⟨HX, ⟨rfl, rfl⟩ | ⟨rfl, rfl⟩ | ⟨rfl, rfl⟩ | ⟨rfl, rfl⟩ | ⟨rfl, rfl⟩⟩ := hrel
    · go_wp2_with fail
      refine (oc_r wr).mono ?_
      rintro e w2 ⟨rfl, m, rfl⟩
      go_wp2_with fail
      refine (ln_r _).mono ?_
      rintro e w3 ⟨rfl, rfl⟩
      go_wp2_with fail
      go_roundw
      case rel => exact ⟨Lib.hid (below_drewN HX.out m), .inr (.inl ⟨rfl, rfl⟩)⟩
      case measure => simp [intOf]
    · go_wp2_with fail
      refine (oc_g wr).mono ?_
      rintro e w2 ⟨rfl, m, rfl⟩
      go_wp2_with fail
      refine (ln_g _).mono ?_
      rintro e w3 ⟨rfl, rfl⟩
      go_wp2_with fail
      go_roundw
      case rel => exact ⟨Lib.hid (below_drewN HX.out m), .inr (.inr (.inl ⟨rfl, rfl⟩))⟩
      case measure => simp [intOf]
    · go_wp2_with fail
      refine (oc_b wr).mono ?_
      rintro e w2 ⟨rfl, m, rfl⟩
      go_wp2_with fail
      refine (ln_b _).mono ?_
      rintro e w3 ⟨rfl, rfl⟩
      go_wp2_with fail
      go_roundw
      case rel => exact ⟨Lib.hid (below_drewN HX.out m), .inr (.inr (.inr (.inl ⟨rfl, rfl⟩)))⟩
      case measure => simp [intOf]
    · go_wp2_with fail
      refine (oc_a wr).mono ?_
      rintro e w2 ⟨rfl, m, rfl⟩
      go_wp2_with fail
      refine (ln_a _).mono ?_
      rintro e w3 ⟨rfl, rfl⟩
      go_wp2_with fail
      go_roundw
      case rel => exact ⟨Lib.hid (below_drewN HX.out m), .inr (.inr (.inr (.inr ⟨rfl, rfl⟩)))⟩
      case measure => simp [intOf]
    · go_wp2_with fail
      go_ret
      exact ⟨rfl, HX.out⟩
end Go.Proofs.YtnfjeeflcfmpbaaGreatDoor
