/- Joined texts (a claim has at most 60 files): Dj Dk Nm. -/
import Derived.Test.YtfbokhdimffabaaGreatDoorNl
import Derived.Test.YtfbokhdimffabaaGreatDoorNk
import Derived.Lib.SlBytesConst
import Derived.Laws.BytesString
import Derived.Test.YtfbokhdimffabaaGreatDoorNc
import Derived.Test.YtfbokhdimffabaaGreatDoorSl
/- The law's small trial. -/
set_option linter.unusedVariables false
set_option linter.unusedSimpArgs false
namespace Go.Proofs.YtfbokhdimffabaaGreatDoor
open Go.ChangeShapes Go.WideShapes Go.ChangeAt Go.RowKit

def f1L : List UInt8 := [80, 49, 32, 50, 32, 49, 32, 49, 48]
def f2L : List UInt8 := [80, 50, 32, 49, 32, 49, 32, 57, 32, 49, 48]
theorem numM_lt : ∀ (L : List UInt8) (n len : Nat), len ≤ 9 → n < 10 ^ len → (numM n len L).1.1 < 10 ^ 10
  | [], n, len, h9, hn => Nat.lt_of_lt_of_le hn (Nat.pow_le_pow_right (by decide) (by omega))
  | c :: r, n, len, h9, hn => by
    have hn9 : n < 10 ^ 10 := Nat.lt_of_lt_of_le hn (Nat.pow_le_pow_right (by decide) (by omega))
    rw [numM]
    split
    · rename_i hd
      split
      · show 0 < 10 ^ 10
        decide
      · refine numM_lt r _ _ (by omega) ?_
        obtain ⟨x, r', e, _, h2⟩ := st1_cons (L := c :: r) (lo := 48) (hi := 57) hd
        injection e with e1 e2
        subst e1
        rw [Nat.pow_succ]
        omega
    · exact hn9
theorem valT_lt (g : Bool) (L : List UInt8) (j : Nat) : valT g L j ≤ 9223372036854775807 := by
  unfold valT sampF
  cases g with
  | true => exact Nat.le_of_lt (Nat.lt_of_lt_of_le (numM_lt _ 0 0 (by decide) (by decide)) (by decide))
  | false =>
    show (if isDg (curT false L j) then digV (curT false L j) else 0) ≤ _
    split
    · rename_i hd
      obtain ⟨x, r', e, _, h2⟩ := st1_cons (L := curT false L j) (lo := 48) (hi := 57) hd
      rw [e]
      show x.toNat - 48 ≤ _
      omega
    · omega
theorem f1_head : headM f1L = some ([2, 1], [32, 49, 48]) := by decide +kernel
theorem f2_head : headM f2L = some ([1, 1, 9], [32, 49, 48]) := by decide +kernel
theorem f1_pix : pixP 1 1 (valT false [32, 49, 48]) 2 = [0, 0, 0, 65535, 65535, 65535, 65535, 65535] := by decide +kernel
theorem f1_good : goodT 1 1 2 1 2 (valT false [32, 49, 48]) := by
  refine ⟨fun j hj => ?_, by rw [f1_pix]; decide⟩
  match j, hj with
  | 0, _ => decide +kernel
  | 1, _ => decide +kernel
theorem f2_bad : ¬ goodT 2 9 1 1 1 (valT true [32, 49, 48]) := fun h => by
  have := h.1 0 (by decide)
  revert this
  decide +kernel
theorem f_text : (lnS 2 2 2 1 (topN 2 9 : Nat)).data.toList ++ txtD 2 9 2 (pxL [0, 0, 0, 65535, 65535, 65535, 65535, 65535] 2) 1 = [80, 50, 10, 50, 32, 49, 10, 57, 10, 48, 32, 57, 10] := by decide +kernel
theorem bs_cst (w : World) (t : TypeId) (l : List UInt8) (fz : Nat × Nat) : Bs (w.alloc (.cells (bytesV l).toArray t fz)) (w.heap.size + 1) (some ⟨w.heap.size, 0, none⟩) l := fun _ => by
  refine ⟨_, rfl, Nat.lt_succ_self _, fun j hj => ?_⟩
  have e : (⟨w.heap.size, 0, none⟩ : Addr).add j = ⟨w.heap.size, j, none⟩ := by unfold Addr.add; split <;> simp_all
  rw [e, cell_of_row _ w.heap.size j (bytesV l).toArray t fz (heap_alloc_new w _)]
  simpa using bytesV_get l j hj
theorem dec1 (c : Nat) (A : Option Addr) (hc : 9 ≤ c) (B : Nat) (w : World) (h : Bs w B A f1L) (hB : B ≤ w.heap.size) : Calls Tryz.prog 7 #[.slice A 9 c, .int .i64 9] w fun e w' => Below w.heap.size w w' ∧ ∃ A' c', e = .returned (.tuple #[.agg #[.int .i64 2, .int .i64 1, .slice A' 8 c'], .int .i64 0]) ∧ w'.ownsRow w.heap.size 42 1 (.slice A' 8 c') 8 (usV [0, 0, 0, 65535, 65535, 65535, 65535, 65535]) := by
  have hk : kindM f1L = 1 := by decide +kernel
  refine (decode_text A 9 c f1L [32, 49, 48] [2, 1] 9 1 2 1 2 2 1 rfl hc (by decide) ?_ f1_head hk rfl rfl rfl rfl (by decide) (by decide) (by decide) (by decide) rfl (by decide) (fun j => valT_lt _ _ j) (.inl (by decide +kernel)) ?_ (.inl rfl) (by decide +kernel) ?_ B w h hB).mono ?_
  · refine ⟨by decide +kernel, fun v L' h1 => ?_⟩
    rw [show fieldM (behM f1L) = some (2, [32, 49, 32, 49, 48]) by decide +kernel] at h1
    injection h1 with h1
    injection h1 with h2 h3
    subst h3
    refine ⟨by decide +kernel, fun v L' h1 => trivial⟩
  · intro j hj
    match j, hj with
    | 0, _ => decide +kernel
    | 1, _ => decide +kernel
  · intro j hj
    match j, hj with
    | 0, _ => decide +kernel
    | 1, _ => decide +kernel
  · rintro e w' ⟨hb, (⟨hno, _⟩ | ⟨_, A', c', he, ho⟩)⟩
    · exact absurd f1_good hno
    · have e1 : kGr 1 = false := rfl
      rw [e1, f1_pix] at he ho
      exact ⟨hb, A', c', he, ho⟩
theorem dec2 (c : Nat) (A : Option Addr) (hc : 11 ≤ c) (B : Nat) (w : World) (h : Bs w B A f2L) (hB : B ≤ w.heap.size) : Calls Tryz.prog 7 #[.slice A 11 c, .int .i64 9] w fun e w' => Below w.heap.size w w' ∧ e = .returned (.tuple #[.agg #[.int .i64 0, .int .i64 0, .slice none 0 0], .int .i64 9]) := by
  have hk : kindM f2L = 2 := by decide +kernel
  refine (decode_text A 11 c f2L [32, 49, 48] [1, 1, 9] 9 2 1 1 1 1 9 rfl hc (by decide) ?_ f2_head hk rfl rfl rfl rfl (by decide) (by decide) (by decide) (by decide) rfl (by decide) (fun j => valT_lt _ _ j) (.inl (by decide +kernel)) ?_ (.inl rfl) (by decide +kernel) ?_ B w h hB).mono ?_
  · refine ⟨by decide +kernel, fun v L' h1 => ?_⟩
    rw [show fieldM (behM f2L) = some (1, [32, 49, 32, 57, 32, 49, 48]) by decide +kernel] at h1
    injection h1 with h1
    injection h1 with h2 h3
    subst h3
    refine ⟨by decide +kernel, fun v L' h1 => ?_⟩
    rw [show fieldM [32, 49, 32, 57, 32, 49, 48] = some (1, [32, 57, 32, 49, 48]) by decide +kernel] at h1
    injection h1 with h1
    injection h1 with h2 h3
    subst h3
    exact ⟨by decide +kernel, fun v L' h1 => trivial⟩
  · intro j hj
    match j, hj with
    | 0, _ => decide +kernel
  · intro j hj
    match j, hj with
    | 0, _ => decide +kernel
  · rintro e w' ⟨hb, (⟨_, rfl⟩ | ⟨hg, _⟩)⟩
    · exact ⟨hb, rfl⟩
    · exact absurd hg f2_bad
end Go.Proofs.YtfbokhdimffabaaGreatDoor

/- The law's small trial, walked. -/
set_option linter.unusedVariables false
set_option linter.unusedSimpArgs false
namespace Go.Proofs.YtfbokhdimffabaaGreatDoor
open Go.ChangeShapes Go.WideShapes Go.ChangeAt Go.RowKit

theorem fold_bytes4 (l : List UInt8) : (l.map fun b => (b.toNat : Int)).foldl (fun r n => r.push (UInt8.ofNat n.toNat)) ByteArray.empty = ⟨l.toArray⟩ := by
  have g : ∀ (l : List UInt8) (a : Array UInt8), (l.map fun b => (b.toNat : Int)).foldl (fun r n => r.push (UInt8.ofNat n.toNat)) (⟨a⟩ : ByteArray) = ⟨a ++ l.toArray⟩ := by
    intro l
    induction l with
    | nil => intro a; simp
    | cons x r ih =>
      intro a
      rw [List.map_cons, List.foldl_cons]
      have e : (⟨a⟩ : ByteArray).push (UInt8.ofNat ((x.toNat : Int)).toNat) = ⟨a.push x⟩ := by
        rw [Int.toNat_natCast, UInt8.ofNat_toNat]; rfl
      rw [e, ih]
      simp
  have := g l #[]
  rw [show (#[] : Array UInt8) ++ l.toArray = l.toArray by simp] at this
  exact this
theorem bytesV_length4 {l : List UInt8} : ((l.map fun b => (b.toNat : Int)).map (Value.int .u8)).length = l.length := by simp
set_option maxRecDepth 100000 in
theorem str_bs4 {w : World} {B : Nat} {A : Option Addr} {l : List UInt8} (n : Nat) (hn : l.length = n) (h : Bs w B A l) (h0 : 0 < n) (c : Nat) :
    (convert 22 9 (.slice A n c)).run Tryz.prog w = .ok (.string ⟨l.toArray⟩) w := by
  subst hn
  obtain ⟨ad, rfl, _, hc⟩ := h h0
  have hl := run_loadCells_list (P := Tryz.prog) (w := w) ad (bytesV l) (fun j v hj => by
    have h1 := (List.getElem?_eq_some_iff.1 hj).1
    rw [bytesV_length] at h1
    rw [bytesV_get l j h1] at hj
    rw [hc j h1, hj])
  refine (run_convert_bytes_string (P := Tryz.prog) w 22 9 5 (some ad) l.length c Tryz.underlying22 Tryz.underlying5 Tryz.underlying9).trans ?_
  have hv : bytesV l = (l.map fun b => (b.toNat : Int)).map (Value.int .u8) := by simp [bytesV, bv]
  rw [hv] at hl
  rw [bytesV_length4] at hl
  refine (run_bytesToString w ad l.length c _ hl).trans ?_
  congr 2
  exact fold_bytes4 l
theorem RwG.addr4 {w : World} {base n c : Nat} {A : Option Addr} {xs : List Value} (h : RwG w base (.slice A n c) n xs) (hn : 0 < n) : ∃ g, A = some ⟨g, 0, none⟩ := by
  rcases h with h | ⟨_, g, cap, h2, _⟩
  · obtain ⟨g, rfl, _⟩ := row_form h hn
    exact ⟨g, rfl⟩
  · injection h2 with h2
    exact ⟨g, h2⟩
theorem RwG.bs {w : World} {base c n : Nat} {A : Option Addr} {l : List UInt8} (h : RwG w base (.slice A n c) n (Lib.byteCells l)) (hn : 0 < n) : Bs w w.heap.size A l := fun _ => by
  obtain ⟨g, rfl⟩ := RwG.addr4 h hn
  refine ⟨_, rfl, (h.lt g rfl).2, fun j hj => ?_⟩
  rw [Lib.add_plain, Nat.zero_add]
  exact h.cells (g := g) rfl j _ (bytesV_get l j hj)
set_option maxRecDepth 100000 in
set_option maxHeartbeats 4000000 in
theorem wakes_any (w : World) (hT : Pow10 w) : Calls Tryz.prog 6 #[] w fun e w' => e = .returned (.bool true) ∧ Below w.heap.size w w' := by
  have HTB := Lib.hid (Lib.tabBelow_of_tabIs hT)
  have kc := fun (w : World) (C : Array Value) (n c : Nat) => Lib.run_convert_bytes_const (P := Tryz.prog) w 22 5 C n c Tryz.underlying22 Tryz.underlying5
  have HB1 := Lib.hid (bs_cst w 5 f1L (9, 10))
  have HU1 := Lib.hid ((Below.refl w.heap.size w).alloc (Nat.le_refl _) (.cells (bytesV f1L).toArray 5 (9, 10)))
  simp only [f1L, bytesV, bv, List.map_cons, List.map_nil, UInt8.toNat_ofNat, Nat.reduceMod, Nat.reducePow, Int.cast_ofNat_Int] at HB1 HU1
  go_enter Tryz.func6, Tryz.ntmps6
  go_wp2_with fail
  obtain ⟨w1, hw1⟩ : ∃ w1, w.alloc (.cells #[.int .u8 80, .int .u8 49, .int .u8 32, .int .u8 50, .int .u8 32, .int .u8 49, .int .u8 32, .int .u8 49, .int .u8 48] 5 (9, 10)) = w1 := ⟨_, rfl⟩
  have hs1 : w1.heap.size = w.heap.size + 1 := by rw [← hw1]; exact World.size_alloc _ _
  rw [hw1] at HB1 HU1
  rw [hw1]
  clear hw1
  refine (dec1 9 _ (by omega) (w.heap.size + 1) w1 HB1.out (by omega)).mono ?_
  rintro e w2 ⟨hb2, A1, c1, rfl, ho2⟩
  have HA2 := Lib.hid (And.intro (HU1.out.trans (hb2.mono (by omega))) ho2)
  have hs2 := hb2.size
  clear hb2 ho2 HB1 HU1
  go_upto_region 2 with (fail)
  have k3 := Blk.new w2 26 #[.int .i64 2, .int .i64 1, .slice A1 8 c1]
  have u3 := (Upd.refl No w2).alloc (.cells #[.int .i64 2, .int .i64 1, .slice A1 8 c1] 26)
  have hs3 : (w2.alloc (.cells #[.int .i64 2, .int .i64 1, .slice A1 8 c1] 26)).heap.size = w2.heap.size + 1 := World.size_alloc _ _
  have HA3 := Lib.hid (And.intro (HA2.out.1.trans (u3.fresh.mono HA2.out.1.size)) (And.intro (own_upd HA2.out.2 u3 (fun _ _ => id)) k3))
  obtain ⟨mb, hmb⟩ : ∃ mb, w2.heap.size = mb := ⟨_, rfl⟩
  rw [hmb] at HA3 hs3
  try rw [hmb]
  clear k3 u3 HA2
  generalize w2.alloc (.cells #[.int .i64 2, .int .i64 1, .slice A1 8 c1] 26) = w3 at *
  have HB3 := Lib.hid (bs_cst w3 5 f2L (11, 12))
  have HU3 := Lib.hid ((Below.refl w3.heap.size w3).alloc (Nat.le_refl _) (.cells (bytesV f2L).toArray 5 (11, 12)))
  simp only [f2L, bytesV, bv, List.map_cons, List.map_nil, UInt8.toNat_ofNat, Nat.reduceMod, Nat.reducePow, Int.cast_ofNat_Int] at HB3 HU3
  have HS3 := Lib.hid hs3
  clear hs3 hmb
  go_wp2_with fail
  obtain ⟨w4, hw4⟩ : ∃ w4, w3.alloc (.cells #[.int .u8 80, .int .u8 50, .int .u8 32, .int .u8 49, .int .u8 32, .int .u8 49, .int .u8 32, .int .u8 57, .int .u8 32, .int .u8 49, .int .u8 48] 5 (11, 12)) = w4 := ⟨_, rfl⟩
  have hs4 : w4.heap.size = w3.heap.size + 1 := by rw [← hw4]; exact World.size_alloc _ _
  rw [hw4] at HB3 HU3
  rw [hw4]
  clear hw4
  refine (dec2 11 _ (by omega) (w3.heap.size + 1) w4 HB3.out (by omega)).mono ?_
  rintro e w5 ⟨hb5, rfl⟩
  have HU5 := Lib.hid (HU3.out.trans (hb5.mono (by omega)))
  clear hb5 HB3 HU3 hs4
  go_upto_region 3 with (fail)
  have HA6 : Hid (Below w.heap.size w (w5.alloc (.cells #[.int .i64 0, .int .i64 0, .slice none 0 0] 26)) ∧ (w5.alloc (.cells #[.int .i64 0, .int .i64 0, .slice none 0 0] 26)).ownsRow w1.heap.size 42 1 (.slice A1 8 c1) 8 (usV [0, 0, 0, 65535, 65535, 65535, 65535, 65535]) ∧ Blk (w5.alloc (.cells #[.int .i64 0, .int .i64 0, .slice none 0 0] 26)) mb 26 #[.int .i64 2, .int .i64 1, .slice A1 8 c1]) := Lib.hid (by
    have u6 : Upd No w3 (w5.alloc (.cells #[.int .i64 0, .int .i64 0, .slice none 0 0] 26)) := (Upd.of_fresh HU5.out).alloc _
    exact ⟨HA3.out.1.trans (u6.fresh.mono HA3.out.1.size), own_upd HA3.out.2.1 u6 (fun _ _ => id), HA3.out.2.2.upd u6 id⟩)
  clear HA3 HU5
  generalize w5.alloc (.cells #[.int .i64 0, .int .i64 0, .slice none 0 0] 26) = w6 at *
  have m0 : w6.cell? ⟨mb, 0, none⟩ = some (.int .i64 2) := HA6.out.2.2.cell 0
  have m1 : w6.cell? ⟨mb, 1, none⟩ = some (.int .i64 1) := HA6.out.2.2.cell 1
  have m2 : w6.cell? ⟨mb, 2, none⟩ = some (.slice A1 8 c1) := HA6.out.2.2.cell 2
  obtain ⟨gA, rfl, hc8, _⟩ := row_form HA6.out.2.1 (by decide)
  have HEN := Lib.hid (encode_any 2 1 2 9 (some ⟨gA, 0, none⟩) 8 c1 [0, 0, 0, 65535, 65535, 65535, 65535, 65535] rfl hc8 (by intro v hv; simp at hv; omega) ⟨by omega, by omega⟩ ⟨by omega, by omega⟩ w6.heap.size w6 (HTB.out w6 HA6.out.1) (Vs.of_own HA6.out.2.1) (Nat.le_refl _))
  unfold imgV at HEN
  go_wp2_with fail
  refine HEN.out.mono ?_
  rintro e w7 (⟨hg, _⟩ | ⟨_, hg, _⟩ | ⟨_, _, A2, n2, c2, b, rfl, hf, hr, hb7⟩)
  · exact absurd hg (by decide +kernel)
  · exact absurd (show (1 : Int) ≤ 2 ∧ (2 : Int) ≤ 6 ∧ (1 : Int) ≤ 9 ∧ (9 : Int) ≤ 65535 by omega) hg
  have hbb : b = [80, 50, 10, 50, 32, 49, 10, 57, 10, 48, 32, 57, 10] := by
    rcases hf with ⟨_, h⟩ | ⟨h, _⟩
    · rw [h]; exact f_text
    · cases h
  subst hbb
  have hn2 : n2 = 13 := by have := hr.len; rw [← this]; rfl
  subst hn2
  have hst := str_bs4 13 rfl (hr.bs (by decide)) (by decide) c2
  have b7 := HA6.out.2.2.upd (Upd.of_fresh hb7) id
  have o7 := own_upd HA6.out.2.1 (Upd.of_fresh hb7) (fun _ _ => id)
  have m0 : w7.cell? ⟨mb, 0, none⟩ = some (.int .i64 2) := b7.cell 0
  have m2 : w7.cell? ⟨mb, 2, none⟩ = some (.slice (some ⟨gA, 0, none⟩) 8 c1) := b7.cell 2
  have p0 : w7.cell? ⟨gA, 0, none⟩ = some (.int .u16 0) := urow_at o7 0 (by decide)
  have p3 : w7.cell? ⟨gA, 3, none⟩ = some (.int .u16 65535) := urow_at o7 3 (by decide)
  have p4 : w7.cell? ⟨gA, 4, none⟩ = some (.int .u16 65535) := urow_at o7 4 (by decide)
  have HFB := Lib.hid (HA6.out.1.trans (hb7.mono HA6.out.1.size))
  clear b7 o7 hr hf hb7 HEN HA6
  go_wp2_with fail
  go_ret
  exact ⟨rfl, HFB.out⟩

end Go.Proofs.YtfbokhdimffabaaGreatDoor

/- The document's samples of a pixel. -/
set_option linter.unusedVariables false
set_option linter.unusedSimpArgs false
namespace Go.Proofs.YtfbokhdimffabaaGreatDoor
open Go.ChangeShapes Go.WideShapes Go.ChangeAt Go.RowKit

theorem refDown_ok (s : Int) (m : Nat) (hs : 0 ≤ s ∧ s ≤ 65535) (h1 : 1 ≤ m) (h2 : m ≤ 65535) (w : World) : Calls Tryz.prog 87 #[.int .u16 s, .int .i64 (m : Nat)] w fun e w' => e = .returned (.tuple #[.int .i64 (downN s (m : Nat)), .int .i64 0]) ∧ w' = w := by
  refine (refDown_any s (m : Nat) hs ⟨by omega, by omega⟩ w).mono ?_
  rintro e w' ⟨rfl, ⟨_, rfl⟩ | ⟨h, _⟩⟩
  · exact ⟨rfl, rfl⟩
  · exact absurd ⟨by omega, by omega⟩ h
def SmpR (k top : Nat) (x : Col) (w : World) (e : Ending) (w' : World) : Prop := ∃ b, e = .returned (.slice (some ⟨b, 0, none⟩) (plN k) (plN k)) ∧ Blk w' b 3 (intsV ((partM k x).map (sampM k top))).toArray ∧ Below w.heap.size w w'
theorem smpR_of {k top : Nat} {x : Col} {w w1 : World} {n : Nat} {vs : List Int} (hn : plN k = n) (hv : (partM k x).map (sampM k top) = vs) (hb : Below w.heap.size w w1) : SmpR k top x w (.returned (.slice (some ⟨w1.heap.size, 0, none⟩) n n)) (w1.alloc (.cells (intsV vs).toArray 3)) := by
  subst hn
  subst hv
  exact ⟨_, rfl, Blk.new _ _ _, hb.alloc hb.size _⟩
theorem bitS_one {k top : Nat} {s : Int} (hk : k = 1 ∨ k = 4) (hs : 0 ≤ s ∧ s ≤ 65535) : sampM k top s = if s < 32768 then 1 else 0 := by
  have hg : kGr k = false := by rcases hk with rfl | rfl <;> rfl
  unfold sampM downN turN topN
  rw [hg]
  simp only [Bool.false_eq_true, if_false]
  split <;> omega
set_option maxRecDepth 100000 in
set_option maxHeartbeats 4000000 in
theorem refSamples_any (k top : Nat) (hk1 : 1 ≤ k) (hk6 : k ≤ 6) (h1 : 1 ≤ top) (h2 : top ≤ 65535) (x : Col) (hx : ColK x) (w : World) :
    Calls Tryz.prog 65 #[.agg #[.int .u16 x.r, .int .u16 x.g, .int .u16 x.b, .int .u16 x.a], .int .i64 (k : Nat), .int .i64 (top : Nat)] w (SmpR k top x w) := by
  have HL := Lib.hid (fun V => refLuma_any x.r x.g x.b x.a hx.1 hx.2.1 hx.2.2 V)
  have HD := Lib.hid (fun s hs V => refDown_ok s top hs h1 h2 V)
  have hlm := lum16 hx
  have bel0 := Lib.hid ((Below.refl w.heap.size w).alloc (Nat.le_refl _) (.cells #[.int .u16 x.r, .int .u16 x.g, .int .u16 x.b, .int .u16 x.a] 70))
  obtain ⟨hxr, hxg, hxb⟩ := hx
  obtain ⟨hb, hhb⟩ : ∃ hb, w.heap.size = hb := ⟨_, rfl⟩
  by_cases hb4 : k = 1 ∨ k = 4
  · have HP : Hid (∀ v : Int, (v = if lumS x.r x.g x.b < 32768 then 1 else 0) → (partM k x).map (sampM k top) = [v]) := Lib.hid (fun v hv => by
      have hc : kCo k = false := by rcases hb4 with rfl | rfl <;> rfl
      rw [partM, hc, if_neg (by simp), List.map_cons, List.map_nil, bitS_one hb4 hlm, hv])
    have HN : Hid (plN k = 1) := Lib.hid (by rcases hb4 with rfl | rfl <;> rfl)
    by_cases hl : lumS x.r x.g x.b < 32768
    · have HPv := Lib.hid (HP.out 1 (by rw [if_pos hl]))
      clear hlm hxr hxg hxb HP
      generalize lumS x.r x.g x.b = lm at *
      have hl2 := hl
      rcases hb4 with rfl | rfl
      all_goals
        go_enter Tryz.func65, Tryz.ntmps65
        go_wp2_with fail
        refine (HL.out _).mono ?_
        rintro e w2 ⟨rfl, hb2⟩
        have HB := Lib.hid (bel0.out.trans (hb2.mono bel0.out.size))
        clear hb2
        go_wp2_with fail
        go_ret
        exact smpR_of HN.out HPv.out HB.out
    · have HPv := Lib.hid (HP.out 0 (by rw [if_neg hl]))
      clear hlm hxr hxg hxb HP
      generalize lumS x.r x.g x.b = lm at *
      have hl2 : ¬ lm < 32768 := hl
      rcases hb4 with rfl | rfl
      all_goals
        go_enter Tryz.func65, Tryz.ntmps65
        go_wp2_with fail
        refine (HL.out _).mono ?_
        rintro e w2 ⟨rfl, hb2⟩
        have HB := Lib.hid (bel0.out.trans (hb2.mono bel0.out.size))
        clear hb2
        go_wp2_with fail
        go_ret
        exact smpR_of HN.out HPv.out HB.out
  · by_cases hg5 : k = 2 ∨ k = 5
    · have HPv : Hid ((partM k x).map (sampM k top) = [downN (lumS x.r x.g x.b) (top : Nat)]) := Lib.hid (by
        rcases hg5 with rfl | rfl <;> rfl)
      have HN : Hid (plN k = 1) := Lib.hid (by rcases hg5 with rfl | rfl <;> rfl)
      have HDl := Lib.hid (fun V => HD.out _ hlm V)
      clear hlm hxr hxg hxb HD
      generalize lumS x.r x.g x.b = lm at *
      generalize downN lm (top : Nat) = dv at *
      rcases hg5 with rfl | rfl
      all_goals
        go_enter Tryz.func65, Tryz.ntmps65
        go_wp2_with fail
        refine (HL.out _).mono ?_
        rintro e w2 ⟨rfl, hb2⟩
        have HB := Lib.hid (bel0.out.trans (hb2.mono bel0.out.size))
        clear hb2
        go_wp2_with fail
        refine (HDl.out _).mono ?_
        rintro e w3 ⟨rfl, rfl⟩
        go_wp2_with fail
        go_ret
        exact smpR_of HN.out HPv.out HB.out
    · have hc3 : k = 3 ∨ k = 6 := by omega
      have HPv : Hid ((partM k x).map (sampM k top) = [downN x.r (top : Nat), downN x.g (top : Nat), downN x.b (top : Nat)]) := Lib.hid (by
        rcases hc3 with rfl | rfl <;> rfl)
      have HN : Hid (plN k = 3) := Lib.hid (by rcases hc3 with rfl | rfl <;> rfl)
      have HDr := Lib.hid (fun V => HD.out _ hxr V)
      have HDg := Lib.hid (fun V => HD.out _ hxg V)
      have HDb := Lib.hid (fun V => HD.out _ hxb V)
      have k0 := Lib.hid (Blk.new w 70 #[.int .u16 x.r, .int .u16 x.g, .int .u16 x.b, .int .u16 x.a])
      rw [hhb] at k0
      clear hlm hxr hxg hxb HD
      generalize downN x.r (top : Nat) = dr at *
      generalize downN x.g (top : Nat) = dg at *
      generalize downN x.b (top : Nat) = db at *
      rcases hc3 with rfl | rfl
      all_goals
        go_enter Tryz.func65, Tryz.ntmps65
        go_wp2_with fail
        refine (HL.out _).mono ?_
        rintro e w2 ⟨rfl, hb2⟩
        have HB := Lib.hid (bel0.out.trans (hb2.mono bel0.out.size))
        have kk := k0.out.upd (Upd.of_fresh hb2) id
        have y0 : w2.cell? ⟨hb, 0, none⟩ = some (.int .u16 x.r) := kk.cell 0
        have y1 : w2.cell? ⟨hb, 1, none⟩ = some (.int .u16 x.g) := kk.cell 1
        have y2 : w2.cell? ⟨hb, 2, none⟩ = some (.int .u16 x.b) := kk.cell 2
        clear hb2 kk
        go_wp2_with fail
        refine (HDr.out _).mono ?_
        rintro e w3 ⟨rfl, rfl⟩
        go_wp2_with fail
        refine (HDg.out _).mono ?_
        rintro e w4 ⟨rfl, rfl⟩
        go_wp2_with fail
        refine (HDb.out _).mono ?_
        rintro e w5 ⟨rfl, rfl⟩
        go_wp2_with fail
        go_ret
        exact smpR_of HN.out HPv.out HB.out
end Go.Proofs.YtfbokhdimffabaaGreatDoor
