/- The nearest colour of a palette, of several the first; no other one is nearer: for every palette and every colour, no condition. -/
import Derived.Test.YtibgjklfbfahfaaTmg
import Derived.Test.YtibgjklfbfahfaaTmo
import Derived.Test.YtibgjklfbfahfaaTmr
import Derived.Deep.RegionHeld3
import Derived.Deep.CondSized
namespace Go.Proofs.Ytibgjklfbfahfaa
open Go.ChangeShapes Go.WideShapes Go.ChangeAt Go.RowKit
namespace TonesNearest

theorem ret_tt {a : Bool} (h : a = true) : Ending.returned (.bool a) = .returned (.bool true) := by rw [h]
theorem belowStep {W w w' : World} (h : Below W.heap.size W w) (k : Below w.heap.size w w') : Below W.heap.size W w' := h.trans (k.mono h.size)
def seven : Col := ⟨7, 0, 0, 0, by omega, by omega, by omega, by omega⟩
set_option maxHeartbeats 4000000 in
set_option maxRecDepth 100000 in
theorem walk (A : Option Addr) (cap : Nat) (l : List Col) (c : Col) (w : World) (hcs : Cs w w.heap.size A l) (hl : l.length ≤ 17592186043904) :
    Calls Try.prog 8 #[.slice A l.length cap, .agg #[.int .u16 c.r, .int .u16 c.g, .int .u16 c.b, .int .u16 c.a]] w fun e w' => e = .returned (.bool true) ∧ Below w.heap.size w w' := by
  obtain ⟨n, hn⟩ : ∃ n, l.length = n := ⟨_, rfl⟩
  rw [hn] at hl ⊢
  go_enter Try.func8, Try.ntmps8
  go_wp2_with fail
  have hb0 := (Below.refl w.heap.size w).alloc (Nat.le_refl _) (.cells #[.int .u16 c.r, .int .u16 c.g, .int .u16 c.b, .int .u16 c.a] 36)
  have hx := Blk.new w 36 #[.int .u16 c.r, .int .u16 c.g, .int .u16 c.b, .int .u16 c.a]
  generalize w.alloc (.cells #[.int .u16 c.r, .int .u16 c.g, .int .u16 c.b, .int .u16 c.a] 36) = W0 at *
  refine (wakes_any W0).mono ?_
  rintro e w1 ⟨rfl, hb1⟩
  have HX1 := Lib.hid (hx.upd (Upd.of_fresh hb1) id)
  have hB1 := hb0.trans (hb1.mono hb0.size)
  have HC1 := Lib.hid (hcs.below hB1)
  have HB1 := Lib.hid hB1
  have HN := Lib.hid hn
  have HC0 := Lib.hid hcs
  clear hb0 hx hb1 hB1 hcs hn
  -- the copy of the palette, and one colour more
  obtain ⟨A2, c2, w2, hrun2, ho2, hg2⟩ := append_cols w1.heap.size (w1.alloc (.cells #[] 36)) (.slice (some ⟨w1.heap.size, 0, none⟩) 0 0) 0 [] (World.ownsRow_made w1 #[] 0 (Nat.le_refl _) (by omega) rfl) (by simp) w.heap.size A n cap l HN.out (HC1.out.below ((Below.refl w.heap.size w1).alloc HB1.out.size _)) (by omega) 46
  rw [Nat.zero_add] at hrun2 ho2
  rw [List.nil_append] at ho2
  have hb2 : Below w1.heap.size w1 w2 := ((Below.refl w1.heap.size w1).alloc (Nat.le_refl _) _).grown hg2 (by simp) (by simp [Value.ownBlock])
  have hs2 := hb2.size
  have ho2' : (w2.alloc (.cells #[.int .u16 7, .int .u16 0, .int .u16 0, .int .u16 0] 36)).ownsRow w1.heap.size 36 4 (.slice A2 n c2) n (colsV l) := own_upd ho2 ((Upd.refl No w2).alloc _) (fun _ _ => id)
  have h7 : Cs (w2.alloc (.cells #[.int .u16 7, .int .u16 0, .int .u16 0, .int .u16 0] 36)) (w2.heap.size + 1) (some ⟨w2.heap.size, 0, none⟩) [seven] := fun _ => by
    refine ⟨w2.heap.size, 0, rfl, by omega, fun j hj => ?_⟩
    obtain rfl : j = 0 := by simp at hj; omega
    have hbk := Blk.new w2 36 #[.int .u16 7, .int .u16 0, .int .u16 0, .int .u16 0]
    exact ⟨hbk.cell 0, hbk.cell 1, hbk.cell 2, hbk.cell 3⟩
  obtain ⟨A3, c3, w3, hrun3, ho3, hg3⟩ := append_cols w1.heap.size (w2.alloc (.cells #[.int .u16 7, .int .u16 0, .int .u16 0, .int .u16 0] 36)) (.slice A2 n c2) n (colsV l) ho2' (by simp; omega) (w2.heap.size + 1) (some ⟨w2.heap.size, 0, none⟩) 1 1 [seven] rfl h7 (by omega) 46
  have hb3 : Below w1.heap.size w1 w3 := (hb2.alloc hs2 _).grown hg3 (by simp; omega) (fun k hk => (ho2.lt k hk).1)
  obtain ⟨g3, rfl, hnc, _, hg1, hg3s⟩ := crow_form ho3 (by omega)
  have HC3 := Lib.hid (Cs.of_own ho3 hg3s)
  have t3 := fun (i : Nat) (v : Value) (h : (colsV [seven])[i]? = some v) => crow_cell ho3 (n * 4 + i) v (by rw [List.getElem?_append_right (by rw [colsV_length, HN.out]; omega), colsV_length, HN.out, Nat.add_sub_cancel_left]; exact h)
  have z0 := t3 0 (.int .u16 7) rfl
  have z1 := t3 1 (.int .u16 0) rfl
  have z2 := t3 2 (.int .u16 0) rfl
  have z3 := t3 3 (.int .u16 0) rfl
  rw [Nat.add_zero] at z0
  have hX3 := HX1.out.upd (Upd.of_fresh hb3) id
  have x0 := hX3.cell 0; have x1 := hX3.cell 1; have x2 := hX3.cell 2; have x3 := hX3.cell 3
  simp only [List.getElem?_toArray, List.getElem?_cons_zero, List.getElem?_cons_succ] at x0 x1 x2 x3
  have HX3 := Lib.hid hX3
  have HB3 := Lib.hid (HB1.out.trans (hb3.mono HB1.out.size))
  have hw1 : w.heap.size < w1.heap.size := HX1.out.lt
  have hw3 : w.heap.size < w3.heap.size := HX3.out.lt
  have q1 : (n : Int) ≤ (c3 : Int) := by omega
  have HR2 := Lib.hid hrun2
  have HR3 := Lib.hid hrun3
  clear t3 hX3 hb3 ho3 hg3 h7 ho2' ho2 hg2 hb2 hrun2 hrun3 hs2 HX1
  go_wp2_with (first
    | (at_builtin; refine wpList_append_run rfl (.tmp 10) (.tmp 11) _ rfl (by rfl) (by rfl) HR2.out ?_)
    | (at_builtin; refine wpList_append_run rfl (.tmp 12) (.tmp 14) _ rfl (by rfl) (by rfl) HR3.out ?_))
  have hsl3 : Hid (Cs w3.drew w3.drew.heap.size (some ⟨g3, 0, none⟩) l) := HC3
  go_region_held3 (fun w' => w'.cell? ⟨w.heap.size, 0, none⟩ = some (.int .u16 c.r) ∧ w'.cell? ⟨w.heap.size, 1, none⟩ = some (.int .u16 c.g) ∧ w'.cell? ⟨w.heap.size, 2, none⟩ = some (.int .u16 c.b) ∧ w'.cell? ⟨w.heap.size, 3, none⟩ = some (.int .u16 c.a))
    (go_keep)
    ((go_at_call 21; refine (nearest_any (some ⟨g3, 0, none⟩) c3 n l c HN.out hl _ hsl3.out).mono ?_; rintro e w4 ⟨z, b, rfl, hnt, hb4⟩; have hb5 : Below w3.heap.size w3 w4 := of_drewN (n := 1) hb4; have y0 := (hb5.cell (p := ⟨w.heap.size, 0, none⟩) hw3).trans x0; have y1 := (hb5.cell (p := ⟨w.heap.size, 1, none⟩) hw3).trans x1; have y2 := (hb5.cell (p := ⟨w.heap.size, 2, none⟩) hw3).trans x2; have y3 := (hb5.cell (p := ⟨w.heap.size, 3, none⟩) hw3).trans x3))
  have HNT := Lib.hid hnt
  have hX4 := HX3.out.upd (Upd.of_fresh hb5) id
  have HX4 := Lib.hid hX4
  have HB4 := Lib.hid (HB3.out.trans (hb5.mono HB3.out.size))
  have HC4 := Lib.hid (HC0.out.below HB4.out)
  have hs4 := HB4.out.size
  have z0 := (hb5.cell (p := ⟨g3, n * 4, none⟩) hg3s).trans z0
  have z1 := (hb5.cell (p := ⟨g3, n * 4 + 1, none⟩) hg3s).trans z1
  have z2 := (hb5.cell (p := ⟨g3, n * 4 + 2, none⟩) hg3s).trans z2
  have z3 := (hb5.cell (p := ⟨g3, n * 4 + 3, none⟩) hg3s).trans z3
  have hg4 := Nat.lt_of_lt_of_le hg3s hb5.size
  have q2 : (n : Int) < (n : Int) + 1 := by omega
  clear hnt hX4 hb4 hb5 x0 x1 x2 x3 hsl3 HR2 HR3
  go_wp2_with fail
  refine (refNearest_any A cap n l c HN.out hl w.heap.size w4 HC4.out hs4).mono ?_
  rintro e w5 ⟨z', b', rfl, hnt, hb5⟩
  obtain rfl : z = z' := HNT.out.one hnt
  have u0 := (hb5.cell (p := ⟨g3, n * 4, none⟩) hg4).trans z0
  have u1 := (hb5.cell (p := ⟨g3, n * 4 + 1, none⟩) hg4).trans z1
  have u2 := (hb5.cell (p := ⟨g3, n * 4 + 2, none⟩) hg4).trans z2
  have u3 := (hb5.cell (p := ⟨g3, n * 4 + 3, none⟩) hg4).trans z3
  have HX5 := Lib.hid (HX4.out.upd (Upd.of_fresh hb5) id)
  have HB5 := Lib.hid (HB4.out.trans (hb5.mono HB4.out.size))
  clear hnt hb5 z0 z1 z2 z3 y0 y1 y2 y3
  go_wp2_with fail
  go_loopw [38] (fun i wr => ∃ k : Nat, k ≤ n ∧ i = .int .i64 (k : Int) ∧ Hid (Below w5.heap.size w5 wr)) (fun i _ => n - (intOf i).toNat)
  case atStart => exact ⟨0, Nat.zero_le _, rfl, Lib.hid (Below.refl _ _)⟩
  case round =>
    obtain ⟨k, hk, rfl, HBR⟩ := hrel
    by_cases hlt : k < n
    · obtain ⟨h, _⟩ | ⟨j, rfl, hj, hbj, hmin, hfst⟩ := HNT.out
      case inl => omega
      have hmk := hmin k hlt
      have hfk := hfst k
      have hkl : k < l.length := by rw [HN.out]; exact hlt
      have hjl : j < l.length := by rw [HN.out]; exact hj
      rw [farAt_of hkl, farAt_of hjl] at hmk hfk
      have HBW := Lib.hid (HB5.out.trans (HBR.out.mono HB5.out.size))
      obtain ⟨pb, off, rfl, hpb, c0, c1, c2, c3'⟩ := (HC0.out.below HBW.out).at_ hkl
      obtain ⟨pb', off', he, _, d0, d1, d2, d3⟩ := (HC0.out.below HBW.out).at_ hjl
      injection he with he
      injection he with he1 he2 _
      subst he1 he2
      have hxr := HX5.out.upd (Upd.of_fresh HBR.out) id
      have x0 := hxr.cell 0; have x1 := hxr.cell 1; have x2 := hxr.cell 2; have x3 := hxr.cell 3
      simp only [List.getElem?_toArray, List.getElem?_cons_zero, List.getElem?_cons_succ] at x0 x1 x2 x3
      generalize l[k] = y at c0 c1 c2 c3' hmk hfk
      generalize l[j] = u at d0 d1 d2 d3 hmk hfk
      have hsz : w.heap.size < wr.heap.size := hxr.lt
      have hpw : pb < wr.heap.size := by omega
      have hfull : Hid (∀ w', Below wr.heap.size wr w' → (Below wr.heap.size wr w' ∧ w'.cell? ⟨w.heap.size, 0, none⟩ = some (.int .u16 c.r) ∧ w'.cell? ⟨w.heap.size, 1, none⟩ = some (.int .u16 c.g) ∧ w'.cell? ⟨w.heap.size, 2, none⟩ = some (.int .u16 c.b) ∧ w'.cell? ⟨w.heap.size, 3, none⟩ = some (.int .u16 c.a) ∧ w'.cell? ⟨pb, off + k * 4, none⟩ = some (.int .u16 y.r) ∧ w'.cell? ⟨pb, off + k * 4 + 1, none⟩ = some (.int .u16 y.g) ∧ w'.cell? ⟨pb, off + k * 4 + 2, none⟩ = some (.int .u16 y.b) ∧ w'.cell? ⟨pb, off + k * 4 + 3, none⟩ = some (.int .u16 y.a) ∧ w'.cell? ⟨pb, off + j * 4, none⟩ = some (.int .u16 u.r) ∧ w'.cell? ⟨pb, off + j * 4 + 1, none⟩ = some (.int .u16 u.g) ∧ w'.cell? ⟨pb, off + j * 4 + 2, none⟩ = some (.int .u16 u.b) ∧ w'.cell? ⟨pb, off + j * 4 + 3, none⟩ = some (.int .u16 u.a))) := Lib.hid fun w' hb => ⟨hb, (hb.cell (p := ⟨w.heap.size, 0, none⟩) hsz).trans x0, (hb.cell (p := ⟨w.heap.size, 1, none⟩) hsz).trans x1, (hb.cell (p := ⟨w.heap.size, 2, none⟩) hsz).trans x2, (hb.cell (p := ⟨w.heap.size, 3, none⟩) hsz).trans x3, (hb.cell (p := ⟨pb, off + k * 4, none⟩) hpw).trans c0, (hb.cell (p := ⟨pb, off + k * 4 + 1, none⟩) hpw).trans c1, (hb.cell (p := ⟨pb, off + k * 4 + 2, none⟩) hpw).trans c2, (hb.cell (p := ⟨pb, off + k * 4 + 3, none⟩) hpw).trans c3', (hb.cell (p := ⟨pb, off + j * 4, none⟩) hpw).trans d0, (hb.cell (p := ⟨pb, off + j * 4 + 1, none⟩) hpw).trans d1, (hb.cell (p := ⟨pb, off + j * 4 + 2, none⟩) hpw).trans d2, (hb.cell (p := ⟨pb, off + j * 4 + 3, none⟩) hpw).trans d3⟩
      have e1 : decide (farI y c < farI u c) = false := decide_eq_false (by omega)
      have q3 : (k : Int) < (n : Int) := by omega
      have q4 : (j : Int) < (n : Int) := by omega
      have hf := farI_bd y c
      have hf2 := farI_bd u c
      clear hbj hmin hfst hkl hjl hxr u0 u1 u2 u3
      by_cases hkj : k < j
      · have e2 : decide (farI y c = farI u c) = false := decide_eq_false (by have := hfk hkj; omega)
        have e4 : (farI y c == farI u c) = false := beq_eq_false_iff_ne.2 (of_decide_eq_false e2)
        clear hfk hmk
        go_wp2_with fail
        go_region_held3 (fun w' => Below wr.heap.size wr w' ∧ w'.cell? ⟨w.heap.size, 0, none⟩ = some (.int .u16 c.r) ∧ w'.cell? ⟨w.heap.size, 1, none⟩ = some (.int .u16 c.g) ∧ w'.cell? ⟨w.heap.size, 2, none⟩ = some (.int .u16 c.b) ∧ w'.cell? ⟨w.heap.size, 3, none⟩ = some (.int .u16 c.a) ∧ w'.cell? ⟨pb, off + k * 4, none⟩ = some (.int .u16 y.r) ∧ w'.cell? ⟨pb, off + k * 4 + 1, none⟩ = some (.int .u16 y.g) ∧ w'.cell? ⟨pb, off + k * 4 + 2, none⟩ = some (.int .u16 y.b) ∧ w'.cell? ⟨pb, off + k * 4 + 3, none⟩ = some (.int .u16 y.a) ∧ w'.cell? ⟨pb, off + j * 4, none⟩ = some (.int .u16 u.r) ∧ w'.cell? ⟨pb, off + j * 4 + 1, none⟩ = some (.int .u16 u.g) ∧ w'.cell? ⟨pb, off + j * 4 + 2, none⟩ = some (.int .u16 u.b) ∧ w'.cell? ⟨pb, off + j * 4 + 3, none⟩ = some (.int .u16 u.a))
          (first | exact hfull.out _ (Below.refl _ _) | exact hfull.out _ (Below.drew (Below.refl _ _)) | exact hfull.out _ (Below.drew (And.left (by assumption))) | exact hfull.out _ (And.left (by assumption)) | exact hfull.out _ (by assumption))
          ((go_at_call 23; refine (far_any _ _ _).mono ?_; rintro e w6 ⟨rfl, hb6⟩; have hc6 := belowStep (And.left (by assumption)) hb6))
        have hBf := Lib.hid (HBR.out.trans (hc6.mono HBR.out.size))
        clear hc6 hb6 hfull
        go_wp2_with fail
        go_roundw
        case rel => exact ⟨k + 1, by omega, by go_num, hBf⟩
        case measure => simp [intOf]; omega
      · have e2 : decide (k < j) = false := decide_eq_false hkj
        have e3 : decide ((k : Int) < (j : Int)) = false := decide_eq_false (by omega)
        clear hfk hmk
        go_wp2_with fail
        refine wp_region_held_drew (S := (fun w' => Below wr.heap.size wr w' ∧ w'.cell? ⟨w.heap.size, 0, none⟩ = some (.int .u16 c.r) ∧ w'.cell? ⟨w.heap.size, 1, none⟩ = some (.int .u16 c.g) ∧ w'.cell? ⟨w.heap.size, 2, none⟩ = some (.int .u16 c.b) ∧ w'.cell? ⟨w.heap.size, 3, none⟩ = some (.int .u16 c.a) ∧ w'.cell? ⟨pb, off + k * 4, none⟩ = some (.int .u16 y.r) ∧ w'.cell? ⟨pb, off + k * 4 + 1, none⟩ = some (.int .u16 y.g) ∧ w'.cell? ⟨pb, off + k * 4 + 2, none⟩ = some (.int .u16 y.b) ∧ w'.cell? ⟨pb, off + k * 4 + 3, none⟩ = some (.int .u16 y.a) ∧ w'.cell? ⟨pb, off + j * 4, none⟩ = some (.int .u16 u.r) ∧ w'.cell? ⟨pb, off + j * 4 + 1, none⟩ = some (.int .u16 u.g) ∧ w'.cell? ⟨pb, off + j * 4 + 2, none⟩ = some (.int .u16 u.b) ∧ w'.cell? ⟨pb, off + j * 4 + 3, none⟩ = some (.int .u16 u.a))) (by kernel_rfl) (hfull.out _ (Below.drew (Below.refl _ _))) (fun hH => ?_)
        refine wpAnyH_take (i := 0) (v := .slice (some ⟨pb, off, none⟩) n cap) rfl (by kernel_rfl) (by kernel_rfl) (by kernel_rfl) (fun _ _ _ h => h) (Or.inl ⟨by rfl, ?_⟩) hH ?_
        · intro wz hz
          obtain ⟨_, z1, z2, z3, z4, z5, z6, z7, z8, z9, z10, z11, z12⟩ := hz
          go_simp
        try simp only [Act.put, List.getElem_toArray, List.getElem_cons_zero, List.setIfInBounds_toArray, List.set_cons_zero, List.set_cons_succ]
        refine wpAnyH_take (i := 1) (v := .int .i64 (k : Int)) rfl (by kernel_rfl) (by kernel_rfl) (by kernel_rfl) (fun _ _ _ h => h) (Or.inl ⟨by rfl, ?_⟩) hH ?_
        · intro wz hz
          obtain ⟨_, z1, z2, z3, z4, z5, z6, z7, z8, z9, z10, z11, z12⟩ := hz
          go_simp
        try simp only [Act.put, List.getElem_toArray, List.getElem_cons_succ, List.getElem_cons_zero, List.setIfInBounds_toArray, List.set_cons_zero, List.set_cons_succ]
        refine wpAnyH_take (i := 2) (v := .pointer (some ⟨pb, off + k * 4, none⟩)) rfl (by kernel_rfl) (by kernel_rfl) (by kernel_rfl) (fun _ _ _ h => h) (Or.inl ⟨by rfl, ?_⟩) hH ?_
        · intro wz hz
          obtain ⟨_, z1, z2, z3, z4, z5, z6, z7, z8, z9, z10, z11, z12⟩ := hz
          go_simp
        try simp only [Act.put, List.getElem_toArray, List.getElem_cons_succ, List.getElem_cons_zero, List.setIfInBounds_toArray, List.set_cons_zero, List.set_cons_succ]
        refine wpAnyH_take (i := 3) (v := .agg #[.int .u16 y.r, .int .u16 y.g, .int .u16 y.b, .int .u16 y.a]) rfl (by kernel_rfl) (by kernel_rfl) (by kernel_rfl) (fun _ _ _ h => h) (Or.inl ⟨by rfl, ?_⟩) hH ?_
        · intro wz hz
          obtain ⟨_, z1, z2, z3, z4, z5, z6, z7, z8, z9, z10, z11, z12⟩ := hz
          go_simp
        try simp only [Act.put, List.getElem_toArray, List.getElem_cons_succ, List.getElem_cons_zero, List.setIfInBounds_toArray, List.set_cons_zero, List.set_cons_succ]
        refine wpAnyH_take (i := 4) (v := .agg #[.int .u16 c.r, .int .u16 c.g, .int .u16 c.b, .int .u16 c.a]) rfl (by kernel_rfl) (by kernel_rfl) (by kernel_rfl) (fun _ _ _ h => h) (Or.inl ⟨by rfl, ?_⟩) hH ?_
        · intro wz hz
          obtain ⟨_, z1, z2, z3, z4, z5, z6, z7, z8, z9, z10, z11, z12⟩ := hz
          go_simp
        try simp only [Act.put, List.getElem_toArray, List.getElem_cons_succ, List.getElem_cons_zero, List.setIfInBounds_toArray, List.set_cons_zero, List.set_cons_succ]
        refine wpAnyH_take (i := 6) (v := .slice (some ⟨pb, off, none⟩) n cap) rfl (by kernel_rfl) (by kernel_rfl) (by kernel_rfl) (fun _ _ _ h => h) (Or.inl ⟨by rfl, ?_⟩) hH ?_
        · intro wz hz
          obtain ⟨_, z1, z2, z3, z4, z5, z6, z7, z8, z9, z10, z11, z12⟩ := hz
          go_simp
        try simp only [Act.put, List.getElem_toArray, List.getElem_cons_succ, List.getElem_cons_zero, List.setIfInBounds_toArray, List.set_cons_zero, List.set_cons_succ]
        refine wpAnyH_take (i := 7) (v := .int .i64 (j : Int)) rfl (by kernel_rfl) (by kernel_rfl) (by kernel_rfl) (fun _ _ _ h => h) (Or.inl ⟨by rfl, ?_⟩) hH ?_
        · intro wz hz
          obtain ⟨_, z1, z2, z3, z4, z5, z6, z7, z8, z9, z10, z11, z12⟩ := hz
          go_simp
        try simp only [Act.put, List.getElem_toArray, List.getElem_cons_succ, List.getElem_cons_zero, List.setIfInBounds_toArray, List.set_cons_zero, List.set_cons_succ]
        refine wpAnyH_take (i := 8) (v := .pointer (some ⟨pb, off + j * 4, none⟩)) rfl (by kernel_rfl) (by kernel_rfl) (by kernel_rfl) (fun _ _ _ h => h) (Or.inl ⟨by rfl, ?_⟩) hH ?_
        · intro wz hz
          obtain ⟨_, z1, z2, z3, z4, z5, z6, z7, z8, z9, z10, z11, z12⟩ := hz
          go_simp
        try simp only [Act.put, List.getElem_toArray, List.getElem_cons_succ, List.getElem_cons_zero, List.setIfInBounds_toArray, List.set_cons_zero, List.set_cons_succ]
        refine wpAnyH_take (i := 9) (v := .agg #[.int .u16 u.r, .int .u16 u.g, .int .u16 u.b, .int .u16 u.a]) rfl (by kernel_rfl) (by kernel_rfl) (by kernel_rfl) (fun _ _ _ h => h) (Or.inl ⟨by rfl, ?_⟩) hH ?_
        · intro wz hz
          obtain ⟨_, z1, z2, z3, z4, z5, z6, z7, z8, z9, z10, z11, z12⟩ := hz
          go_simp
        try simp only [Act.put, List.getElem_toArray, List.getElem_cons_succ, List.getElem_cons_zero, List.setIfInBounds_toArray, List.set_cons_zero, List.set_cons_succ]
        refine wpAnyH_take (i := 10) (v := .agg #[.int .u16 c.r, .int .u16 c.g, .int .u16 c.b, .int .u16 c.a]) rfl (by kernel_rfl) (by kernel_rfl) (by kernel_rfl) (fun _ _ _ h => h) (Or.inl ⟨by rfl, ?_⟩) hH ?_
        · intro wz hz
          obtain ⟨_, z1, z2, z3, z4, z5, z6, z7, z8, z9, z10, z11, z12⟩ := hz
          go_simp
        try simp only [Act.put, List.getElem_toArray, List.getElem_cons_succ, List.getElem_cons_zero, List.setIfInBounds_toArray, List.set_cons_zero, List.set_cons_succ]
        refine wpAnyH_ready (rs := [5]) (by kernel_rfl) (by simp) ?_
        refine AllReadyH.cons (i := 5) (o := _) rfl (fun K hK => ?_) AllReadyH.nil
        go_simp
        go_at_call 23
        refine (far_any y c _).mono ?_
        rintro e w6 ⟨rfl, hb6⟩
        have hH6 := hfull.out _ (belowStep hH.1 hb6)
        refine hK.out _ _ hH6 (fun hH => ?_)
        clear hK K hH6 hb6
        try simp only [Act.put, List.getElem_toArray, List.getElem_cons_succ, List.getElem_cons_zero, List.setIfInBounds_toArray, List.set_cons_zero, List.set_cons_succ]
        refine wpAnyH_ready (rs := [11]) (by kernel_rfl) (by simp) ?_
        refine AllReadyH.cons (i := 11) (o := _) rfl (fun K hK => ?_) AllReadyH.nil
        go_simp
        go_at_call 23
        refine (far_any u c _).mono ?_
        rintro e w6 ⟨rfl, hb6⟩
        have hH6 := hfull.out _ (belowStep hH.1 hb6)
        refine hK.out _ _ hH6 (fun hH => ?_)
        clear hK K hH6 hb6
        try simp only [Act.put, List.getElem_toArray, List.getElem_cons_succ, List.getElem_cons_zero, List.setIfInBounds_toArray, List.set_cons_zero, List.set_cons_succ]
        refine wpAnyH_take (i := 12) (v := .bool false) rfl (by kernel_rfl) (by kernel_rfl) (by kernel_rfl) (fun _ _ _ h => h) (Or.inl ⟨by rfl, ?_⟩) hH ?_
        · intro wz hz
          obtain ⟨_, z1, z2, z3, z4, z5, z6, z7, z8, z9, z10, z11, z12⟩ := hz
          go_simp
        try simp only [Act.put, List.getElem_toArray, List.getElem_cons_succ, List.getElem_cons_zero, List.setIfInBounds_toArray, List.set_cons_zero, List.set_cons_succ]
        refine wpAnyH_take (i := 13) (v := .bool false) rfl (by kernel_rfl) (by kernel_rfl) (by kernel_rfl) (fun _ _ _ h => h) (Or.inl ⟨by rfl, ?_⟩) hH ?_
        · intro wz hz
          obtain ⟨_, z1, z2, z3, z4, z5, z6, z7, z8, z9, z10, z11, z12⟩ := hz
          go_simp
        try simp only [Act.put, List.getElem_toArray, List.getElem_cons_succ, List.getElem_cons_zero, List.setIfInBounds_toArray, List.set_cons_zero, List.set_cons_succ]
        refine wpAnyH_take (i := 14) (v := .int .i64 (k : Int)) rfl (by kernel_rfl) (by kernel_rfl) (by kernel_rfl) (fun _ _ _ h => h) (Or.inl ⟨by rfl, ?_⟩) hH ?_
        · intro wz hz
          obtain ⟨_, z1, z2, z3, z4, z5, z6, z7, z8, z9, z10, z11, z12⟩ := hz
          go_simp
        try simp only [Act.put, List.getElem_toArray, List.getElem_cons_succ, List.getElem_cons_zero, List.setIfInBounds_toArray, List.set_cons_zero, List.set_cons_succ]
        refine wpAnyH_take (i := 15) (v := .int .i64 (j : Int)) rfl (by kernel_rfl) (by kernel_rfl) (by kernel_rfl) (fun _ _ _ h => h) (Or.inl ⟨by rfl, ?_⟩) hH ?_
        · intro wz hz
          obtain ⟨_, z1, z2, z3, z4, z5, z6, z7, z8, z9, z10, z11, z12⟩ := hz
          go_simp
        try simp only [Act.put, List.getElem_toArray, List.getElem_cons_succ, List.getElem_cons_zero, List.setIfInBounds_toArray, List.set_cons_zero, List.set_cons_succ]
        refine wpAnyH_take (i := 16) (v := .bool false) rfl (by kernel_rfl) (by kernel_rfl) (by kernel_rfl) (fun _ _ _ h => h) (Or.inl ⟨by rfl, ?_⟩) hH ?_
        · intro wz hz
          obtain ⟨_, z1, z2, z3, z4, z5, z6, z7, z8, z9, z10, z11, z12⟩ := hz
          go_simp
        try simp only [Act.put, List.getElem_toArray, List.getElem_cons_succ, List.getElem_cons_zero, List.setIfInBounds_toArray, List.set_cons_zero, List.set_cons_succ]
        refine wpAnyH_take (i := 17) (v := .bool false) rfl (by kernel_rfl) (by kernel_rfl) (by kernel_rfl) (fun _ _ _ h => h) (Or.inl ⟨by rfl, ?_⟩) hH ?_
        · intro wz hz
          obtain ⟨_, z1, z2, z3, z4, z5, z6, z7, z8, z9, z10, z11, z12⟩ := hz
          go_simp
        try simp only [Act.put, List.getElem_toArray, List.getElem_cons_succ, List.getElem_cons_zero, List.setIfInBounds_toArray, List.set_cons_zero, List.set_cons_succ]
        refine wpAnyH_take (i := 18) (v := undef) rfl (by kernel_rfl) (by kernel_rfl) (by kernel_rfl) (fun _ _ _ h => h) (Or.inr ⟨by rfl, rfl⟩) hH ?_
        try simp only [Act.put, List.getElem_toArray, List.getElem_cons_succ, List.getElem_cons_zero, List.setIfInBounds_toArray, List.set_cons_zero, List.set_cons_succ]
        refine wpAnyH_take (i := 19) (v := undef) rfl (by kernel_rfl) (by kernel_rfl) (by kernel_rfl) (fun _ _ _ h => h) (Or.inr ⟨by rfl, rfl⟩) hH ?_
        try simp only [Act.put, List.getElem_toArray, List.getElem_cons_succ, List.getElem_cons_zero, List.setIfInBounds_toArray, List.set_cons_zero, List.set_cons_succ]
        refine wpAnyH_take (i := 20) (v := undef) rfl (by kernel_rfl) (by kernel_rfl) (by kernel_rfl) (fun _ _ _ h => h) (Or.inr ⟨by rfl, rfl⟩) hH ?_
        try simp only [Act.put, List.getElem_toArray, List.getElem_cons_succ, List.getElem_cons_zero, List.setIfInBounds_toArray, List.set_cons_zero, List.set_cons_succ]
        refine wpAnyH_take (i := 21) (v := undef) rfl (by kernel_rfl) (by kernel_rfl) (by kernel_rfl) (fun _ _ _ h => h) (Or.inr ⟨by rfl, rfl⟩) hH ?_
        try simp only [Act.put, List.getElem_toArray, List.getElem_cons_succ, List.getElem_cons_zero, List.setIfInBounds_toArray, List.set_cons_zero, List.set_cons_succ]
        refine wpAnyH_take (i := 22) (v := undef) rfl (by kernel_rfl) (by kernel_rfl) (by kernel_rfl) (fun _ _ _ h => h) (Or.inr ⟨by rfl, rfl⟩) hH ?_
        try simp only [Act.put, List.getElem_toArray, List.getElem_cons_succ, List.getElem_cons_zero, List.setIfInBounds_toArray, List.set_cons_zero, List.set_cons_succ]
        refine wpAnyH_take (i := 23) (v := undef) rfl (by kernel_rfl) (by kernel_rfl) (by kernel_rfl) (fun _ _ _ h => h) (Or.inr ⟨by rfl, rfl⟩) hH ?_
        try simp only [Act.put, List.getElem_toArray, List.getElem_cons_succ, List.getElem_cons_zero, List.setIfInBounds_toArray, List.set_cons_zero, List.set_cons_succ]
        refine wpAnyH_take (i := 24) (v := undef) rfl (by kernel_rfl) (by kernel_rfl) (by kernel_rfl) (fun _ _ _ h => h) (Or.inr ⟨by rfl, rfl⟩) hH ?_
        try simp only [Act.put, List.getElem_toArray, List.getElem_cons_succ, List.getElem_cons_zero, List.setIfInBounds_toArray, List.set_cons_zero, List.set_cons_succ]
        refine wpAnyH_take (i := 25) (v := undef) rfl (by kernel_rfl) (by kernel_rfl) (by kernel_rfl) (fun _ _ _ h => h) (Or.inr ⟨by rfl, rfl⟩) hH ?_
        try simp only [Act.put, List.getElem_toArray, List.getElem_cons_succ, List.getElem_cons_zero, List.setIfInBounds_toArray, List.set_cons_zero, List.set_cons_succ]
        refine wpAnyH_take (i := 26) (v := undef) rfl (by kernel_rfl) (by kernel_rfl) (by kernel_rfl) (fun _ _ _ h => h) (Or.inr ⟨by rfl, rfl⟩) hH ?_
        try simp only [Act.put, List.getElem_toArray, List.getElem_cons_succ, List.getElem_cons_zero, List.setIfInBounds_toArray, List.set_cons_zero, List.set_cons_succ]
        refine wpAnyH_take (i := 27) (v := undef) rfl (by kernel_rfl) (by kernel_rfl) (by kernel_rfl) (fun _ _ _ h => h) (Or.inr ⟨by rfl, rfl⟩) hH ?_
        try simp only [Act.put, List.getElem_toArray, List.getElem_cons_succ, List.getElem_cons_zero, List.setIfInBounds_toArray, List.set_cons_zero, List.set_cons_succ]
        refine wpAnyH_take (i := 28) (v := undef) rfl (by kernel_rfl) (by kernel_rfl) (by kernel_rfl) (fun _ _ _ h => h) (Or.inr ⟨by rfl, rfl⟩) hH ?_
        try simp only [Act.put, List.getElem_toArray, List.getElem_cons_succ, List.getElem_cons_zero, List.setIfInBounds_toArray, List.set_cons_zero, List.set_cons_succ]
        refine wpAnyH_take (i := 29) (v := undef) rfl (by kernel_rfl) (by kernel_rfl) (by kernel_rfl) (fun _ _ _ h => h) (Or.inr ⟨by rfl, rfl⟩) hH ?_
        try simp only [Act.put, List.getElem_toArray, List.getElem_cons_succ, List.getElem_cons_zero, List.setIfInBounds_toArray, List.set_cons_zero, List.set_cons_succ]
        refine wpAnyH_take (i := 30) (v := undef) rfl (by kernel_rfl) (by kernel_rfl) (by kernel_rfl) (fun _ _ _ h => h) (Or.inr ⟨by rfl, rfl⟩) hH ?_
        try simp only [Act.put, List.getElem_toArray, List.getElem_cons_succ, List.getElem_cons_zero, List.setIfInBounds_toArray, List.set_cons_zero, List.set_cons_succ]
        refine wpAnyH_take (i := 31) (v := .bool false) rfl (by kernel_rfl) (by kernel_rfl) (by kernel_rfl) (fun _ _ _ h => h) (Or.inl ⟨by rfl, ?_⟩) hH ?_
        · intro wz hz
          obtain ⟨_, z1, z2, z3, z4, z5, z6, z7, z8, z9, z10, z11, z12⟩ := hz
          go_simp
        try simp only [Act.put, List.getElem_toArray, List.getElem_cons_succ, List.getElem_cons_zero, List.setIfInBounds_toArray, List.set_cons_zero, List.set_cons_succ]
        refine wpAnyH_take (i := 32) (v := .bool false) rfl (by kernel_rfl) (by kernel_rfl) (by kernel_rfl) (fun _ _ _ h => h) (Or.inl ⟨by rfl, ?_⟩) hH ?_
        · intro wz hz
          obtain ⟨_, z1, z2, z3, z4, z5, z6, z7, z8, z9, z10, z11, z12⟩ := hz
          go_simp
        try simp only [Act.put, List.getElem_toArray, List.getElem_cons_succ, List.getElem_cons_zero, List.setIfInBounds_toArray, List.set_cons_zero, List.set_cons_succ]
        refine wpAnyH_done (by kernel_rfl) ?_ _
        have hBf := Lib.hid (HBR.out.trans (hH.1.mono HBR.out.size))
        clear hH hfull
        go_wp2_with fail
        go_roundw
        case rel => exact ⟨k + 1, by omega, by go_num, hBf⟩
        case measure => simp [intOf]; omega
    · obtain rfl : k = n := by omega
      go_wp2_with fail
      go_ret
      exact ⟨rfl, HB5.out.trans (HBR.out.mono HB5.out.size)⟩

set_option maxRecDepth 100000 in
theorem lifted (os : Os) (started : os.Started) (H : Type) (enc : TypeId × Value → H) :
    ReturnsInHanded {} Try.checked os 8 .any (Rows.tonesNearestSpec.pre6 enc Try.prog Try.f8 Rows.tonesNearestRow.domain false) (Rows.tonesNearestSpec.post enc Try.prog Try.f8 false true false false) := by
  refine returnsInHanded_of_change_sized (C := Try.checked) prog_own started (by kernel_rfl) Try.func8
    (ChangeSpec.witness6 (enc := enc) (C := Try.checked) false ⟨#[], #[.slice none 0 0, .agg #[.int .u16 0, .int .u16 0, .int .u16 0, .int .u16 0]], []⟩ 8 (by kernel_rfl) (by kernel_rfl) (by kernel_rfl) (by kernel_rfl)) ?_
  intro W base args ds gs before hval0 hW hcnd hsz _
  have hval : ∀ (j : Nat) t v, Try.f8.params[j]? = some t → args[j]? = some v → Value.okWide Try.prog W .any base t v := hval0
  have hW' := hW
  obtain ⟨p, q, hA0, hV, rfl, hfz, hnd⟩ := hW
  have hA : DataW.TrodAll enc Try.prog W 0 (fun _ => true) true Try.f8.params.toList args.toList ds p := hA0
  rw [Try.params8] at hA hval
  obtain ⟨v0, vs0, d0, ds0, p0, q0, hargs, rfl, rfl, h0, r0⟩ := trodAll_cons hA
  obtain ⟨v1, vs1, d1, ds1, p1, q1, rfl, rfl, rfl, h1, r1⟩ := trodAll_cons r0
  obtain ⟨rfl, rfl, rfl⟩ := trodAll_nil r1
  obtain rfl : args = #[v0, v1] := by cases args; simp_all
  obtain ⟨rfl, rfl⟩ := trodVars_none hV
  obtain ⟨A0, l0, c0, rfl, hb0, hd0⟩ := open_colors (hval 0 46 v0 rfl rfl) h0
  obtain ⟨x1, rfl⟩ := open_color (hval 1 36 v1 rfl rfl) h1
  have hl0 : l0.length ≤ 17592186043904 := by
    rcases hd0 with ⟨_, rfl⟩ | ⟨e, s, rfl, hle⟩
    · simp
    · have this : (e.length + s.length) * Try.prog.bytesOf 36 ≤ reachBytes := sized_slice hsz (j := 0) (t := 46) (e := 36) rfl rfl Try.underlying46
      rw [bytes_col] at this
      unfold reachBytes at this
      omega
  have lt0 : ∀ x ∈ p0, x.block < W.heap.size := by obtain ⟨m, hm⟩ := h0; exact DataW.trod_lt m _ _ _ hm
  have lt1 : ∀ x ∈ p1, x.block < W.heap.size := by obtain ⟨m, hm⟩ := h1; exact DataW.trod_lt m _ _ _ hm
  clear hA0 hval0
  refine (walk A0 c0 l0 x1 W hb0 hl0).mono fun e W' ⟨he, bel⟩ => ?_
  subst he
  exact ⟨_, rfl, _, _, _, [], _, [], hW', trodAll_mk1 (shut_bool Try.underlying4 _), (trodAll_cons_mk (Below.trod prog_laid (by kernel_rfl) (of_decide_eq_true (by kernel_rfl)) h0 bel lt0) (trodAll_cons_mk (Below.trod prog_laid (by kernel_rfl) (of_decide_eq_true (by kernel_rfl)) h1 bel lt1) trodAll_mk0)), rfl, bel.frame _, fun h => by cases h⟩

theorem over : Rows.tonesNearestRow.holds Try.pinned (OpenSpec.ofChange Rows.tonesNearestSpec) :=
  OpenClaim.holds_of_wide 8 Try.f8 rfl rfl rfl rfl rfl rfl rfl ⟨rfl, rfl, rfl, rfl, rfl⟩ rfl rfl rfl rfl rfl (by kernel_rfl) Try.func8 (by kernel_rfl)
    (of_decide_eq_true (by kernel_rfl)) (by unfold Func.isWrapper; first | (rw [if_pos (by decide +kernel)]; kernel_rfl) | (rw [if_neg (by decide +kernel)]; exact ⟨rfl, rfl⟩))
    (fun os started H enc _ => lifted os started H enc)
end TonesNearest

theorem tonesNearest_holds : Rows.TonesNearestSaid := TonesNearest.over
#print axioms tonesNearest_holds
end Go.Proofs.Ytibgjklfbfahfaa
