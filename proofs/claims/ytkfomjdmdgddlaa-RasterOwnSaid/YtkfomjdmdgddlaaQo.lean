/- Distinct, the program's. -/
import Derived.Test.YtkfomjdmdgddlaaQn
import Derived.Test.YtkfomjdmdgddlaaSw
namespace Go.Proofs.Ytkfomjdmdgddlaa
open Go.ChangeShapes Go.WideShapes Go.ChangeAt Go.RowKit Go.Shelf
open Go.MapKept Go.WideElems Go.ChangeMaps
attribute [local go_sem] Oper.semAt_some

theorem eql_col (x y : Col) (w : World) : (binOp .eql 30 (colV x) (colV y)).run Try.prog w = .ok (.bool (decide (x = y))) w := by
  have hd : decide (x = y) = (decide (x.r = y.r) && (decide (x.g = y.g) && (decide (x.b = y.b) && decide (x.a = y.a)))) := by
    rw [← Bool.decide_and, ← Bool.decide_and, ← Bool.decide_and]
    exact decide_eq_decide.2 ⟨fun e => by subst e; exact ⟨rfl, rfl, rfl, rfl⟩, fun ⟨h1, h2, h3, h4⟩ => Col.ext_ h1 h2 h3 h4⟩
  rw [hd]
  by_cases h1 : x.r = y.r
  · by_cases h2 : x.g = y.g
    · by_cases h3 : x.b = y.b
      · by_cases h4 : x.a = y.a
        · simp [go_sem, h1, h2, h3, h4, Try.underlying30]
        · simp [go_sem, h1, h2, h3, h4, Try.underlying30]
      · simp [go_sem, h1, h2, h3]
    · simp [go_sem, h1, h2]
  · simp [go_sem, h1]
theorem upd_setBlock {w : World} {b : Nat} {es : Array MapEntry} {clock : Nat} (hb : w.heap[b]? = some (.map es clock)) (o : Obj) : Upd (· = b) w (setBlock w b o) :=
  ⟨rfl, rfl, rfl, by simp [setBlock], fun i _ hi => heap_setBlock_other hb o hi⟩
theorem keeps_setBlock {w : World} {b : Nat} {es es' : Array MapEntry} {clock clock' : Nat} (hb : w.heap[b]? = some (.map es clock)) : (setBlock w b (.map es' clock')).heap[b]? = some (.map es' clock') := heap_setBlock_same hb _
theorem wp_mapEntry {P : Program} {o : Oper} {a : Act} {w w' : World} {K : Act → World → Prop} {Q : Exit → Act → World → Prop} (t : TypeId) (m k : Operand) (ho : o.op = .mapEntry t m k) {v1 v2 v : Value} (hm : a.eval m = v1) (hk : a.eval k = v2) (hrun : (Instr.mapEntry t v1 v2).run P w = .ok v w') (h : K (a.put o.dst v) w') : Oper.wp P o a w K Q := by
  unfold Oper.wp
  simp [execOp, ho, hm, hk, hrun, Result.andThen]
  exact h
theorem wp_entryStore {P : Program} {o : Oper} {a : Act} {w w' : World} {K : Act → World → Prop} {Q : Exit → Act → World → Prop} (t : TypeId) (m k x : Operand) (ho : o.op = .entryStore t m k x) {v1 v2 v3 : Value} (hm : a.eval m = v1) (hk : a.eval k = v2) (hx : a.eval x = v3) (hrun : (Instr.entryStore t v1 v2 v3).run P w = .ok () w') (h : K (a.put o.dst undef) w') : Oper.wp P o a w K Q := by
  unfold Oper.wp
  simp [execOp, ho, hm, hk, hx, hrun, Result.andThen]
  exact h
theorem wp_extract {P : Program} {o : Oper} {a : Act} {w : World} {K : Act → World → Prop} {Q : Exit → Act → World → Prop} (t : Operand) (i : Nat) (ho : o.op = .extract t i) {vs : Array Value} (hm : a.eval t = .tuple vs) (hi : i < vs.size := by decide) (h : K (a.put o.dst vs[i]) w) : Oper.wp P o a w K Q := by
  unfold Oper.wp
  simp [execOp, ho, hm, Instr.extract, hi]
  exact h
theorem keeps_row {w w' : World} {base : Nat} {e : TypeId} {sz n : Nat} {v : Value} {xs : List Value} (h : w.ownsRow base e sz v n xs) (hg : w.grownBy w' v.ownBlock) : KeepsOthers w w' :=
  KeepsOthers.of_grownBy hg (fun j o hj ho => by
    rcases h.2 with ⟨rfl, _⟩ | ⟨g, c, u, rfl, _, a, _⟩
    · cases hj
    · have e1 : g = j := by simpa [Value.ownBlock] using hj
      subst e1
      rw [ho] at a
      injection a with a
      subst a
      rfl)
theorem cs_lit (w : World) (x : Col) : Cs (w.alloc (.cells #[.int .u16 x.r, .int .u16 x.g, .int .u16 x.b, .int .u16 x.a] 30)) (w.heap.size + 1) (some ⟨w.heap.size, 0, none⟩) [x] := fun _ => by
  refine ⟨w.heap.size, 0, rfl, by omega, fun j hj => ?_⟩
  obtain rfl : j = 0 := by simpa using hj
  have hb := CB.of (x := x) (Blk.new w 30 #[.int .u16 x.r, .int .u16 x.g, .int .u16 x.b, .int .u16 x.a])
  exact ⟨hb.c0, hb.c1, hb.c2, hb.c3⟩
/-- The colours of the first k pixels. -/
def distL (l : List Int) : Nat → List Col
  | 0 => []
  | k + 1 => addC (distL l k) (pxAt l (4 * k))
theorem addC_length (L : List Col) (x : Col) : (addC L x).length ≤ L.length + 1 := by
  unfold addC; split <;> simp
theorem distL_length (l : List Int) : ∀ k, (distL l k).length ≤ k
  | 0 => Nat.le_refl _
  | k + 1 => by have := distL_length l k; have := addC_length (distL l k) (pxAt l (4 * k)); simp only [distL]; omega
theorem mem_addC {L : List Col} {x y : Col} : y ∈ addC L x ↔ y ∈ L ∨ y = x := by
  unfold addC
  split
  · rename_i h
    exact ⟨.inl, fun h2 => h2.elim id (fun e => e ▸ h)⟩
  · simp
theorem pxAt_bd {l : List Int} (h : ∀ v ∈ l, 0 ≤ v ∧ v ≤ 65535) (k : Nat) : ColB (pxAt l k) := by
  have q : ∀ i, 0 ≤ l.getD i 0 ∧ l.getD i 0 ≤ 65535 := fun i => by
    by_cases hi : i < l.length
    · have : l.getD i 0 = l[i] := by simp [List.getD, hi]
      rw [this]; exact h _ (List.getElem_mem hi)
    · have : l.getD i 0 = 0 := by simp [List.getD, Nat.not_lt.1 hi]
      rw [this]; omega
  exact ⟨q k, q (k + 1), q (k + 2), q (k + 3)⟩
theorem distL_bd {l : List Int} (h : ∀ v ∈ l, 0 ≤ v ∧ v ≤ 65535) : ∀ k, ∀ x ∈ distL l k, ColB x
  | 0, x, hx => by cases hx
  | k + 1, x, hx => by
    rcases mem_addC.1 hx with hx | rfl
    · exact distL_bd h k x hx
    · exact pxAt_bd h _
/-- The world behind k pixels. -/
structure DI (w5 : World) (bl ba gm : Nat) (L : List Col) (k : Nat) (V : World) : Prop where
  row : ∃ A c, Blk V bl 55 #[.slice A L.length c] ∧ V.ownsRow w5.heap.size 30 4 (.slice A L.length c) L.length (colsV L)
  ahead : ∃ y, CB V ba y ∧ (0 < L.length → y ∈ L)
  map : ∃ es clock, V.heap[gm]? = some (.map es clock) ∧ MI es clock L k
  upd : Upd (fun i => i = bl ∨ i = ba ∨ i = gm ∨ w5.heap.size ≤ i) w5 V
theorem DI.keep {w5 V V' : World} {bl ba gm k : Nat} {L : List Col} (h : DI w5 bl ba gm L k V) (u : Upd No V V') : DI w5 bl ba gm L k V' := by
  obtain ⟨⟨A, c, h1, h2⟩, ⟨y, h3, h4⟩, ⟨es, clock, h5, h6⟩, h7⟩ := h
  exact ⟨⟨A, c, h1.upd u id, own_upd h2 u (fun _ _ => id)⟩, ⟨y, CB.of (h3.blk.upd u id), h4⟩, ⟨es, clock, (u.block gm (Array.getElem?_eq_some_iff.1 h5).1 id).trans h5, h6⟩, h7.then u (fun _ _ h => h.elim)⟩
/-- What Distinct answers. -/
def DisR (w : World) (L : List Col) (e : Ending) (w' : World) : Prop := ∃ A' c', e = .returned (.slice A' L.length c') ∧ w'.ownsRow w.heap.size 30 4 (.slice A' L.length c') L.length (colsV L) ∧ Below w.heap.size w w'
def disL (W H : Int) (l : List Int) : List Col := if goodB W H l.length = true then distL l (W * H).toNat else []
theorem dis_boxes (w : World) : ∃ w4, (((w.alloc (.cells #[.slice none 0 0] 55)).alloc (.cells #[.int .u16 0, .int .u16 0, .int .u16 0, .int .u16 0] 30)).alloc (.map #[] 0)).alloc (.cells #[.map (some (w.heap.size + 1 + 1))] 84) = w4 ∧
    Blk w4 w.heap.size 55 #[.slice none 0 0] ∧ CB w4 (w.heap.size + 1) col0 ∧ w4.heap[w.heap.size + 1 + 1]? = some (.map #[] 0) ∧ Blk w4 (w.heap.size + 1 + 1 + 1) 84 #[.map (some (w.heap.size + 1 + 1))] ∧ Below w.heap.size w w4 ∧ w4.heap.size = w.heap.size + 1 + 1 + 1 + 1 := by
  obtain ⟨h1, h2, h3, h4⟩ := boxes2 w #[.slice none 0 0] #[.int .u16 0, .int .u16 0, .int .u16 0, .int .u16 0] 55 30
  obtain ⟨V, hV⟩ : ∃ V, (w.alloc (.cells #[.slice none 0 0] 55)).alloc (.cells #[.int .u16 0, .int .u16 0, .int .u16 0, .int .u16 0] 30) = V := ⟨_, rfl⟩
  rw [hV] at h1 h2 h3 h4 ⊢
  have m1 := heap_alloc_new V (.map #[] 0)
  rw [h2] at m1
  have b2 := Blk.new (V.alloc (.map #[] 0)) 84 #[.map (some (w.heap.size + 1 + 1))]
  rw [World.size_alloc, h2] at b2
  refine ⟨_, rfl, (h3.alloc _).alloc _, CB.of ((h4.alloc _).alloc _), ?_, b2, ((h1.alloc h1.size _).alloc (by rw [World.size_alloc]; have := h1.size; omega) _), by rw [World.size_alloc, World.size_alloc, h2]⟩
  exact (((Upd.refl No (V.alloc (.map #[] 0))).alloc (.cells #[.map (some (w.heap.size + 1 + 1))] 84)).block _ (by rw [World.size_alloc]; omega) id).trans m1
set_option maxRecDepth 100000 in
set_option maxHeartbeats 4000000 in
theorem distinct_any (W H : Int) (A : Option Addr) (n c : Nat) (l : List Int) (hn : l.length = n) (hc : n ≤ c) (hbd : ∀ v ∈ l, 0 ≤ v ∧ v ≤ 65535) (B : Nat) (w : World) (h : Us w B A l) (hB : B ≤ w.heap.size) :
    Calls Try.prog 31 #[imgV W H A n c] w (DisR w (disL W H l)) := by
  refine (callsIn_wide (n := 3)).1 ?_
  refine callsIn_of_wp_marks Try.func31 rfl trivial ?_ rfl
  simp only [Try.ntmps31, List.size_toArray, List.length_cons, List.length_nil, Nat.reduceAdd, Nat.reduceSub, Array.replicate_succ, Array.replicate_zero, List.push_toArray, List.append_toArray, List.nil_append, List.cons_append]
  refine wpIn_wide.2 ?_
  obtain ⟨w1, hw1, hi, hb⟩ := newImg W H A n c w
  have HW1 := Lib.hid hw1
  have HI := Lib.hid hi
  have HB := Lib.hid hb
  have HV := Lib.hid (Vs.below h (hb.mono hB))
  clear hw1 hi hb h
  go_upto_region 1 with (fail)
  rw [HW1.out]
  clear HW1
  have q0 := HI.out.c0; have q1 := HI.out.c1; have q2 := HI.out.c2
  go_wp2_with fail
  refine (good_any W H A n c w1).mono ?_
  rintro e w2 ⟨rfl, hb2⟩
  have HI2 := Lib.hid (HI.out.call hb2)
  have HB2 := Lib.hid (HB.out.trans (hb2.mono HB.out.size))
  have HV2 := Lib.hid (Vs.below HV.out (hb2.mono (by have := HB.out.size; omega)))
  clear HI HB HV hb2 q0 q1 q2
  cases hg : goodB W H n with
  | false =>
    have HE : Hid (disL W H l = []) := Lib.hid (by unfold disL; rw [hn, if_neg (by rw [hg]; simp)])
    clear hg
    go_wp2_with fail
    refine ⟨.slice none 0 0, by simp [results, Try.results31, go_sem], ?_⟩
    rw [HE.out]
    exact ⟨none, 0, rfl, ⟨rfl, .inl ⟨rfl, rfl⟩⟩, HB2.out⟩
  | true =>
    obtain ⟨W, H, rfl, rfl, hn4, hf, hw1, hw2, hh1, hh2⟩ := goodB_nat hg
    have HE : Hid (disL W H l = distL l (W * H)) := Lib.hid (by unfold disL; rw [hn, if_pos hg, ← Int.natCast_mul, Int.toNat_natCast])
    obtain ⟨r, o, rfl, hrB, hsm⟩ := Us.smp HV2.out (by have := Nat.mul_pos hw1 hh1; omega)
    have q0 := HI2.out.c0; have q1 := HI2.out.c1; have q2 := HI2.out.c2
    have HSM := Lib.hid hsm
    obtain ⟨M, hM⟩ : ∃ M, W * H = M := ⟨_, rfl⟩
    rw [hM] at hn4 hf HE
    have HN4 := Lib.hid hn4
    have HFW := Lib.hid hf
    clear hg hsm HV2 hn4 hf hM
    have hmm := @run_makeMap Try.prog
    obtain ⟨w4, hw4, d1, d2, d3, d4, d5, d6⟩ := dis_boxes w2
    have HW4 := Lib.hid hw4
    have HI4 := Lib.hid (HI2.out.call d5)
    clear hw4 q0 q1 q2
    go_upto_region 6 with (fail)
    rw [HW4.out]
    clear hmm HW4
    have q0 := HI4.out.c0; have q1 := HI4.out.c1; have q2 := HI4.out.c2
    have HD := Lib.hid (And.intro d1 (And.intro d2 (And.intro d3 (And.intro d4 (And.intro d5 d6)))))
    clear d1 d2 d3 d4 d5 d6
    go_wp2_with fail
    refine (pixels_any _ _ _ _ _ _).mono ?_
    rintro e w3 ⟨rfl, rfl⟩
    clear q0 q1 q2
    go_wp2_with fail
    obtain ⟨d1, d2, d3, d4, d5, d6⟩ := HD.out
    have hbx := (Below.refl w4.heap.size w4).alloc (Nat.le_refl _) (.cells #[.int .i64 (W : Int), .int .i64 (H : Int), .slice (some ⟨r, o, none⟩) n c] 24)
    have hpx := IB.of (Blk.new w4 24 #[.int .i64 (W : Int), .int .i64 (H : Int), .slice (some ⟨r, o, none⟩) n c])
    have hs5 : (w4.alloc (.cells #[.int .i64 (W : Int), .int .i64 (H : Int), .slice (some ⟨r, o, none⟩) n c] 24)).heap.size = w4.heap.size + 1 := World.size_alloc _ _
    obtain ⟨w5, hw5⟩ : ∃ w5, w4.alloc (.cells #[.int .i64 (W : Int), .int .i64 (H : Int), .slice (some ⟨r, o, none⟩) n c] 24) = w5 := ⟨_, rfl⟩
    rw [hw5] at hbx hpx hs5 ⊢
    have hsm5 := (HSM.out.below d5 (by have := HB2.out.size; omega)).below hbx (by have := HB2.out.size; omega)
    have hmp := d4.upd (Upd.of_fresh hbx) id
    have hst : DI w5 w2.heap.size (w2.heap.size + 1) (w2.heap.size + 1 + 1) [] 0 w5 := ⟨⟨none, 0, d1.upd (Upd.of_fresh hbx) id, ⟨rfl, .inl ⟨rfl, rfl⟩⟩⟩, ⟨col0, d2.call hbx, fun h => absurd h (by simp)⟩, ⟨#[], 0, (hbx.block _ (by omega)).trans d3, MI.nil 0⟩, Upd.refl _ _⟩
    have HB5 := Lib.hid (HB2.out.trans ((d5.trans (hbx.mono d5.size)).mono HB2.out.size))
    clear hw5 hbx d1 d2 d3 d4 d5 HD HI4 HI2 HSM
    rw [d6] at hpx hs5 ⊢
    have hinp : ∀ L k V, DI w5 w2.heap.size (w2.heap.size + 1) (w2.heap.size + 1 + 1) L k V → V.cell? ⟨w2.heap.size + 1 + 1 + 1 + 1, 2, none⟩ = some (.slice (some ⟨r, o, none⟩) n c) ∧ Smp V r o l ∧ V.cell? ⟨w2.heap.size + 1 + 1 + 1, 0, none⟩ = some (.map (some (w2.heap.size + 1 + 1))) := by
      rintro L k V ⟨_, _, _, hu⟩
      refine ⟨(IB.of (hpx.blk.upd hu (by omega))).c2, hsm5.keep (hu.block r (by have := HB2.out.size; omega) (by have := HB2.out.size; omega)), ?_⟩
      rw [(hmp.upd hu (by omega)).cell]; rfl
    have hmix : Try.prog.follows .mixedOrders = true := by kernel_rfl
    have hn4 := HN4.out
    have hfw := HFW.out
    refine wpIn_wide.1 (wpIn_range_box1w (α := Col) (F := Fence.wide) (n := 3) rfl (by omega) (gf := 57) (lb := #[.pointer (some ⟨w2.heap.size + 1 + 1 + 1 + 1, 0, none⟩)]) rfl trivial (enters_of Try.func57 (by kernel_rfl) rfl) colEnc M
      (fun k V => DI w5 w2.heap.size (w2.heap.size + 1) (w2.heap.size + 1 + 1) (distL l k) k V)
      (fun k x _ => x = pxAt l (4 * k))
      (fun _ _ => False)
      ?seq (fun _ => rfl) ?ia ?ip (fun _ _ _ _ h => h) (fun _ _ _ _ _ _ _ _ _ h => h) (fun _ _ _ _ _ _ _ _ h => h) ?start (fun k V h => h.upd.size) 30 (fun x => #[.int .u16 x.r, .int .u16 x.g, .int .u16 x.b, .int .u16 x.a]) ?Fa ?assign ?body ?done ?stop)
    case seq =>
      intro ll R Jx V hRb hY h0 hR
      refine pix1_in (3 - 1) (by omega) ll (w2.heap.size + 1 + 1 + 1 + 1) r o c n M l hn hn4 (by omega) hc (fun k V => DI w5 w2.heap.size (w2.heap.size + 1) (w2.heap.size + 1 + 1) (distL l k) k V) R Jx (fun k V h => ⟨(hinp _ k V h).1, (hinp _ k V h).2.1⟩) (fun k V V' h hb => h.keep (Upd.of_fresh hb)) (fun V V' h hb => hRb _ _ h hb) (fun k x V hk hI hR hx => hY k x V hk hI hR hx) V h0 hR
    case ia => rintro k V o h; exact h.keep ((Upd.refl No V).alloc o)
    case ip =>
      rintro k V ll o o' hll ho hoc ⟨⟨A', c', h1, h2⟩, ⟨y, h3, h4⟩, ⟨es, clock, h5, h6⟩, h7⟩
      have hu := upd_putObj (S := (· = ll)) V ll o' rfl
      exact ⟨⟨A', c', h1.upd hu (by omega), own_put h2 ho hoc o'⟩, ⟨y, CB.of (h3.blk.upd hu (by omega)), h4⟩, ⟨es, clock, (hu.block _ (Array.getElem?_eq_some_iff.1 h5).1 (by omega)).trans h5, h6⟩, h7.then hu (fun i hi e => by omega)⟩
    case start => exact hst
    case assign =>
      intro ll x V Bx K hBx hK
      dsimp only [colEnc]
      have HK := Lib.hid hK
      clear hK
      gi_wp2
      exact HK.out
    case body =>
      rintro ll k x V Bx hk hI rfl hBx hbx
      obtain ⟨_, _, kmp⟩ := hinp _ _ _ hI
      obtain ⟨⟨A', c', h1, h2⟩, ⟨y, h3, h4⟩, ⟨es, clock, h5, h6⟩, h7⟩ := hI
      have hxb := pxAt_bd hbd (4 * k)
      have hLb := distL_bd hbd k
      have hLl := distL_length l k
      have HDN : Hid (distL l (k + 1) = addC (distL l k) (pxAt l (4 * k))) := Lib.hid rfl
      have hcx := CB.of hbx
      generalize pxAt l (4 * k) = x at *
      generalize distL l k = L at *
      have hV5 := h7.size
      have kbl : V.cell? ⟨w2.heap.size, 0, none⟩ = some (.slice A' L.length c') := by rw [h1.cell]; rfl
      have HS := Lib.hid (And.intro hs5 (And.intro d6 (And.intro hV5 (And.intro hk (And.intro hBx (And.intro hLl (And.intro hn4 hfw)))))))
      have HBD := Lib.hid (And.intro hxb hLb)
      have HDI := Lib.hid (And.intro h1 (And.intro h2 (And.intro h3 (And.intro h4 (And.intro h5 (And.intro h6 h7))))))
      have HINP := Lib.hid hinp
      have HBX := Lib.hid hbx
      obtain ⟨_, x0, x1, x2, x3, _, _, _, _⟩ := hcx
      have HY := Lib.hid h3
      obtain ⟨_, y0, y1, y2, y3, g0, g1, g2, g3⟩ := h3
      clear hs5 d6 hV5 hk hBx hLl hn4 hfw hxb hLb h1 h2 h4 h5 h6 h7 hinp hbx hst hpx hsm5 hmp
      by_cases hsk : 0 < L.length ∧ x = y
      · obtain ⟨hl0, rfl⟩ := hsk
        have hl0' : (0 : Int) < (L.length : Int) := by omega
        gi_wp2_with fail
        refine ⟨KeepsFrom.refl _ _, ?_⟩
        obtain ⟨h1, h2, h3, h4, h5, h6, h7⟩ := HDI.out
        have hL : addC L x = L := if_pos (h4 hl0)
        rw [HDN.out, hL]
        obtain ⟨es', clock', h5, h6⟩ : ∃ es clock, V.heap[w2.heap.size + 1 + 1]? = some (.map es clock) ∧ MI es clock L k := ⟨es, clock, h5, h6⟩
        exact ⟨⟨A', c', h1, h2⟩, ⟨x, h3, h4⟩, ⟨es', clock', h5, h6.mono (by omega)⟩, h7⟩
      · have hcase : L.length = 0 ∨ (0 < L.length ∧ x ≠ y) := by
          rcases Nat.eq_zero_or_pos L.length with h | h
          · exact .inl h
          · exact .inr ⟨h, fun e => hsk ⟨h, e⟩⟩
        clear hsk
        rcases hcase with hl0 | ⟨hl0, hne⟩
        case' inl =>
          gi_wp2_with fail
          clear hl0
        case' inr =>
          have hl0' : (0 : Int) < (L.length : Int) := by omega
          have hq : ∀ w' : World, (binOp .eql 30 (colV x) (colV y)).run Try.prog w' = .ok (.bool false) w' := fun w' => by rw [eql_col, decide_eq_false hne]
          gi_wp2_with fail
          clear hq hne hl0' hl0
        all_goals
          obtain ⟨hs5, d6, hV5, hk, hBx, hLl, hn4, hfw⟩ := HS.out
          obtain ⟨h1, h2, h3, h4, h5, h6, h7⟩ := HDI.out
          obtain ⟨hxb, hLb⟩ := HBD.out
          have hgm : w2.heap.size + 1 + 1 < V.heap.size := (Array.getElem?_eq_some_iff.1 h5).1
          have u1 := set4_upd V (w2.heap.size + 1) (.int .u16 x.r) (.int .u16 x.g) (.int .u16 x.b) (.int .u16 x.a)
          have cb1 := CB.of (x := x) (set4 HY.out.blk (.int .u16 x.r) (.int .u16 x.g) (.int .u16 x.b) (.int .u16 x.a))
          have ko1 : KeepsOthers V ((((V.setCell ⟨w2.heap.size + 1, 0, none⟩ (.int .u16 x.r)).setCell ⟨w2.heap.size + 1, 1, none⟩ (.int .u16 x.g)).setCell ⟨w2.heap.size + 1, 2, none⟩ (.int .u16 x.b)).setCell ⟨w2.heap.size + 1, 3, none⟩ (.int .u16 x.a)) :=
            (((KeepsOthers.setCell _ _ _).trans (KeepsOthers.setCell _ _ _)).trans (KeepsOthers.setCell _ _ _)).trans (KeepsOthers.setCell _ _ _)
          obtain ⟨V1, hV1⟩ : ∃ V1, (((V.setCell ⟨w2.heap.size + 1, 0, none⟩ (.int .u16 x.r)).setCell ⟨w2.heap.size + 1, 1, none⟩ (.int .u16 x.g)).setCell ⟨w2.heap.size + 1, 2, none⟩ (.int .u16 x.b)).setCell ⟨w2.heap.size + 1, 3, none⟩ (.int .u16 x.a) = V1 := ⟨_, rfl⟩
          rw [hV1] at u1 cb1 ko1 ⊢
          have b1 := h1.upd u1 (by omega)
          have o1 := own_upd h2 u1 (fun j hj e => by have := (h2.lt j hj).1; omega)
          have m1 : V1.drew.heap[w2.heap.size + 1 + 1]? = some (.map es clock) := (u1.block _ hgm (by omega)).trans h5
          have cx1 := CB.of (HBX.out.upd u1 (by omega))
          have kbm : V1.cell? ⟨w2.heap.size + 1 + 1 + 1, 0, none⟩ = some (.map (some (w2.heap.size + 1 + 1))) := (World.cell?_of_block (a := ⟨w2.heap.size + 1 + 1 + 1, 0, none⟩) (u1.block _ (show w2.heap.size + 1 + 1 + 1 < V.heap.size by omega) (by show ¬ w2.heap.size + 1 + 1 + 1 = w2.heap.size + 1; omega))).trans kmp
          have U1 := h7.then u1 (fun i hi e => .inr (.inl e))
          obtain ⟨n0, hcnt, hz0, hb0⟩ := h6.cnt hLb m1 x hxb
          obtain ⟨v0, st, es1, clock1, hme, hl1, es2, clock2, hmi2, hl2, hst⟩ := h6.inc hLb m1 x hxb n0 hcnt
          have mA := keeps_setBlock (es' := es1) (clock' := clock1) m1
          have uA := upd_setBlock m1 (.map es1 clock1)
          obtain ⟨VA, hVA⟩ : ∃ VA, setBlock V1.drew (w2.heap.size + 1 + 1) (.map es1 clock1) = VA := ⟨_, rfl⟩
          rw [hVA] at mA uA hme
          have hstB := hst VA mA
          have mB := keeps_setBlock (es' := es2) (clock' := clock2) mA
          have uB := upd_setBlock mA (.map es2 clock2)
          obtain ⟨VB, hVB⟩ : ∃ VB, setBlock VA (w2.heap.size + 1 + 1) (.map es2 clock2) = VB := ⟨_, rfl⟩
          rw [hVB] at mB uB hstB
          have uAB : Upd (· = w2.heap.size + 1 + 1) V1 VB := ((Upd.refl _ V1).drew.trans uA).trans uB
          have uA1 : Upd (· = w2.heap.size + 1 + 1) V1 VA := (Upd.refl _ V1).drew.trans uA
          have koB : KeepsFrom w5.heap.size V VB := (ko1.from _).trans (((KeepsOthers.drew V1).from _).trans ((KeepsFrom.of_grownBy (row := some (w2.heap.size + 1 + 1)) ⟨uA.os, uA.tape, uA.output, uA.size, fun k hk hne => uA.block k hk (fun e => hne (by rw [e]))⟩ (fun j e => by injection e with e; omega)).trans (KeepsFrom.of_grownBy (row := some (w2.heap.size + 1 + 1)) ⟨uB.os, uB.tape, uB.output, uB.size, fun k hk hne => uB.block k hk (fun e => hne (by rw [e]))⟩ (fun j e => by injection e with e; omega))))
          have hV1s := u1.size
          have cxB := CB.of (cx1.blk.upd uAB (by omega))
          have cxA := CB.of (cx1.blk.upd uA1 (by omega))
          have kbmA : VA.cell? ⟨w2.heap.size + 1 + 1 + 1, 0, none⟩ = some (.map (some (w2.heap.size + 1 + 1))) := (World.cell?_of_block (a := ⟨w2.heap.size + 1 + 1 + 1, 0, none⟩) (uA1.block _ (show w2.heap.size + 1 + 1 + 1 < V1.heap.size by omega) (by show ¬ w2.heap.size + 1 + 1 + 1 = w2.heap.size + 1 + 1; omega))).trans kbm
          have kbmB : VB.cell? ⟨w2.heap.size + 1 + 1 + 1, 0, none⟩ = some (.map (some (w2.heap.size + 1 + 1))) := (World.cell?_of_block (a := ⟨w2.heap.size + 1 + 1 + 1, 0, none⟩) (uAB.block _ (show w2.heap.size + 1 + 1 + 1 < V1.heap.size by omega) (by show ¬ w2.heap.size + 1 + 1 + 1 = w2.heap.size + 1 + 1; omega))).trans kbm
          have HLB := Lib.hid (hl2 VB mB)
          have HMB := Lib.hid (And.intro mB hmi2)
          have HBB := Lib.hid (b1.upd uAB (by omega))
          have HOB := Lib.hid (own_upd o1 uAB (fun j hj e => by have := (o1.lt j hj).1; omega))
          have HCB := Lib.hid (CB.of (cb1.blk.upd uAB (by omega)))
          have HUB := Lib.hid (U1.then uAB (fun i hi e => .inr (.inr (.inl e))))
          have HXB := Lib.hid cxB
          have HKB := Lib.hid kbmB
          have HKO := Lib.hid koB
          have hS0 : V1.drew.cell? ⟨w2.heap.size + 1 + 1 + 1, 0, none⟩ = some (.map (some (w2.heap.size + 1 + 1))) ∧ (V1.drew.cell? ⟨Bx, 0, none⟩ = some (.int .u16 x.r) ∧ V1.drew.cell? ⟨Bx, 1, none⟩ = some (.int .u16 x.g) ∧ V1.drew.cell? ⟨Bx, 2, none⟩ = some (.int .u16 x.b) ∧ V1.drew.cell? ⟨Bx, 3, none⟩ = some (.int .u16 x.a)) ∧ MpCnt V1.drew (w2.heap.size + 1 + 1) x n0 := ⟨kbm, ⟨cx1.c0, cx1.c1, cx1.c2, cx1.c3⟩, hcnt⟩
          have hSA : VA.cell? ⟨w2.heap.size + 1 + 1 + 1, 0, none⟩ = some (.map (some (w2.heap.size + 1 + 1))) ∧ (VA.cell? ⟨Bx, 0, none⟩ = some (.int .u16 x.r) ∧ VA.cell? ⟨Bx, 1, none⟩ = some (.int .u16 x.g) ∧ VA.cell? ⟨Bx, 2, none⟩ = some (.int .u16 x.b) ∧ VA.cell? ⟨Bx, 3, none⟩ = some (.int .u16 x.a)) ∧ MpCnt VA (w2.heap.size + 1 + 1) x n0 := ⟨kbmA, ⟨cxA.c0, cxA.c1, cxA.c2, cxA.c3⟩, hl1 VA mA⟩
          have HS0 := Lib.hid hS0; have HSA := Lib.hid hSA
          have HME := Lib.hid hme; have HES := Lib.hid hstB
          have hn0 : n0 ≤ 65536 := by omega
          have HZ0 := Lib.hid hz0
          clear hs5 d6 hV5 hk hBx hLl hn4 hfw h1 h2 h3 h4 h5 h6 h7 hxb hLb hgm u1 cb1 ko1 hV1 b1 o1 m1 cx1 kbm U1 hcnt hz0 hb0 hme hl1 hmi2 hl2 hst mA uA hVA hstB mB uB hVB uAB uA1 koB hV1s cxB cxA kbmA kbmB hS0 hSA x0 x1 x2 x3 y0 y1 y2 y3 g0 g1 g2 g3 kbl kmp
          refine wpRound_region_T (fun w' => w'.cell? ⟨w2.heap.size + 1 + 1 + 1, 0, none⟩ = some (.map (some (w2.heap.size + 1 + 1))) ∧ (w'.cell? ⟨Bx, 0, none⟩ = some (.int .u16 x.r) ∧ w'.cell? ⟨Bx, 1, none⟩ = some (.int .u16 x.g) ∧ w'.cell? ⟨Bx, 2, none⟩ = some (.int .u16 x.b) ∧ w'.cell? ⟨Bx, 3, none⟩ = some (.int .u16 x.a)) ∧ MpCnt w' (w2.heap.size + 1 + 1) x n0) 6 hmix (by kernel_rfl) (by rintro ⟨_, _, h⟩; exact h) 7 rfl ?_
          refine wpAnyT_take (i := 0) (v := .map (some (w2.heap.size + 1 + 1))) rfl (by kernel_rfl) (by kernel_rfl) (by kernel_rfl) (by kernel_rfl) (fun _ _ _ h => h) (Or.inl ⟨by rfl, ?_⟩) HS0.out ?_
          · intro wz hz
            obtain ⟨z0, ⟨z1, z2, z3, z4⟩, z5⟩ := hz
            go_simp
          simp only [Act.put, List.getElem_toArray, List.getElem_cons_zero, List.setIfInBounds_toArray, List.set_cons_zero, List.set_cons_succ]
          refine wpAnyT_take (i := 1) (v := colV x) rfl (by kernel_rfl) (by kernel_rfl) (by kernel_rfl) (by kernel_rfl) (fun _ _ _ h => h) (Or.inl ⟨by rfl, ?_⟩) HS0.out ?_
          · intro wz hz
            obtain ⟨z0, ⟨z1, z2, z3, z4⟩, z5⟩ := hz
            go_simp
          simp only [Act.put, List.getElem_toArray, List.getElem_cons_succ, List.getElem_cons_zero, List.setIfInBounds_toArray, List.set_cons_zero, List.set_cons_succ]
          refine wpAnyT_take (i := 2) (v := .int .i64 (n0 : Int)) rfl (by kernel_rfl) (by kernel_rfl) (by kernel_rfl) (by kernel_rfl) (fun _ _ _ h => h) (Or.inl ⟨by rfl, ?_⟩) HS0.out ?_
          · intro wz hz
            obtain ⟨z0, ⟨z1, z2, z3, z4⟩, z5⟩ := hz
            unfold MpCnt at z5
            simp [execOp, Act.eval, z5, Result.andThen]
          simp only [Act.put, List.getElem_toArray, List.getElem_cons_succ, List.getElem_cons_zero, List.setIfInBounds_toArray, List.set_cons_zero, List.set_cons_succ]
          refine wpAnyT_take (i := 3) (v := .int .i64 ((n0 + 1 : Nat) : Int)) rfl (by kernel_rfl) (by kernel_rfl) (by kernel_rfl) (by kernel_rfl) (fun _ _ _ h => h) (Or.inl ⟨by rfl, ?_⟩) HS0.out ?_
          · intro wz hz
            have s1 : IntKind.i64.wrap ((n0 : Int) + 1) = (n0 : Int) + 1 := IntWalk.i64_in _ (by omega)
            go_simp
          simp only [Act.put, List.getElem_toArray, List.getElem_cons_succ, List.getElem_cons_zero, List.setIfInBounds_toArray, List.set_cons_zero, List.set_cons_succ]
          refine wpAnyT_one (i := 4) rfl (by kernel_rfl) (by rfl) ?_
          refine wp_mapEntry _ _ _ rfl rfl rfl HME.out ⟨fun _ => HSA.out, ?_⟩
          simp only [Act.put, List.getElem_toArray, List.getElem_cons_succ, List.getElem_cons_zero, List.setIfInBounds_toArray, List.set_cons_zero, List.set_cons_succ]
          refine wpAnyT_one (i := 5) rfl (by kernel_rfl) (by rfl) ?_
          refine wp_extract _ _ rfl rfl (by simp) ⟨fun _ => HSA.out, ?_⟩
          simp only [Act.put, List.getElem_toArray, List.getElem_cons_succ, List.getElem_cons_zero, List.setIfInBounds_toArray, List.set_cons_zero, List.set_cons_succ]
          refine wpAnyT_one (i := 6) rfl (by kernel_rfl) (by rfl) ?_
          refine wp_entryStore _ _ _ _ rfl rfl rfl rfl HES.out ⟨fun h => absurd rfl h, ?_⟩
          simp only [Act.put, List.getElem_toArray, List.getElem_cons_succ, List.getElem_cons_zero]
          refine wpAnyT_done (by kernel_rfl) ?_
          obtain ⟨_, x0, x1, x2, x3, _, _, _, _⟩ := HXB.out
          have hlk := HLB.out
          have kbm := HKB.out
          unfold MpCnt at hlk
          by_cases hxL : x ∈ L
          · have hn1 : n0 ≠ 0 := fun h0 => HZ0.out.1 h0 hxL
            have d1 : (((n0 + 1 : Nat) : Int) == 1) = false := by simp; omega
            have hadd : addC L x = L := if_pos hxL
            have HG : Hid (DI w5 w2.heap.size (w2.heap.size + 1) (w2.heap.size + 1 + 1) (distL l (k + 1)) (k + 1) VB) := Lib.hid (by
              rw [HDN.out]
              refine ⟨⟨A', c', by rw [hadd]; exact HBB.out, by rw [hadd]; exact HOB.out⟩, ⟨x, HCB.out, fun _ => by rw [hadd]; exact hxL⟩, ⟨es2, clock2, HMB.out.1, HMB.out.2⟩, HUB.out⟩)
            gi_wp2_with fail
            exact ⟨HKO.out, HG.out⟩
          · have hn1 : n0 = 0 := HZ0.out.2 hxL
            subst hn1
            have hadd : addC L x = L ++ [x] := if_neg hxL
            obtain ⟨hs5, d6, hV5, hk, hBx, hLl, hn4, hfw⟩ := HS.out
            have hsB := HKO.out.size
            obtain ⟨A9, c9, w9, hrun, o9, hg9⟩ := append_cols w5.heap.size (VB.alloc (.cells #[.int .u16 x.r, .int .u16 x.g, .int .u16 x.b, .int .u16 x.a] 30)) (.slice A' L.length c') L.length (colsV L) (HOB.out.alloc _) (by rw [World.size_alloc]; omega) _ _ 1 1 [x] rfl (cs_lit VB x) (by omega) 55
            have hkr := keeps_row (HOB.out.alloc (.cells #[.int .u16 x.r, .int .u16 x.g, .int .u16 x.b, .int .u16 x.a] 30)) hg9
            have u9 := ((Upd.refl (fun i => i = w2.heap.size ∨ w5.heap.size ≤ i) VB).alloc (.cells #[.int .u16 x.r, .int .u16 x.g, .int .u16 x.b, .int .u16 x.a] 30)).trans ((Upd.of_grown hg9).mono (fun j _ e => .inr (HOB.out.lt j e.symm).1))
            have b9 := HBB.out.upd ((Upd.refl No VB).alloc (.cells #[.int .u16 x.r, .int .u16 x.g, .int .u16 x.b, .int .u16 x.a] 30)) id
            have b9' := b9.upd (Upd.of_grown hg9) (fun e => by have := (HOB.out.lt _ e.symm).1; omega)
            have c9b := CB.of (HCB.out.blk.upd u9 (by omega))
            have m9 := (u9.block _ (Array.getElem?_eq_some_iff.1 HMB.out.1).1 (by omega)).trans HMB.out.1
            have kf := b9'.frozen 0
            have k9 : w9.cell? ⟨w2.heap.size, 0, none⟩ = some (.slice A' L.length c') := by rw [b9'.cell]; rfl
            have us := (Upd.refl (· = w2.heap.size) w9).setCell (p := ⟨w2.heap.size, 0, none⟩) (fun _ => rfl) (.slice A9 (L.length + 1) c9)
            have hlt9 : ∀ j, (Value.slice A9 (L.length + 1) c9).ownBlock = some j → w5.heap.size ≤ j := fun j hj => (o9.lt j hj).1
            have bF := b9'.set_ 0 (.slice A9 (L.length + 1) c9)
            have hKF : KeepsFrom w5.heap.size V (w9.setCell ⟨w2.heap.size, 0, none⟩ (.slice A9 (L.length + 1) c9)) := HKO.out.trans ((((KeepsOthers.alloc VB _).trans hkr).trans (KeepsOthers.setCell w9 ⟨w2.heap.size, 0, none⟩ _)).from _)
            have HG : Hid (KeepsFrom w5.heap.size V (w9.setCell ⟨w2.heap.size, 0, none⟩ (.slice A9 (L.length + 1) c9)) ∧ DI w5 w2.heap.size (w2.heap.size + 1) (w2.heap.size + 1 + 1) (distL l (k + 1)) (k + 1) (w9.setCell ⟨w2.heap.size, 0, none⟩ (.slice A9 (L.length + 1) c9))) := Lib.hid ⟨hKF, by
              have hm9 := HMB.out.2
              rw [HDN.out, hadd]
              rw [hadd] at hm9
              have e1 : (L ++ [x]).length = L.length + 1 := by simp
              refine ⟨⟨A9, c9, ?_, ?_⟩, ⟨x, CB.of (c9b.blk.upd us (by omega)), fun _ => by simp⟩, ⟨es2, clock2, (us.block _ (Array.getElem?_eq_some_iff.1 m9).1 (by omega)).trans m9, hm9⟩, (HUB.out.then u9 (fun i hi e => by omega)).then us (fun i hi e => .inl e)⟩
              · rw [e1]; simpa using bF
              · rw [e1, colsV_append]
                exact own_upd o9 us (fun j hj e => by have := hlt9 j hj; omega)⟩
            have HRN := Lib.hid hrun
            have kbl : VB.cell? ⟨w2.heap.size, 0, none⟩ = some (.slice A' L.length c') := by rw [HBB.out.cell]; rfl
            clear hs5 d6 hV5 hk hBx hLl hn4 hfw hsB hrun o9 hg9 hkr u9 b9 b9' c9b m9 us hlt9 bF hKF hadd hxL
            gi_wp2_with (gi_at_builtin; refine wpListIn_append_run rfl (.tmp 33) (.tmp 35) _ rfl rfl rfl HRN.out ?_)
            exact HG.out
    case done =>
      rintro D V hD hI hK
      obtain ⟨⟨A', c', h1, h2⟩, _, _, h7⟩ := hI
      have kbl : V.cell? ⟨w2.heap.size, 0, none⟩ = some (.slice A' (distL l M).length c') := by rw [h1.cell]; rfl
      have hs := h7.size
      have HR : Hid (DisR w (disL W H l) (.returned (.slice A' (distL l M).length c')) (V.putObj D (.deferred none))) := Lib.hid (by
        rw [HE.out]
        have u9 := h7.then (upd_putObj (S := (· = D)) V D (.deferred none) rfl) (fun i hi e => by omega)
        have hw5 := HB5.out.size
        have hw2s := HB2.out.size
        refine ⟨A', c', rfl, own_low (own_put h2 hK rfl _) (by omega), HB5.out.trans (u9.below hw5 (fun i hi e => by omega))⟩)
      have HK := Lib.hid hK
      clear h1 h2 h7 hK
      generalize (distL l M).length = N at *
      go_wp2_with fail
      refine ⟨by simp, .inl ⟨_, _, rfl, run_takeDeferred HK.out, ?_⟩⟩
      exact ⟨_, by simp [results, Try.results31, go_sem], HR.out⟩
    case stop => rintro D cc V hD h; exact h.elim
end Go.Proofs.Ytkfomjdmdgddlaa
