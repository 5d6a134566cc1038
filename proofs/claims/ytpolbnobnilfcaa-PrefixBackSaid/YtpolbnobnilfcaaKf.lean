/- Contract of the program's spend: coins that are bought lengthen their symbols' codes. -/
import Derived.Test.YtpolbnobnilfcaaKe
import Derived.Shelf.Abstract
namespace Go.Proofs.Ytpolbnobnilfcaa
open Go.ChangeShapes Go.WideShapes Go.ChangeAt Go.RowKit Go.Shelf
attribute [local go_sem] Oper.semAt_some

/-- Each of these symbols' lengths is one more. -/
def incs (L : List Int) (ss : List Int) : List Int := ss.foldl (fun L s => L.set s.toNat (itm L s.toNat + 1)) L
theorem incs_length (ss : List Int) : ∀ L, (incs L ss).length = L.length := by
  induction ss with
  | nil => intro L; rfl
  | cons s ss ih => intro L; unfold incs at ih ⊢; rw [List.foldl_cons, ih]; simp
theorem incs_snoc (L ss : List Int) (s : Int) : incs L (ss ++ [s]) = (incs L ss).set s.toNat (itm (incs L ss) s.toNat + 1) := by simp [incs]
/-- The lengths when d rows are bought, the last one first. -/
def spentTo (sy L0 : List Int) (r : Nat → List (Bool × Nat)) (k m : Nat) : Nat → List Int
  | 0 => L0
  | d + 1 => incs (spentTo sy L0 r k m d) (sy.take (took r k m (k - d)))
theorem spentTo_length (sy L0 : List Int) (r : Nat → List (Bool × Nat)) (k m : Nat) : ∀ d, (spentTo sy L0 r k m d).length = L0.length
  | 0 => rfl
  | d + 1 => by rw [spentTo, incs_length, spentTo_length]
theorem incs_bd (ss : List Int) : ∀ (B : Int) (L : List Int), (∀ i, 0 ≤ itm L i ∧ itm L i ≤ B) → ∀ i, 0 ≤ itm (incs L ss) i ∧ itm (incs L ss) i ≤ B + ss.length := by
  induction ss with
  | nil => intro B L h i; simpa [incs] using h i
  | cons s ss ih =>
    intro B L h i
    have h' : ∀ i, 0 ≤ itm (L.set s.toNat (itm L s.toNat + 1)) i ∧ itm (L.set s.toNat (itm L s.toNat + 1)) i ≤ B + 1 := fun i => by
      have h2 := h s.toNat
      have h3 := h i
      by_cases hs : s.toNat < L.length
      · rw [itm_set _ _ _ _ hs]
        by_cases e : i = s.toNat
        · rw [if_pos e]; omega
        · rw [if_neg e]; omega
      · rw [List.set_eq_of_length_le (by omega)]; omega
    have h1 := ih (B + 1) _ h' i
    have e : incs L (s :: ss) = incs (L.set s.toNat (itm L s.toNat + 1)) ss := rfl
    rw [e, List.length_cons]
    omega
theorem spentTo_bd (sy L0 : List Int) (r : Nat → List (Bool × Nat)) (k m : Nat) (hz : ∀ i, itm L0 i = 0) (hs : sy.length ≤ 4096) : ∀ d i, 0 ≤ itm (spentTo sy L0 r k m d) i ∧ itm (spentTo sy L0 r k m d) i ≤ (d : Int) * 4096
  | 0, i => by rw [spentTo, hz]; simp
  | d + 1, i => by
    have h := incs_bd (sy.take (took r k m (k - d))) _ _ (spentTo_bd sy L0 r k m hz hs d) i
    have h2 : (sy.take (took r k m (k - d))).length ≤ 4096 := by rw [List.length_take]; omega
    rw [spentTo]
    omega
def pairsIn (o : List (Bool × Nat)) (m : Nat) : Nat := (o.take m).countP fun c => !c.1
theorem pairsIn_succ (o : List (Bool × Nat)) (m : Nat) (h : m < o.length) : pairsIn o (m + 1) = pairsIn o m + if o[m].1 then 0 else 1 := by
  unfold pairsIn
  rw [List.take_succ_eq_append_getElem h, List.countP_append]
  rcases hb : o[m].1 <;> simp [hb]
theorem pairsIn_coins (o : List (Bool × Nat)) (m : Nat) (h : m ≤ o.length) : pairsIn o m + coins o m = m := by
  induction m with
  | zero => simp [pairsIn, coins]
  | succ m ih =>
    have ih := ih (by omega)
    rw [pairsIn_succ o m (by omega)]
    unfold coins at ih ⊢
    rw [List.take_succ_eq_append_getElem (show m < o.length by omega), List.countP_append]
    rcases hb : o[m].1 <;> simp [hb] <;> omega

/-- The world while coins are bought. -/
def SpAt (w0 : World) (bw gl baseL M cl : Nat) (wt : Nat) (L : List Int) (W : World) : Prop :=
  Upd (fun k => k = bw ∨ k = gl ∨ w0.heap.size ≤ k) w0 W ∧ W.cell? ⟨bw, 0, none⟩ = some (.int .i64 (wt : Int)) ∧ W.frozen? ⟨bw, 0, none⟩ = false ∧ Row W baseL gl M cl L
theorem SpAt.keep {w0 : World} {bw gl baseL M cl wt : Nat} {L : List Int} {W W' : World} (h : SpAt w0 bw gl baseL M cl wt L W) (hbw : bw < w0.heap.size) (hgl : gl < w0.heap.size) (u : Upd (fun k => w0.heap.size ≤ k) W W') : SpAt w0 bw gl baseL M cl wt L W' := by
  obtain ⟨h1, h2, h3, h4⟩ := h
  have hs := h1.size
  have e := u.block bw (by omega) (by omega)
  exact ⟨h1.trans (u.mono (fun k _ hk => .inr (.inr hk))), (World.cell?_of_block (a := ⟨bw, 0, none⟩) e).trans h2, by rw [← h3]; simp only [World.frozen?, e], own_upd h4 u (fun k hk hh => by
    have : k = gl := by simpa [Value.ownBlock] using hk.symm
    omega)⟩

theorem rows_pick {w : World} {base G N : Nat} {own : List Nat} (h : RowsAt w base G N own N) : ∃ f : Nat → Nat × Nat × Nat, ∀ j, j < N → w.cell? ⟨G, j, none⟩ = some (.slice (some ⟨(f j).1, 0, none⟩) (f j).2.1 (f j).2.2) ∧ CRow w base (f j).1 (f j).2.1 (f j).2.2 (rowsOf own j) ∧ (f j).2.1 ≤ (f j).2.2 ∧ (f j).2.2 ≤ maxLen := by
  have h1 : ∀ j, ∃ t : Nat × Nat × Nat, j < N → w.cell? ⟨G, j, none⟩ = some (.slice (some ⟨t.1, 0, none⟩) t.2.1 t.2.2) ∧ CRow w base t.1 t.2.1 t.2.2 (rowsOf own j) ∧ t.2.1 ≤ t.2.2 ∧ t.2.2 ≤ maxLen := fun j => by
    by_cases hj : j < N
    · obtain ⟨g, n, c, e⟩ := h.row j hj (Nat.le_refl _)
      exact ⟨(g, n, c), fun _ => e⟩
    · exact ⟨(0, 0, 0), fun k => absurd k hj⟩
  exact ⟨fun j => Classical.choose (h1 j), fun j hj => Classical.choose_spec (h1 j) hj⟩
/-- The four boxes that spend begins with. -/
theorem spend_boxes (w : World) (a b c d : Value) (t u v x : TypeId) : Below w.heap.size w ((((w.alloc (.cells #[a] t)).alloc (.cells #[b] u)).alloc (.cells #[c] v)).alloc (.cells #[d] x)) ∧ ((((w.alloc (.cells #[a] t)).alloc (.cells #[b] u)).alloc (.cells #[c] v)).alloc (.cells #[d] x)).heap.size = w.heap.size + 4 ∧
    Blk ((((w.alloc (.cells #[a] t)).alloc (.cells #[b] u)).alloc (.cells #[c] v)).alloc (.cells #[d] x)) w.heap.size t #[a] ∧ Blk ((((w.alloc (.cells #[a] t)).alloc (.cells #[b] u)).alloc (.cells #[c] v)).alloc (.cells #[d] x)) (w.heap.size + 1) u #[b] ∧
    Blk ((((w.alloc (.cells #[a] t)).alloc (.cells #[b] u)).alloc (.cells #[c] v)).alloc (.cells #[d] x)) (w.heap.size + 1 + 1) v #[c] ∧ Blk ((((w.alloc (.cells #[a] t)).alloc (.cells #[b] u)).alloc (.cells #[c] v)).alloc (.cells #[d] x)) (w.heap.size + 1 + 1 + 1) x #[d] := by
  have h1 := Blk.new w t #[a]
  have h2 := Blk.new (w.alloc (.cells #[a] t)) u #[b]
  have h3 := Blk.new ((w.alloc (.cells #[a] t)).alloc (.cells #[b] u)) v #[c]
  have h4 := Blk.new (((w.alloc (.cells #[a] t)).alloc (.cells #[b] u)).alloc (.cells #[c] v)) x #[d]
  simp only [World.size_alloc] at h2 h3 h4
  refine ⟨((((Below.refl _ w).alloc (Nat.le_refl _) _).alloc (by simp) _).alloc (by simp; omega) _).alloc (by simp; omega) _, by simp, ((h1.alloc _).alloc _).alloc _, (h2.alloc _).alloc _, h3.alloc _, h4⟩

set_option maxRecDepth 100000 in
set_option maxHeartbeats 4000000 in
theorem spend_in (w : World) (base G N c : Nat) (own : List Nat) (hR : RowsAt w base G N own N) (baseS gs n cs : Nat) (sy : List Int) (hsy : Row w baseS gs n cs sy) (baseL gl M cl : Nat) (L0 : List Int) (hL : Row w baseL gl M cl L0) (hgl : gl < base) (hne : gs ≠ gl)
    (hS : Syms sy M) (hon : own.length = n) (hn2 : 2 ≤ n) (hn : n ≤ 4096) (hM : M ≤ 4096) (hN : 1 ≤ N) (hN16 : N ≤ 16) (hnN : n ≤ 2 ^ N) (hcc : c = N) (hz : ∀ i, itm L0 i = 0) :
    CallsIn Fence.wide 3 Try.prog 40 #[.slice (some ⟨G, 0, none⟩) N c, .slice (some ⟨gs, 0, none⟩) n cs, .slice (some ⟨gl, 0, none⟩) M cl] w fun e w' => e = .returned (.tuple #[]) ∧ Row w' baseL gl M cl (spentTo sy L0 (rowsOf own) (N - 1) (2 * n - 2) N) ∧ Upd (· = gl) w w' := by
  subst hcc
  refine callsIn_of_wp_marks Try.func40 rfl trivial ?_ rfl
  simp only [Try.ntmps40, List.size_toArray, List.length_cons, List.length_nil, Nat.reduceAdd, Nat.reduceSub, Array.replicate_succ, Array.replicate_zero, List.push_toArray, List.append_toArray, List.nil_append, List.cons_append]
  gi_wp2_with (refine ⟨trivial, ?_⟩; gi_at_call 53; refine (backward_in Fence.wide (3 - 1) trivial rfl _ _ _ _ _ rfl).mono ?_; rintro e W0 ⟨rfl, hW0⟩; have HW0 := Lib.hid hW0; clear hW0)
  obtain ⟨bB, sB, k1, k2, k3, k4⟩ := spend_boxes w (.slice (some ⟨gs, 0, none⟩) n cs) (.slice (some ⟨gl, 0, none⟩) M cl) (.int .i64 (2 * (n : Int) - 2)) (.slice (some ⟨G, 0, none⟩) c c) 22 22 3 87
  rw [← HW0.out] at bB sB k1 k2 k3 k4
  clear HW0
  obtain ⟨f, hf⟩ := rows_pick hR
  obtain ⟨rv, hrv⟩ : ∃ rv : Nat → Value, rv = fun j => .slice (some ⟨(f j).1, 0, none⟩) (f j).2.1 (f j).2.2 := ⟨_, rfl⟩
  have HRV := Lib.hid hrv; clear hrv
  have hGl := hR.lt
  have hgl2 := World.ownsRow.lt hL gl rfl
  have hgs2 := World.ownsRow.lt hsy gs rfl
  have hm : 2 * n - 2 ≤ (rowsOf own (c - 1)).length := by
    have := (rowsOf_Rows own).enough (c - 1) (by rw [show c - 1 + 1 = c from by omega]; omega)
    omega
  refine wpIn_range_seq rfl (by omega) (gf := 58) (lb := #[.pointer (some ⟨w.heap.size + 1 + 1 + 1, 0, none⟩)]) rfl trivial (enters_of Try.func58 (by kernel_rfl) rfl) (fun d => #[.int .i64 ((c : Int) - 1 - (d : Int)), rv (c - 1 - d)]) c
    (Upd (fun k => k = w.heap.size + 1 + 1 ∨ k = gl ∨ W0.heap.size ≤ k)) Upd.trans (fun W l o o' hl ho => upd_putObj W l o' (.inr (.inr hl)))
    (fun d => SpAt W0 (w.heap.size + 1 + 1) gl baseL M cl (want (rowsOf own) (c - 1) (2 * n - 2) d) (spentTo sy L0 (rowsOf own) (c - 1) (2 * n - 2) d)) ?seq (fun d => rfl) ?ia ?ip ?start
    (fun d => { tmps := #[.slice (some ⟨G, 0, none⟩) c c, .slice (some ⟨gs, 0, none⟩) n cs, .slice (some ⟨gl, 0, none⟩) M cl, undef, .pointer (some ⟨w.heap.size, 0, none⟩), .pointer (some ⟨w.heap.size + 1, 0, none⟩), .pointer (some ⟨w.heap.size + 1 + 1, 0, none⟩), undef, rv (c - 1 - d), undef, undef, undef, undef, undef, .slice (some ⟨gs, 0, none⟩) n cs, .int .i64 (n : Int), .int .i64 (2 * (n : Int)), .int .i64 (2 * (n : Int) - 2), .slice (some ⟨G, 0, none⟩) c c, .func (.func 58) #[] #[.pointer (some ⟨w.heap.size + 1 + 1 + 1, 0, none⟩)], .int .i64 ((c : Int) - 1 - (d : Int)), rv (c - 1 - d), undef, undef, undef, undef, undef, undef, undef, undef, undef, undef, undef, undef, undef, undef, undef, undef, undef, undef, undef, undef, undef, undef, undef, undef, undef, undef, undef, undef, undef, undef, undef, undef], defers := [] }) ?assign ?body ?done
  case seq =>
    intro l J W hb hY h0
    refine backward_seq Fence.wide (3 - 1) trivial rfl (by omega) l (w.heap.size + 1 + 1 + 1) G c c rv (by omega) _ (by omega) (by omega) J hY W ?_ ?_ (by have := hb.size; omega) (by have := hb.size; omega) h0
    · rw [hb.cell (p := ⟨w.heap.size + 1 + 1 + 1, 0, none⟩) (by simp; omega), k4.cell]; rfl
    · intro j hj
      rw [hb.cell (p := ⟨G, j, none⟩) (by simp; omega), bB.cell (p := ⟨G, j, none⟩) (by simp; omega), (hf j hj).1, HRV.out]
  case ia => exact fun d W o h => h.keep (by omega) (by omega) ((Upd.refl _ W).alloc o)
  case ip => exact fun d W l o o' hl ho _ h => h.keep (by omega) (by omega) (upd_putObj W l o' hl)
  case start => exact ⟨Upd.refl _ _, by rw [k3.cell]; simp [want]; omega, k3.frozen 0, own_upd hL (Upd.of_fresh bB) (fun _ _ => id)⟩
  case assign =>
    intro l d W K hK
    gi_wp2
    exact hK
  case body =>
    intro l d W hd hI
    obtain ⟨hU, cw, fw, hRw⟩ := hI
    have hsW := hU.size
    have HSP : Hid (spentTo sy L0 (rowsOf own) (c - 1) (2 * n - 2) (d + 1) = incs (spentTo sy L0 (rowsOf own) (c - 1) (2 * n - 2) d) (sy.take (took (rowsOf own) (c - 1) (2 * n - 2) (c - 1 - d)))) := Lib.hid rfl
    have HWT : Hid (want (rowsOf own) (c - 1) (2 * n - 2) (d + 1) = 2 * (want (rowsOf own) (c - 1) (2 * n - 2) d - coins (rowsOf own (c - 1 - d)) (want (rowsOf own) (c - 1) (2 * n - 2) d))) := Lib.hid rfl
    have hwf := want_fits (rowsOf_Rows own) (c - 1) (2 * n - 2) hm d (by omega)
    have htk := took_le (rowsOf_Rows own) (c - 1) (2 * n - 2) hm (c - 1 - d) (by omega)
    have htc : took (rowsOf own) (c - 1) (2 * n - 2) (c - 1 - d) = coins (rowsOf own (c - 1 - d)) (want (rowsOf own) (c - 1) (2 * n - 2) d) := by
      unfold took
      rw [show c - 1 - (c - 1 - d) = d from by omega]
    have hpc := pairsIn_coins (rowsOf own (c - 1 - d)) (want (rowsOf own) (c - 1) (2 * n - 2) d) hwf
    have hslen := ((rowsOf_Rows own).short (c - 1 - d)).2
    obtain ⟨_, fr, fle, fmx⟩ := hf (c - 1 - d) (by omega)
    have hrvv : rv (c - 1 - d) = .slice (some ⟨(f (c - 1 - d)).1, 0, none⟩) (f (c - 1 - d)).2.1 (f (c - 1 - d)).2.2 := by rw [HRV.out]
    rw [hrvv]
    clear hrvv
    have hgj := fr.lt
    have hfl := fr.len
    have hsyl : sy.length = n := Row.len hsy
    have HBD := Lib.hid (spentTo_bd sy L0 (rowsOf own) (c - 1) (2 * n - 2) hz (by omega) d)
    obtain ⟨wt, hwt⟩ : ∃ wt, want (rowsOf own) (c - 1) (2 * n - 2) d = wt := ⟨_, rfl⟩
    obtain ⟨tk, htk0⟩ : ∃ tk, took (rowsOf own) (c - 1) (2 * n - 2) (c - 1 - d) = tk := ⟨_, rfl⟩
    obtain ⟨Ld, hLd⟩ : ∃ Ld, spentTo sy L0 (rowsOf own) (c - 1) (2 * n - 2) d = Ld := ⟨_, rfl⟩
    have hLl : Ld.length = M := by rw [← hLd, spentTo_length]; exact Row.len hL
    rw [hwt] at HWT hwf htc hpc cw
    rw [htk0] at HSP htk htc
    rw [hLd] at HSP hRw HBD
    obtain ⟨o, ho⟩ : ∃ o, rowsOf own (c - 1 - d) = o := ⟨_, rfl⟩
    rw [ho] at HWT hwf htc hpc fr hslen hfl
    rw [← htc] at HWT hpc
    generalize (f (c - 1 - d)).1 = g at *
    generalize (f (c - 1 - d)).2.1 = nj at *
    generalize (f (c - 1 - d)).2.2 = cj at *
    have HT := Lib.hid htc; clear htc
    have HWt := Lib.hid hwt; clear hwt
    have HTk := Lib.hid htk0; clear htk0
    have HLd := Lib.hid hLd; clear hLd
    have HLl := Lib.hid hLl; clear hLl
    have HO := Lib.hid ho; clear ho
    have FR : Hid (CRow W base g nj cj o) := Lib.hid ((fr.upd (Upd.of_fresh bB) id).upd hU (by omega))
    have hnj : o.length = nj := FR.out.len
    have hgW : g < W.heap.size := FR.out.lt.2
    have HNJ := Lib.hid hnj
    have i1 : (wt : Int) ≤ (cj : Int) := by omega
    have i0 : (0 : Int) ≤ (wt : Int) := by omega
    have hwt8 : wt ≤ 8192 := by omega
    have HU := Lib.hid hU
    have hRW := Lib.hid hRw; clear hRw
    clear hfl hf fr hnj
    gi_wp2
    gi_loopw [9, 26] (fun p i wr => ∃ q : Nat, q ≤ wt ∧ i = .int .i64 (q : Int) ∧ p = .int .i64 ((pairsIn o q : Nat) : Int) ∧ KeepsOthers W wr ∧ Below W.heap.size W wr) (fun _ i _ => wt - (intOf i).toNat)
    case atStart => exact ⟨0, by omega, rfl, by simp [pairsIn], KeepsOthers.refl _, Below.refl _ _⟩
    case round =>
      obtain ⟨q, hq, rfl, rfl, hK, hB⟩ := hrel
      have HK := Lib.hid hK; clear hK
      have HB := Lib.hid hB; clear hB
      have hsr := HB.out.size
      by_cases hlt : q < wt
      · have FRr := Lib.hid (FR.out.upd (Upd.of_fresh HB.out) id)
        have c1 := FRr.out.weight q (by omega)
        have c2 := FRr.out.kind q (by omega)
        have HP := Lib.hid (pairsIn_succ o q (by omega))
        have hpb := pairsIn_coins o q (by omega)
        generalize pairsIn o q = pq at *
        generalize (o[q]'(by omega)).2 = xq at *
        rcases hb : (o[q]'(by omega)).1 with _ | _
        all_goals
          rw [hb] at c2
          rw [hb] at HP
          clear hb
          gi_wp2
          go_roundw
          case rel => exact ⟨q + 1, by omega, by go_num, by rw [HP.out]; go_num, HK.out.trans (KeepsOthers.alloc _ _), HB.out.alloc hsr _⟩
          case measure => simp [intOf]; omega
      · obtain rfl : q = wt := by omega
        have hcs := own_cap hsy
        obtain ⟨pp, hpp⟩ : ∃ pp, pairsIn o q = pp := ⟨_, rfl⟩
        rw [hpp] at hpc ⊢
        have HPP := Lib.hid hpp; clear hpp
        have ek : (q : Int) - (pp : Int) = (tk : Int) := by omega
        have kS : wr.cell? ⟨w.heap.size, 0, none⟩ = some (.slice (some ⟨gs, 0, none⟩) n cs) := by
          rw [HB.out.cell (p := ⟨w.heap.size, 0, none⟩) (by simp; omega), World.cell?_of_block (a := ⟨w.heap.size, 0, none⟩) (HU.out.block w.heap.size (by omega) (by omega)), k1.cell]; rfl
        have kw : wr.cell? ⟨w.heap.size + 1 + 1, 0, none⟩ = some (.int .i64 (q : Int)) := by
          rw [HB.out.cell (p := ⟨w.heap.size + 1 + 1, 0, none⟩) (by simp; omega)]; exact cw
        have j0 : (0 : Int) ≤ (tk : Int) := by omega
        have j1 : (tk : Int) ≤ (cs : Int) := by omega
        have HST : Hid (KeepsOthers W wr ∧ Upd (fun k => k = gl ∨ W.heap.size ≤ k) W wr ∧ Row wr baseL gl M cl (incs Ld (sy.take 0))) := Lib.hid
          ⟨HK.out, (Upd.of_below HB.out).mono (fun k _ h => .inr h), own_upd hRW.out (Upd.of_fresh HB.out) (fun _ _ => id)⟩
        gi_wp2
        obtain ⟨wo, hwo⟩ : ∃ wo : World, wo = wr := ⟨_, rfl⟩
        subst hwo
        gi_loopw [41] (fun i wr => ∃ t : Nat, t ≤ tk ∧ i = .int .i64 (t : Int) ∧ Hid (KeepsOthers W wr ∧ Upd (fun k => k = gl ∨ W.heap.size ≤ k) W wr ∧ Row wr baseL gl M cl (incs Ld (sy.take t)))) (fun i _ => tk - (intOf i).toNat)
        case atStart => exact ⟨0, by omega, rfl, HST⟩
        case round =>
          clear kS kw HST
          obtain ⟨t, ht, rfl, HC⟩ := hrel
          have hs2 := HC.out.2.1.size
          by_cases hlt2 : t < tk
          · have hts : t < sy.length := by omega
            have q1 : wr.cell? ⟨gs, t, none⟩ = some (.int .i64 (itm sy t)) := by
              rw [World.cell?_of_block (a := ⟨gs, t, none⟩) (HC.out.2.1.block gs (by omega) (by omega)), World.cell?_of_block (a := ⟨gs, t, none⟩) (HU.out.block gs (by omega) (by omega)), bB.cell (p := ⟨gs, t, none⟩) (by simp; omega)]
              exact Row.cell hsy (by omega)
            have q2 : wr.cell? ⟨w.heap.size + 1, 0, none⟩ = some (.slice (some ⟨gl, 0, none⟩) M cl) := by
              rw [World.cell?_of_block (a := ⟨w.heap.size + 1, 0, none⟩) (HC.out.2.1.block (w.heap.size + 1) (by omega) (by omega)), World.cell?_of_block (a := ⟨w.heap.size + 1, 0, none⟩) (HU.out.block (w.heap.size + 1) (by omega) (by omega)), k2.cell]; rfl
            obtain ⟨s0, s1⟩ := hS.at_ t hts
            have hil : (incs Ld (sy.take t)).length = M := by rw [incs_length]; exact HLl.out
            have q3 := Row.cell HC.out.2.2 (k := (itm sy t).toNat) (by omega)
            have q4 := Row.free HC.out.2.2 (itm sy t).toNat
            have q5 := Row.set_ HC.out.2.2 (itm sy t).toNat (itm (incs Ld (sy.take t)) (itm sy t).toNat + 1)
            have q6 := incs_bd (sy.take t) _ Ld HBD.out (itm sy t).toNat
            have q7 : ((sy.take t).length : Int) ≤ 4096 := by rw [List.length_take]; omega
            have q8 : (d : Int) * 4096 ≤ 65536 := by omega
            have hsn : incs Ld (sy.take (t + 1)) = (incs Ld (sy.take t)).set (itm sy t).toNat (itm (incs Ld (sy.take t)) (itm sy t).toNat + 1) := by
              rw [List.take_succ_eq_append_getElem hts, incs_snoc, itm_get sy t hts]
            rw [← hsn] at q5
            have Q5 := Lib.hid q5; clear q5 hsn
            obtain ⟨r0, r1⟩ := q6
            generalize itm (incs Ld (sy.take t)) (itm sy t).toNat = y at *
            generalize itm sy t = s at *
            gi_wp2
            go_roundw
            case rel => exact ⟨t + 1, by omega, by go_num, Lib.hid ⟨HC.out.1.trans (KeepsOthers.setCell _ _ _), HC.out.2.1.setCell (p := ⟨gl, s.toNat, none⟩) (fun _ => .inl rfl) _, Q5.out⟩⟩
            case measure => simp [intOf]; omega
          · obtain rfl : t = tk := by omega
            obtain ⟨hk2, hu2, hr2⟩ := HC.out
            have kw : wr.cell? ⟨w.heap.size + 1 + 1, 0, none⟩ = some (.int .i64 (q : Int)) := by
              rw [World.cell?_of_block (a := ⟨w.heap.size + 1 + 1, 0, none⟩) (hu2.block (w.heap.size + 1 + 1) (by omega) (by omega))]; exact cw
            have kf : wr.frozen? ⟨w.heap.size + 1 + 1, 0, none⟩ = false := by
              have e := hu2.block (w.heap.size + 1 + 1) (by omega) (by omega)
              rw [← fw]; simp only [World.frozen?, e]
            have HR2 : Hid (Row wr baseL gl M cl (spentTo sy L0 (rowsOf own) (c - 1) (2 * n - 2) (d + 1))) := Lib.hid (by rw [HSP.out]; exact hr2)
            have HU2 : Hid (Upd (fun k => k = w.heap.size + 1 + 1 ∨ k = gl ∨ W0.heap.size ≤ k) W wr) := Lib.hid (hu2.mono (fun k _ h => by omega))
            have HK2 := Lib.hid hk2
            have e2 : ((want (rowsOf own) (c - 1) (2 * n - 2) (d + 1) : Nat) : Int) = 2 * (pp : Int) := by rw [HWT.out]; omega
            have HE2 := Lib.hid e2
            clear hk2 hu2 hr2 HC e2
            gi_wp2
            refine ⟨HK2.out.trans (KeepsOthers.setCell _ _ _), HU2.out.setCell (p := ⟨w.heap.size + 1 + 1, 0, none⟩) (fun _ => .inl rfl) _, (HU.out.trans HU2.out).setCell (p := ⟨w.heap.size + 1 + 1, 0, none⟩) (fun _ => .inl rfl) _, ?_, by rw [World.frozen?_setCell]; exact kf, ?_⟩
            · rw [HE2.out]; exact World.cell?_setCell_same' _ _ _ (by rw [kw]; rfl)
            · exact own_upd HR2.out ((Upd.refl (· = w.heap.size + 1 + 1) wr).setCell (p := ⟨w.heap.size + 1 + 1, 0, none⟩) (fun _ => rfl) _) (fun k hk h => by
                have : k = gl := by simpa [Value.ownBlock] using hk.symm
                omega)
  case done =>
    intro D W hD hI hK
    gi_wp2
    refine ⟨by simp, .inl ⟨_, _, rfl, run_takeDeferred hK, ?_⟩⟩
    have h2 := SpAt.keep hI (by omega) (by omega) (upd_putObj W D (.deferred none) hD)
    exact ⟨_, results_none rfl _ _ _, rfl, h2.2.2.2, Upd.then ((Upd.of_fresh bB).mono (fun _ _ h => absurd h id)) h2.1 (fun k hk h => by
      rcases h with h | h | h
      · omega
      · exact h
      · omega)⟩
end Go.Proofs.Ytpolbnobnilfcaa
