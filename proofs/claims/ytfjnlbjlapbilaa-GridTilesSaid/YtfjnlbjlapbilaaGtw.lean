/- A size is cut into tiles, each place in just one of them: for every size and all sides of tiles. -/
import Derived.Test.YtfjnlbjlapbilaaGu
import Derived.Test.YtfjnlbjlapbilaaGam
import Derived.Test.YtfjnlbjlapbilaaGp
import Derived.Deep.CondSized
namespace Go.Proofs.Ytfjnlbjlapbilaa
open Go.ChangeShapes Go.WideShapes Go.ChangeAt Go.RowKit Go.Shelf
attribute [local go_sem] Oper.semAt_some

theorem vs_of_rows {w : World} {base s : Nat} {e : TypeId} {A : Option Addr} {n c : Nat} {xs : List Value} (h : w.ownsRow base e s (.slice A n c) n xs) : Vs w w.heap.size A xs := fun hn => by
  have hl := h.1
  obtain ⟨g, cap, hv, _, hlt⟩ := h.form (by
    rcases Nat.eq_zero_or_pos n with h0 | h0
    · subst h0; omega
    · exact h0)
  have hA : A = some ⟨g, 0, none⟩ := by injection hv
  subst hA
  exact ⟨_, rfl, hlt, fun j hj => h.cells (g := g) rfl j _ (List.getElem?_eq_getElem hj)⟩
/-- How many tiles there are. -/
def tilesN (x y tw th : Int) : Nat := if mayB x y = true ∧ 1 ≤ tw ∧ 1 ≤ th then cntT x.toNat (cutT x.toNat tw) * cntT y.toNat (cutT y.toNat th) else 0
theorem tilesN_good {W H : Nat} {tw th : Int} (h : mayB (W : Int) (H : Int) = true ∧ 1 ≤ tw ∧ 1 ≤ th) : tilesN W H tw th = cntT W (cutT W tw) * cntT H (cutT H th) ∧ 1 ≤ W ∧ 1 ≤ H ∧ W * H ≤ 65536 ∧ 1 ≤ cutT W tw ∧ 1 ≤ cutT H th ∧ tilesN W H tw th ≤ 65536 := by
  obtain ⟨b1, b2, b3, b4, b5⟩ := mayB_bd h.1
  have hW : 1 ≤ W := by omega
  have hH : 1 ≤ H := by omega
  have e : tilesN W H tw th = cntT W (cutT W tw) * cntT H (cutT H th) := by unfold tilesN; rw [if_pos h]; simp
  have c1 := cutT_bd hW h.2.1
  have c2 := cutT_bd hH h.2.2
  have hf : W * H ≤ 65536 := by rw [← Int.natCast_mul] at b5; omega
  exact ⟨e, hW, hH, hf, c1.1, c2.1, by rw [e]; exact Nat.le_trans (Nat.mul_le_mul (cntT_le c1.1) (cntT_le c2.1)) hf⟩
theorem tilesN_le (x y tw th : Int) : tilesN x y tw th ≤ 65536 := by
  by_cases h : mayB x y = true ∧ 1 ≤ tw ∧ 1 ≤ th
  · obtain ⟨b1, _, b3, _⟩ := mayB_bd h.1
    obtain ⟨W, rfl⟩ : ∃ W : Nat, x = (W : Int) := ⟨x.toNat, by omega⟩
    obtain ⟨H, rfl⟩ : ∃ H : Nat, y = (H : Int) := ⟨y.toNat, by omega⟩
    exact (tilesN_good h).2.2.2.2.2.2
  · unfold tilesN
    rw [if_neg h]
    omega
/-- The document's tiles, whatever is asked. -/
theorem refTiles_all (x y tw th : Int) (w : World) : Calls Try.prog 31 #[.int .i64 x, .int .i64 y, .int .i64 tw, .int .i64 th] w fun e w' => ∃ A c, e = .returned (.slice A (tilesN x y tw th) c) ∧
      Vs w' w'.heap.size A (tilesV x.toNat y.toNat (cutT x.toNat tw) (cutT y.toNat th) (tilesN x y tw th)) ∧ Below w.heap.size w w' := by
  by_cases h : mayB x y = true ∧ 1 ≤ tw ∧ 1 ≤ th
  · obtain ⟨b1, _, b3, _⟩ := mayB_bd h.1
    obtain ⟨W, rfl⟩ : ∃ W : Nat, x = (W : Int) := ⟨x.toNat, by omega⟩
    obtain ⟨H, rfl⟩ : ∃ H : Nat, y = (H : Int) := ⟨y.toNat, by omega⟩
    refine (refTiles_good W H tw th h.1 h.2.1 h.2.2 w).mono ?_
    rintro e w' ⟨A, c, rfl, ho, hb⟩
    rw [(tilesN_good h).1]
    simp only [Int.toNat_natCast]
    exact ⟨A, c, rfl, vs_of_rows ho, hb⟩
  · refine (refTiles_bad x y tw th h w).mono ?_
    rintro e w' ⟨rfl, rfl⟩
    have e0 : tilesN x y tw th = 0 := by unfold tilesN; rw [if_neg h]
    rw [e0]
    exact ⟨none, 0, rfl, Vs.nil_, Below.refl _ _⟩
/-- A row of cells has grown. -/
theorem keeps_of_grown {V w9 : World} {base s n : Nat} {e : TypeId} {v : Value} {xs : List Value} (ho : V.ownsRow base e s v n xs) (u : Upd (fun i => v.ownBlock = some i ∨ V.heap.size ≤ i) V w9) : KeepsOthers V w9 := by
  refine ⟨u.size, fun i o hi hoc => ?_⟩
  have hlt := (Array.getElem?_eq_some_iff.1 hi).1
  refine (u.block i hlt ?_).trans hi
  rintro (h | h)
  · rcases ho.2 with ⟨rfl, _⟩ | ⟨g, c, cur, rfl, _, a, _⟩
    · cases h
    · have e1 : g = i := by simpa [Value.ownBlock] using h
      subst e1
      rw [hi] at a
      injection a with a
      subst a
      cases hoc
  · omega
theorem area_le (x y tw th : Int) {k : Nat} (hk : k ≤ tilesN x y tw th) : areaT x.toNat y.toNat (cutT x.toNat tw) (cutT y.toNat th) k ≤ 65536 := by
  by_cases h : mayB x y = true ∧ 1 ≤ tw ∧ 1 ≤ th
  · obtain ⟨b1, _, b3, _⟩ := mayB_bd h.1
    obtain ⟨W, rfl⟩ : ∃ W : Nat, x = (W : Int) := ⟨x.toNat, by omega⟩
    obtain ⟨H, rfl⟩ : ∃ H : Nat, y = (H : Int) := ⟨y.toNat, by omega⟩
    obtain ⟨e, h1, h2, h3, h4, h5, _⟩ := tilesN_good h
    simp only [Int.toNat_natCast]
    rw [e] at hk
    exact Nat.le_trans (areaT_mono hk) (by rw [areaT_all h1 h4 h5]; exact h3)
  · unfold tilesN at hk
    rw [if_neg h] at hk
    obtain rfl : k = 0 := by omega
    simp [areaT]
theorem area_all (x y tw th : Int) (hN : ¬ tilesN x y tw th = 0) : wrap64 (x * y) = ((areaT x.toNat y.toNat (cutT x.toNat tw) (cutT y.toNat th) (tilesN x y tw th) : Nat) : Int) := by
  by_cases h : mayB x y = true ∧ 1 ≤ tw ∧ 1 ≤ th
  · obtain ⟨b1, _, b3, _⟩ := mayB_bd h.1
    obtain ⟨W, rfl⟩ : ∃ W : Nat, x = (W : Int) := ⟨x.toNat, by omega⟩
    obtain ⟨H, rfl⟩ : ∃ H : Nat, y = (H : Int) := ⟨y.toNat, by omega⟩
    obtain ⟨e, h1, h2, h3, h4, h5, _⟩ := tilesN_good h
    simp only [Int.toNat_natCast]
    rw [e, areaT_all h1 h4 h5, ← Int.natCast_mul]
    exact IntWalk.wrap64_in _ (by omega)
  · unfold tilesN at hN
    rw [if_neg h] at hN
    exact absurd rfl hN
theorem area_step {W H t u k : Nat} (h : areaT W H t u (k + 1) ≤ 65536) : ∃ P : Nat, wrap64 ((lenT W t (k % cntT W t) : Int) * (lenT H u (k / cntT W t) : Int)) = (P : Int) ∧ wrap64 ((areaT W H t u k : Int) + (P : Int)) = ((areaT W H t u (k + 1) : Nat) : Int) := by
  have e : areaT W H t u (k + 1) = areaT W H t u k + lenT W t (k % cntT W t) * lenT H u (k / cntT W t) := rfl
  refine ⟨lenT W t (k % cntT W t) * lenT H u (k / cntT W t), ?_, ?_⟩
  · rw [← Int.natCast_mul]
    exact IntWalk.wrap64_in _ (by omega)
  · rw [e] at h ⊢
    rw [← Int.natCast_add]
    exact IntWalk.wrap64_in _ (by omega)
theorem tile_eq {W H t u k : Nat} : tileV W H t u k = (tileA W H t u k).toList := rfl
namespace GridTiles

set_option maxHeartbeats 4000000 in
set_option maxRecDepth 100000 in
theorem walk (x y a b : Int) (w : World) (hx : -9223372036854775808 ≤ x ∧ x ≤ 9223372036854775807) (hy : -9223372036854775808 ≤ y ∧ y ≤ 9223372036854775807) (ha : -9223372036854775808 ≤ a ∧ a ≤ 9223372036854775807) (hbd : -9223372036854775808 ≤ b ∧ b ≤ 9223372036854775807) :
    Calls Try.prog 8 #[.int .i64 x, .int .i64 y, .agg #[.int .i64 a, .int .i64 b]] w fun e w' => e = .returned (.bool true) ∧ Below w.heap.size w w' := by
  have hmix : Try.prog.follows .mixedOrders = true := by kernel_rfl
  refine (callsIn_wide (n := 3)).1 ?_
  refine callsIn_of_wp_marks Try.func8 rfl trivial ?_ rfl
  simp only [Try.ntmps8, List.size_toArray, List.length_cons, List.length_nil, Nat.reduceAdd, Nat.reduceSub, Array.replicate_succ, Array.replicate_zero, List.push_toArray, List.append_toArray, List.nil_append, List.cons_append]
  refine wpIn_wide.2 ?_
  go_wp2_with fail
  have hb0 := Blk.new w 63 #[.int .i64 a, .int .i64 b]
  have hw0 := (Below.refl w.heap.size w).alloc (Nat.le_refl _) (.cells #[.int .i64 a, .int .i64 b] 63)
  obtain ⟨W0, hW0⟩ : ∃ W0 : World, w.alloc (.cells #[.int .i64 a, .int .i64 b] 63) = W0 := ⟨_, rfl⟩
  rw [hW0] at hb0 hw0 ⊢
  have hs0 := hw0.size
  have hlt0 := hb0.lt
  clear hW0
  refine (wakes_any W0).mono ?_
  rintro e w1 ⟨rfl, hb1⟩
  have hbt := hb0.upd (Upd.of_fresh hb1) id
  have hbw := hw0.trans (hb1.mono hs0)
  have hs1 := hb1.size
  clear hb0 hw0 hb1
  have kt0 : (w1.alloc (.cells #[.slice none 0 0] 64)).cell? ⟨w.heap.size, 0, none⟩ = some (.int .i64 a) := by rw [(hbt.alloc _).cell]; rfl
  have kt1 : (w1.alloc (.cells #[.slice none 0 0] 64)).cell? ⟨w.heap.size, 1, none⟩ = some (.int .i64 b) := by rw [(hbt.alloc _).cell]; rfl
  have HBT := Lib.hid hbt; have HBW := Lib.hid hbw
  clear hbt hbw
  go_wp2_with fail
  refine (tiles_any _ x y a b).mono ?_
  rintro e w2 ⟨rfl, rfl⟩
  have hl0 := Blk.new w1 64 #[.slice none 0 0]
  have hlw := (Below.refl w1.heap.size w1).alloc (Nat.le_refl _) (.cells #[.slice none 0 0] 64)
  have hls : (w1.alloc (.cells #[.slice none 0 0] 64)).heap.size = w1.heap.size + 1 := by simp
  obtain ⟨w3, hw3⟩ : ∃ w3 : World, w1.alloc (.cells #[.slice none 0 0] 64) = w3 := ⟨_, rfl⟩
  rw [hw3] at hl0 hlw hls ⊢
  clear hw3
  obtain ⟨hbx, hsx, q0, q1, q2, q3⟩ := boxes4 w3 #[.int .i64 x] #[.int .i64 y] #[.int .i64 a] #[.int .i64 b] 3 3 3 3
  obtain ⟨w5, hw5⟩ : ∃ w5 : World, (((w3.alloc (.cells #[.int .i64 x] 3)).alloc (.cells #[.int .i64 y] 3)).alloc (.cells #[.int .i64 a] 3)).alloc (.cells #[.int .i64 b] 3) = w5 := ⟨_, rfl⟩
  rw [hw5] at hbx hsx q0 q1 q2 q3 ⊢
  clear hw5
  have HL := Lib.hid (hl0.upd (Upd.of_fresh hbx) id)
  have HT5 := Lib.hid ((HBT.out.upd (Upd.of_fresh hlw) id).upd (Upd.of_fresh hbx) id)
  have HB5 := Lib.hid ((HBW.out.trans (hlw.mono (by omega))).trans (hbx.mono (by omega)))
  have Q0 := Lib.hid q0; have Q1 := Lib.hid q1; have Q2 := Lib.hid q2; have Q3 := Lib.hid q3
  clear q0 q1 q2 q3 hbx hl0 hlw kt0 kt1 HBT HBW
  obtain ⟨lb, hlb⟩ : ∃ lb, w1.heap.size = lb := ⟨_, rfl⟩
  rw [hlb] at HL hls
  obtain ⟨tb, htb⟩ : ∃ tb, lb + 1 = tb := ⟨_, rfl⟩
  rw [hls, htb] at Q0 Q1 Q2 Q3 hsx ⊢
  rw [htb] at hls
  obtain ⟨N, hN⟩ : ∃ N, tilesN x y a b = N := ⟨_, rfl⟩
  have hN65 : N ≤ 65536 := by rw [← hN]; exact tilesN_le _ _ _ _
  obtain ⟨t, ht⟩ : ∃ t, cutT x.toNat a = t := ⟨_, rfl⟩
  obtain ⟨u, hu⟩ : ∃ u, cutT y.toNat b = u := ⟨_, rfl⟩
  have HN := Lib.hid hN; have HT := Lib.hid ht; have HU := Lib.hid hu
  clear hN ht hu
  go_wp2_with fail
  refine wpIn_wide.1 (wpIn_range_box1 (α := Nat) (F := Fence.wide) (n := 3) rfl (by omega) (gf := 51) (lb := #[.pointer (some ⟨tb, 0, none⟩), .pointer (some ⟨tb + 1, 0, none⟩), .pointer (some ⟨tb + 1 + 1, 0, none⟩), .pointer (some ⟨tb + 1 + 1 + 1, 0, none⟩)]) rfl trivial (enters_of Try.func51 (by kernel_rfl) rfl) (tileEnc x.toNat y.toNat t u) N
    (fun k V => ∃ A c, Blk V lb 64 #[.slice A k c] ∧ V.ownsRow w5.heap.size 37 4 (.slice A k c) k (tilesV x.toNat y.toNat t u k) ∧ Upd (· = lb) w5 V)
    (fun k z _ => z = k) (fun _ _ => False)
    ?seq (fun _ => rfl) ?ia ?ip (fun _ _ _ _ h => h) (fun _ _ _ _ _ _ _ _ _ h => h) (fun _ _ _ _ _ _ _ _ h => h) ?start (fun k V h => by obtain ⟨_, _, _, _, h⟩ := h; exact h.size) 37 (fun k => tileA x.toNat y.toNat t u k) ?Fa ?assign ?body ?done (fun _ _ _ _ h => h.elim))
  case seq =>
    intro ll R Jx V hRb hY h0 hR
    have hbox : ∀ V, Upd (· = lb) w5 V → TBox V tb x y a b := fun V h => by
      refine ⟨?_, ?_, ?_, ?_⟩
      · rw [(Q0.out.upd h (by omega)).cell]; rfl
      · rw [(Q1.out.upd h (by omega)).cell]; rfl
      · rw [(Q2.out.upd h (by omega)).cell]; rfl
      · rw [(Q3.out.upd h (by omega)).cell]; rfl
    by_cases h : mayB x y = true ∧ 1 ≤ a ∧ 1 ≤ b
    · obtain ⟨b1, _, b3, _⟩ := mayB_bd h.1
      obtain ⟨W, rfl⟩ : ∃ W : Nat, x = (W : Int) := ⟨x.toNat, by omega⟩
      obtain ⟨H, rfl⟩ : ∃ H : Nat, y = (H : Int) := ⟨y.toNat, by omega⟩
      have e := (tilesN_good h).1
      rw [HN.out] at e
      have hTe := HT.out; have hUe := HU.out
      simp only [Int.toNat_natCast] at hTe hUe hY ⊢
      subst hTe hUe
      rw [e] at hY ⊢
      exact tiles1_in (3 - 1) (by omega) ll tb W H a b h.1 h.2.1 h.2.2 ha.2 hbd.2 _ R Jx (fun k V h => by obtain ⟨_, _, _, _, h⟩ := h; exact hbox V h) (fun k z V hk hI hR hz => hY k z V hk hI hR hz) V h0 hR
    · have e0 : N = 0 := by rw [← HN.out]; unfold tilesN; rw [if_neg h]
      subst e0
      obtain ⟨A, c, h1, h2, h3⟩ := h0
      refine (tiles1_bad (3 - 1) (by omega) ll tb x y a b h V (hbox V h3)).mono ?_
      rintro e V' ⟨hv, rfl⟩
      exact ⟨hv, .inl ⟨⟨A, c, h1, h2, h3⟩, hR⟩⟩
  case ia => rintro k V o ⟨A, c, h1, h2, h3⟩; exact ⟨A, c, h1.alloc o, own_upd h2 ((Upd.refl No V).alloc o) (fun _ _ => id), h3.alloc o⟩
  case ip => rintro k V ll o o' hll ho hoc ⟨A, c, h1, h2, h3⟩; exact ⟨A, c, h1.upd (upd_putObj (S := (· = ll)) V ll o' rfl) (by omega), own_put h2 ho hoc o', h3.then (upd_putObj (S := fun i => w5.heap.size ≤ i) V ll o' hll) (fun i hi h => absurd h (by omega))⟩
  case start => exact ⟨none, 0, HL.out, World.ownsRow_nil _ _ _ _, Upd.refl _ _⟩
  case assign =>
    intro ll z V Bx K hBx hK
    dsimp only [tileEnc, tileA] at hK ⊢
    have HK := Lib.hid hK
    clear hK
    gi_wp2
    exact HK.out
  case body =>
    rintro ll k z V Bx hk ⟨A, c, hb, ho, hu⟩ rfl hBx hbx
    obtain ⟨X1, X2, X3, X4, hX⟩ : ∃ X1 X2 X3 X4 : Int, tileA x.toNat y.toNat t u z = #[.int .i64 X1, .int .i64 X2, .int .i64 X3, .int .i64 X4] := ⟨_, _, _, _, rfl⟩
    rw [hX] at hbx
    have HX : Hid (tilesV x.toNat y.toNat t u (z + 1) = tilesV x.toNat y.toNat t u z ++ [.int .i64 X1, .int .i64 X2, .int .i64 X3, .int .i64 X4]) := Lib.hid (by
      have e : tilesV x.toNat y.toNat t u (z + 1) = tilesV x.toNat y.toNat t u z ++ tileV x.toNat y.toNat t u z := rfl
      rw [e, tile_eq, hX])
    have kl : V.cell? ⟨lb, 0, none⟩ = some (.slice A z c) := by rw [hb.cell]; rfl
    have z0 : V.cell? ⟨Bx, 0, none⟩ = some (.int .i64 X1) := by rw [hbx.cell]; rfl
    have z1 : V.cell? ⟨Bx, 1, none⟩ = some (.int .i64 X2) := by rw [hbx.cell]; rfl
    have z2 : V.cell? ⟨Bx, 2, none⟩ = some (.int .i64 X3) := by rw [hbx.cell]; rfl
    have z3 : V.cell? ⟨Bx, 3, none⟩ = some (.int .i64 X4) := by rw [hbx.cell]; rfl
    have hs5 := hu.size
    obtain ⟨A', c', w9, hrun, ho9, hu9⟩ := append_tile w5.heap.size V A c z _ (.int .i64 X1) (.int .i64 X2) (.int .i64 X3) (.int .i64 X4) ho hs5 (by omega) (by simp [Value.oneCell']) 64
    rw [← HX.out] at ho9
    have hne := own_blk_ne ho hb (by decide)
    have hlt := hb.lt
    have hb9 := hb.upd hu9 (by rintro (h | h); exact hne h; omega)
    have hk9 := keeps_of_grown ho hu9
    have hu59 : Upd (· = lb) w5 w9 := hu.then hu9 (fun i hi h => by
      rcases h with h | h
      · have := (ho.lt i h).1; omega
      · omega)
    have u10 := set1_upd w9 lb 0 (.slice A' (z + 1) c')
    have hne9 := own_blk_ne ho9 hb9 (by decide)
    have HE := Lib.hid (And.intro (hk9.trans (KeepsOthers.setCell w9 ⟨lb, 0, none⟩ (.slice A' (z + 1) c'))) (And.intro (show Blk (w9.setCell ⟨lb, 0, none⟩ (.slice A' (z + 1) c')) lb 64 #[.slice A' (z + 1) c'] by simpa using hb9.set_ 0 (.slice A' (z + 1) c')) (And.intro (own_upd ho9 u10 (fun i hi e => hne9 (by rw [← e]; exact hi))) (hu59.then u10 (fun i _ e => e)))))
    have q1 : w9.cell? ⟨lb, 0, none⟩ = some (.slice A z c) := by rw [hb9.cell]; rfl
    have q2 := hb9.frozen 0
    have HX2 := Lib.hid hX
    clear hX hb ho hu hbx ho9 hu9 hne hb9 hk9 hu59 u10 hne9 hsx hls hlb htb hs5 hlt hBx hx hy ha hbd
    gi_wp2_with (gi_at_builtin; refine wpListIn_append_run rfl (.tmp 21) (.tmp 23) _ rfl rfl rfl hrun ?_)
    exact ⟨HE.out.1, A', c', HE.out.2.1, HE.out.2.2.1, HE.out.2.2.2⟩
  case done =>
    rintro D V hD ⟨A, c, hb, ho, hu⟩ hK
    have hs5 := hu.size
    have htv := HT5.out.upd hu (by omega)
    have kl : V.cell? ⟨lb, 0, none⟩ = some (.slice A N c) := by rw [hb.cell]; rfl
    have kt0 : V.cell? ⟨w.heap.size, 0, none⟩ = some (.int .i64 a) := by rw [htv.cell]; rfl
    have kt1 : V.cell? ⟨w.heap.size, 1, none⟩ = some (.int .i64 b) := by rw [htv.cell]; rfl
    have HVS := Lib.hid (vs_of_rows ho)
    have HBV := Lib.hid (HB5.out.trans (hu.below HB5.out.size (fun i hi e => by omega)))
    have HB := Lib.hid hb; have HTV := Lib.hid htv; have HK := Lib.hid hK
    have HDl := Lib.hid (Nat.le_trans (show w.heap.size ≤ w5.heap.size by omega) hD)
    clear hb ho hu htv hK hD hsx hls hlb htb hs5
    go_wp2_with fail
    go_region_held3 (fun w' => w'.cell? ⟨lb, 0, none⟩ = some (.slice A N c) ∧ w'.cell? ⟨w.heap.size, 0, none⟩ = some (.int .i64 a) ∧ w'.cell? ⟨w.heap.size, 1, none⟩ = some (.int .i64 b))
      (go_keep)
      ((first
        | (go_at_call 31; refine (refTiles_all x y a b _).mono ?_; rintro e w7 ⟨A7, c7, rfl, hv7, hb7⟩; rw [HN.out, HT.out, HU.out] at hv7; rw [HN.out]; have hbb : Below V.heap.size V w7 := of_drew hb7; have hb17 := HB.out.upd (Upd.of_fresh hbb) id; have ht17 := HTV.out.upd (Upd.of_fresh hbb) id; have k7l : w7.cell? ⟨lb, 0, none⟩ = some (.slice A N c) := (by rw [hb17.cell]; rfl); have k70 : w7.cell? ⟨w.heap.size, 0, none⟩ = some (.int .i64 a) := (by rw [ht17.cell]; rfl); have k71 : w7.cell? ⟨w.heap.size, 1, none⟩ = some (.int .i64 b) := (by rw [ht17.cell]; rfl); have HV7 := Lib.hid hv7; have HW7 := Lib.hid ((Vs.below HVS.out hbb).more hbb.size); have HBB := Lib.hid hbb; have HB7 := Lib.hid hb17; have HT7 := Lib.hid ht17; clear hv7 hb7 hbb hb17 ht17)
        | (go_at_call 30; refine (sameRects_true A A7 c c7 N x.toNat y.toNat t u hN65 w7.heap.size _ (by exact HW7.out) (by exact HV7.out)).mono ?_; rintro e w8 ⟨rfl, n8, hw8⟩; have hb8 : Below w7.heap.size w7 w8 := (by rw [hw8]; exact below_drewN (by first | exact Below.refl _ _ | exact (Below.refl _ _).drew) n8); have hb18 := HB7.out.upd (Upd.of_fresh hb8) id; have ht18 := HT7.out.upd (Upd.of_fresh hb8) id; have k8l : w8.cell? ⟨lb, 0, none⟩ = some (.slice A N c) := (by rw [hb18.cell]; rfl); have k80 : w8.cell? ⟨w.heap.size, 0, none⟩ = some (.int .i64 a) := (by rw [ht18.cell]; rfl); have k81 : w8.cell? ⟨w.heap.size, 1, none⟩ = some (.int .i64 b) := (by rw [ht18.cell]; rfl); have HBC := Lib.hid hb8; have HB8 := Lib.hid hb18; clear hb8 hb18 ht18 hw8)))
    have HVE := Lib.hid ((Vs.below HW7.out HBC.out).more HBC.out.size)
    have HBE := Lib.hid ((HBV.out.trans (HBB.out.mono HBV.out.size)).trans (HBC.out.mono (Nat.le_trans HBV.out.size HBB.out.size)))
    have HKE := Lib.hid ((keeps_of_fresh HBC.out).same _ _ ((keeps_of_fresh HBB.out).same _ _ HK.out rfl) rfl)
    rename_i hHeld
    clear hHeld k7l k70 k71 k80 k81 kl kt0 kt1 hx hy ha hbd hs0 hlt0 hs1 HB7 HT7 HTV HVS HB HB8
    go_wp2_with fail
    go_loopw [9, 37] (fun s i wr => ∃ k : Nat, k ≤ N ∧ s = .int .i64 ((areaT x.toNat y.toNat t u k : Nat) : Int) ∧ i = .int .i64 (k : Int) ∧ ∃ n, wr = w8.drewN n) (fun _ i _ => N - (intOf i).toNat)
    case atStart => exact ⟨0, Nat.zero_le _, by simp [areaT], rfl, 0, rfl⟩
    case round =>
      obtain ⟨k, hk, rfl, rfl, n, rfl⟩ := hrel
      by_cases hlt : k < N
      · obtain ⟨ad, rfl, _, c0, c1, c2, c3⟩ := tile_cells HVE.out hlt
        have hle : areaT x.toNat y.toNat t u (k + 1) ≤ 65536 := by rw [← HT.out, ← HU.out]; exact area_le x y a b (by rw [HN.out]; exact hlt)
        obtain ⟨P, r1, r2⟩ := area_step hle
        generalize lenT x.toNat t (k % cntT x.toNat t) = LX at c2 r1
        generalize lenT y.toNat u (k / cntT x.toNat t) = LY at c3 r1
        obtain ⟨S0, hS0⟩ : ∃ S0, areaT x.toNat y.toNat t u k = S0 := ⟨_, rfl⟩
        rw [hS0] at r2 ⊢
        obtain ⟨S1, hS1⟩ : ∃ S1, areaT x.toNat y.toNat t u (k + 1) = S1 := ⟨_, rfl⟩
        rw [hS1] at r2
        have HS0 := Lib.hid hS0; have HS1 := Lib.hid hS1
        clear hS0 hS1 hle c0 c1
        go_wp2_with fail
        go_quiet (fail)
        go_wp2_with fail
        go_roundw
        case rel => exact ⟨k + 1, by omega, by rw [HS1.out, r2], by go_num, n + nq, rfl⟩
        case measure => simp [intOf]; omega
      · obtain rfl : k = N := by omega
        have hs := HBE.out.size
        have hend : Below w.heap.size w ((w8.drewN n).putObj D (.deferred none)) := (below_drewN HBE.out n).trans ((upd_putObj (S := fun i => w.heap.size ≤ i) (w8.drewN n) D (.deferred none) HDl.out).below hs (fun i hi h => by omega))
        have HEND := Lib.hid hend
        clear hend hs
        by_cases hk0 : k = 0
        · have d1 : ((k : Int) == 0) = true := by simp [hk0]
          have HK0 := Lib.hid hk0
          clear hk0
          go_wp2_with fail
          refine ⟨by simp, .inl ⟨_, _, rfl, run_takeDeferred (w := w8.drewN n) HKE.out, ?_⟩⟩
          exact ⟨_, results_tmp rfl _ _ _, rfl, HEND.out⟩
        · have d1 : ((k : Int) == 0) = false := by simp [hk0]
          have r9 := area_all x y a b (by rw [HN.out]; exact hk0)
          rw [HN.out, HT.out, HU.out] at r9
          generalize areaT x.toNat y.toNat t u k = S0 at r9 ⊢
          have HK0 := Lib.hid hk0
          clear hk0
          go_wp2_with fail
          refine ⟨by simp, .inl ⟨_, _, rfl, run_takeDeferred (w := w8.drewN n) HKE.out, ?_⟩⟩
          exact ⟨_, results_tmp rfl _ _ _, rfl, HEND.out⟩
set_option maxRecDepth 100000 in
theorem lifted (os : Os) (started : os.Started) (H : Type) (enc : TypeId × Value → H) :
    ReturnsInHanded {} Try.checked os 8 .any (Rows.gridTilesSpec.pre6 enc Try.prog Try.f8 Rows.gridTilesRow.domain false) (Rows.gridTilesSpec.post enc Try.prog Try.f8 false true false false) := by
  refine returnsInHanded_of_change (C := Try.checked) prog_own started (by kernel_rfl) Try.func8
    (ChangeSpec.witness6 (enc := enc) (C := Try.checked) false ⟨#[], #[.int .i64 0, .int .i64 0, .agg #[.int .i64 0, .int .i64 0]], []⟩ 8 (by kernel_rfl) (by kernel_rfl) (by kernel_rfl) (by kernel_rfl)) ?_
  intro W base args ds gs before hval0 hW hcnd _
  have hval : ∀ (j : Nat) t v, Try.f8.params[j]? = some t → args[j]? = some v → Value.okWide Try.prog W .any base t v := hval0
  have hW' := hW
  obtain ⟨p, q, hA0, hV, rfl, hfz, hnd⟩ := hW
  have hA : DataW.TrodAll enc Try.prog W 0 (fun _ => true) true Try.f8.params.toList args.toList ds p := hA0
  rw [Try.params8] at hA hval
  obtain ⟨v0, vs0, d0, ds0, p0, q0, hargs, rfl, rfl, h0, r0⟩ := trodAll_cons hA
  obtain ⟨v1, vs1, d1, ds1, p1, q1, rfl, rfl, rfl, h1, r1⟩ := trodAll_cons r0
  obtain ⟨v2, vs2, d2, ds2, p2, q2, rfl, rfl, rfl, h2, r2⟩ := trodAll_cons r1
  obtain ⟨rfl, rfl, rfl⟩ := trodAll_nil r2
  obtain rfl : args = #[v0, v1, v2] := by cases args; simp_all
  obtain ⟨rfl, rfl⟩ := trodVars_none hV
  obtain ⟨a0, rfl, rfl, rfl, w0⟩ := open_int Try.underlying3 (hval 0 3 v0 rfl rfl) h0
  obtain ⟨a1, rfl, rfl, rfl, w1⟩ := open_int Try.underlying3 (hval 1 3 v1 rfl rfl) h1
  obtain ⟨x2, y2, rfl, bx2, by2⟩ := open_two (hval 2 63 v2 rfl rfl) h2
  have lt2 : ∀ x ∈ p2, x.block < W.heap.size := by obtain ⟨m, hm⟩ := h2; exact DataW.trod_lt m _ _ _ hm
  clear hA0 hval0
  refine (walk a0 a1 x2 y2 W (bounds_i64 w0) (bounds_i64 w1) bx2 by2).mono fun e W' ⟨he, bel⟩ => ?_
  subst he
  exact ⟨_, rfl, _, _, _, [], _, [], hW', trodAll_mk1 (shut_bool Try.underlying4 _), (trodAll_cons_mk (shut_int Try.underlying3 w0) (trodAll_cons_mk (shut_int Try.underlying3 w1) (trodAll_cons_mk (Below.trod prog_laid (by kernel_rfl) (of_decide_eq_true (by kernel_rfl)) h2 bel lt2) trodAll_mk0))), rfl, bel.frame _, fun h => by cases h⟩

theorem over : Rows.gridTilesRow.holds Try.pinned (OpenSpec.ofChange Rows.gridTilesSpec) :=
  OpenClaim.holds_of_wide 8 Try.f8 rfl rfl rfl rfl rfl rfl rfl ⟨rfl, rfl, rfl, rfl, rfl⟩ rfl rfl rfl rfl rfl (by kernel_rfl) Try.func8 (by kernel_rfl)
    (of_decide_eq_true (by kernel_rfl)) (by unfold Func.isWrapper; first | (rw [if_pos (by decide +kernel)]; kernel_rfl) | (rw [if_neg (by decide +kernel)]; exact ⟨rfl, rfl⟩))
    (fun os started H enc _ => lifted os started H enc)
end GridTiles

theorem gridTiles_holds : Rows.GridTilesSaid := GridTiles.over
#print axioms gridTiles_holds
end Go.Proofs.Ytfjnlbjlapbilaa
