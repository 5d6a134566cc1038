/- Bytes that stay as they are. -/
import Derived.Test.YthnfnfaiicfenaaWb
import Derived.Test.YthnfnfaiicfenaaAr
import Derived.Test.YthnfnfaiicfenaaZb
namespace Go.Proofs.Ythnfnfaiicfenaa
open Go.ChangeShapes Go.WideShapes Go.ChangeAt Go.RowKit Go.Shelf
attribute [local go_sem] Oper.semAt_some

theorem bs_vs {w : World} {B : Nat} {A : Option Addr} {l : List UInt8} (h : Bs w B A l) : Vs w B A (bytesV l) := fun hn => by
  obtain ⟨ad, rfl, hb, hc⟩ := h (by simpa [bytesV] using hn)
  exact ⟨ad, rfl, hb, fun j hj => by
    rw [bytesV_length] at hj
    rw [hc j hj]
    simp [bytesV, bv]⟩
theorem own_of_keeps {V w9 : World} {base s n : Nat} {e : TypeId} {v : Value} {xs : List Value} (ho : V.ownsRow base e s v n xs) (u : Upd (fun i => some i = v.ownBlock) V w9) : KeepsOthers V w9 := by
  refine ⟨u.size, fun i o hi hoc => ?_⟩
  have hlt := (Array.getElem?_eq_some_iff.1 hi).1
  refine (u.block i hlt ?_).trans hi
  intro h
  rcases ho.2 with ⟨rfl, _⟩ | ⟨g, c, cur, rfl, _, a, _⟩
  · cases h
  · have e1 : i = g := by simpa [Value.ownBlock] using h
    subst e1
    rw [hi] at a
    injection a with a
    subst a
    cases hoc
theorem append_bytes (base : Nat) (w : World) (A : Option Addr) (c n : Nat) (out : List UInt8) (h : w.ownsRow base 5 1 (.slice A n c) n (bytesV out)) (hb : base ≤ w.heap.size) (B : Nat) (Al : Option Addr) (m cl : Nat) (ys : List UInt8) (hm : ys.length = m) (hr : Vs w B Al (bytesV ys)) (hk : n + m ≤ 100000000) (ty : TypeId) :
    ∃ A' c' w', (Builtin.append_ #[22, 22] ty #[.slice A n c, .slice Al m cl]).run Try.prog w = .ok (.slice A' (n + m) c') w' ∧
      w'.ownsRow base 5 1 (.slice A' (n + m) c') (n + m) (bytesV (out ++ ys)) ∧ Upd (fun i => some i = (Value.slice A n c).ownBlock) w w' ∧
      ((Value.slice A' (n + m) c').ownBlock = (Value.slice A n c).ownBlock ∨ (Value.slice A' (n + m) c').ownBlock = some w.heap.size) := by
  obtain ⟨i0, hi, hz0, hz1, hz2⟩ := info_parts info_u8
  obtain ⟨A', c', w', hrun, h2, h3, h4⟩ := run_append_vs (P := Try.prog) w base 22 ty 5 i0 (.int .u8 0) 1 Try.underlying22 hi hz0 hz1 hz2 rfl (.slice A n c) n (bytesV out) h B Al m cl (bytesV ys) (by rw [bytesV_length, hm]) hr (bytesV_oneCell ys) (by unfold maxLen; omega) (by omega) hb
  exact ⟨A', c', w', hrun, by rw [bytesV_append]; exact h2, Upd.of_grown h3, h4⟩
/-- One byte is put behind, then a piece. -/
theorem append_two (base : Nat) (w : World) (A : Option Addr) (c n : Nat) (out : List UInt8) (h : w.ownsRow base 5 1 (.slice A n c) n (bytesV out)) (hb : base ≤ w.heap.size) (x : UInt8) (B : Nat) (hB : B ≤ base) (Al : Option Addr) (m cl : Nat) (ys : List UInt8) (hm : ys.length = m) (hr : Bs w B Al ys) (hk : n + 1 + m ≤ 100000000) (ty ty' : TypeId) :
    ∃ A1 c1 w1 A' c' w', (Builtin.append_ #[22, 22] ty #[.slice A n c, .slice (some ⟨w.heap.size, 0, none⟩) 1 1]).run Try.prog (w.alloc (.cells #[.int .u8 (x.toNat : Int)] 5)) = .ok (.slice A1 (n + 1) c1) w1 ∧
      (Builtin.append_ #[22, 22] ty' #[.slice A1 (n + 1) c1, .slice Al m cl]).run Try.prog w1 = .ok (.slice A' (n + 1 + m) c') w' ∧
      w'.ownsRow base 5 1 (.slice A' (n + 1 + m) c') (n + 1 + m) (bytesV (out ++ x :: ys)) ∧ Upd (fun i => some i = (Value.slice A n c).ownBlock) w w' ∧
      ((Value.slice A' (n + 1 + m) c').ownBlock = (Value.slice A n c).ownBlock ∨ ∃ g, (Value.slice A' (n + 1 + m) c').ownBlock = some g ∧ w.heap.size ≤ g) := by
  have hlt := h.lt
  have u0 : Upd (fun i => some i = (Value.slice A n c).ownBlock) w (w.alloc (.cells #[.int .u8 (x.toNat : Int)] 5)) := (Upd.refl _ w).alloc _
  obtain ⟨A1, c1, w1, r1, o1, u1, q1⟩ := append_bytes base (w.alloc (.cells #[.int .u8 (x.toNat : Int)] 5)) A c n out (own_upd h ((Upd.refl No w).alloc _) (fun _ _ => id)) (by rw [World.size_alloc]; omega) (w.heap.size + 1) (some ⟨w.heap.size, 0, none⟩) 1 1 [x] rfl (vs_lit w 5 [.int .u8 (x.toNat : Int)] (w.heap.size + 1) (by omega)) (by omega) ty
  have u01 := u0.trans u1
  have hs1 := u01.size
  have hr1 : Bs w1 B Al ys := hr.upd u01 (by omega) (fun ad _ hlt2 e => by have := hlt _ e.symm; omega)
  obtain ⟨A', c', w', r2, o2, u2, q2⟩ := append_bytes base w1 A1 c1 (n + 1) (out ++ [x]) o1 (by omega) B Al m cl ys hm (bs_vs hr1) hk ty'
  refine ⟨A1, c1, w1, A', c', w', r1, r2, by rw [List.append_assoc] at o2; exact o2, ?_, ?_⟩
  · refine u01.then u2 (fun i hi e => ?_)
    rcases q1 with q | q
    · rw [← q]; exact e
    · have e2 := Option.some.inj (e.trans q)
      have e3 : w.heap.size < i := by rw [e2, World.size_alloc]; exact Nat.lt_succ_self _
      exact absurd hi (Nat.not_lt.2 (Nat.le_of_lt e3))
  · rcases q2 with q | q
    · rcases q1 with q' | q'
      · exact .inl (q.trans q')
      · exact .inr ⟨_, q.trans q', by rw [World.size_alloc]; omega⟩
    · exact .inr ⟨_, q, hs1⟩
theorem three_boxes (w : World) (a b c : Array Value) (t u v : TypeId) : Below w.heap.size w (((w.alloc (.cells a t)).alloc (.cells b u)).alloc (.cells c v)) ∧ (((w.alloc (.cells a t)).alloc (.cells b u)).alloc (.cells c v)).heap.size = w.heap.size + 3 ∧
    Blk (((w.alloc (.cells a t)).alloc (.cells b u)).alloc (.cells c v)) w.heap.size t a ∧ Blk (((w.alloc (.cells a t)).alloc (.cells b u)).alloc (.cells c v)) (w.heap.size + 1) u b ∧ Blk (((w.alloc (.cells a t)).alloc (.cells b u)).alloc (.cells c v)) (w.heap.size + 1 + 1) v c := by
  have h1 := Blk.new w t a
  have h2 := Blk.new (w.alloc (.cells a t)) u b
  have h3 := Blk.new ((w.alloc (.cells a t)).alloc (.cells b u)) v c
  simp only [World.size_alloc] at h2 h3
  exact ⟨(((Below.refl _ w).alloc (Nat.le_refl _) _).alloc (by simp) _).alloc (by simp; omega) _, by simp, (h1.alloc _).alloc _, h2.alloc _, h3⟩
theorem set1_upd (w : World) (g k : Nat) (v : Value) : Upd (· = g) w (w.setCell ⟨g, k, none⟩ v) := (Upd.refl (· = g) w).setCell (p := ⟨g, k, none⟩) (fun _ => rfl) v

theorem own_put {V : World} {base : Nat} {e : TypeId} {sz n : Nat} {v : Value} {xs : List Value} (h : V.ownsRow base e sz v n xs) {ll : Nat} {o : Obj} (ho : V.heap[ll]? = some o) (hoc : o.isCells = false) (o' : Obj) : (V.putObj ll o').ownsRow base e sz v n xs := by
  refine own_upd h (upd_putObj (S := (· = ll)) V ll o' rfl) (fun k hk e => ?_)
  subst e
  rcases h.2 with ⟨rfl, _⟩ | ⟨g, c, u, rfl, _, a, _⟩
  · cases hk
  · have e1 : g = k := by simpa [Value.ownBlock] using hk
    subst e1
    rw [ho] at a
    injection a with a
    subst a
    cases hoc
/-- What asItIs answers. -/
def AsR (w : World) (base : Nat) (A : Option Addr) (n c : Nat) (out l : List UInt8) (e : Ending) (w' : World) : Prop := ∃ A' c', e = .returned (.slice A' (n + (lits l).length) c') ∧ w'.ownsRow base 5 1 (.slice A' (n + (lits l).length) c') (n + (lits l).length) (bytesV (out ++ lits l)) ∧
  Upd (fun i => some i = (Value.slice A n c).ownBlock) w w' ∧ ((Value.slice A' (n + (lits l).length) c').ownBlock = (Value.slice A n c).ownBlock ∨ ∃ g, (Value.slice A' (n + (lits l).length) c').ownBlock = some g ∧ w.heap.size ≤ g)
/-- The world while pieces are written. -/
def AsI (w w5 : World) (base : Nat) (A : Option Addr) (n c : Nat) (out l : List UInt8) (k : Nat) (V : World) : Prop := ∃ A' c', Blk V w.heap.size 22 #[.slice A' (n + (litsTo l k).length) c'] ∧ V.ownsRow base 5 1 (.slice A' (n + (litsTo l k).length) c') (n + (litsTo l k).length) (bytesV (out ++ litsTo l k)) ∧
  Upd (fun i => i = w.heap.size ∨ some i = (Value.slice A n c).ownBlock) w5 V ∧ ((Value.slice A' (n + (litsTo l k).length) c').ownBlock = (Value.slice A n c).ownBlock ∨ ∃ g, (Value.slice A' (n + (litsTo l k).length) c').ownBlock = some g ∧ w5.heap.size ≤ g)

set_option maxRecDepth 100000 in
set_option maxHeartbeats 4000000 in
theorem asItIs_any (w : World) (base : Nat) (A : Option Addr) (n c : Nat) (out : List UInt8) (ho : w.ownsRow base 5 1 (.slice A n c) n (bytesV out)) (hb : base ≤ w.heap.size) (B : Nat) (Al : Option Addr) (m cl : Nat) (l : List UInt8) (hm : l.length = m) (hl : Bs w B Al l) (hB : B ≤ base) (hmc : m ≤ cl) (hn : n ≤ 20000000) (hm6 : m ≤ 4000000) :
    Calls Try.prog 35 #[.slice A n c, .slice Al m cl] w (AsR w base A n c out l) := by
  refine (callsIn_wide (n := 3)).1 ?_
  refine callsIn_of_wp_marks Try.func35 rfl trivial ?_ rfl
  simp only [Try.ntmps35, List.size_toArray, List.length_cons, List.length_nil, Nat.reduceAdd, Nat.reduceSub, Array.replicate_succ, Array.replicate_zero, List.push_toArray, List.append_toArray, List.nil_append, List.cons_append]
  refine wpIn_wide.2 ?_
  have hsz := ho.lt
  obtain ⟨hbx, hsx, q1, q2, q3⟩ := three_boxes w #[.slice A n c] #[.slice Al m cl] #[.int .i64 128] 22 22 3
  have HO := Lib.hid ho; have HL := Lib.hid hl
  clear ho hl
  go_wp2_with fail
  refine (chunk_any _ Al m cl).mono ?_
  rintro e w3 ⟨rfl, rfl⟩
  go_wp2_with fail
  have hst : AsI w (((w.alloc (.cells #[.slice A n c] 22)).alloc (.cells #[.slice Al m cl] 22)).alloc (.cells #[.int .i64 128] 3)) base A n c out l 0 (((w.alloc (.cells #[.slice A n c] 22)).alloc (.cells #[.slice Al m cl] 22)).alloc (.cells #[.int .i64 128] 3)) :=
    ⟨A, c, q1, by rw [show litsTo l 0 = [] from rfl, List.append_nil]; exact own_upd HO.out (Upd.of_fresh hbx) (fun _ _ => id), Upd.refl _ _, .inl rfl⟩
  have HL5 := Lib.hid (HL.out.upd (Upd.of_fresh hbx) (by omega) (fun _ _ _ => id))
  generalize ((w.alloc (.cells #[.slice A n c] 22)).alloc (.cells #[.slice Al m cl] 22)).alloc (.cells #[.int .i64 128] 3) = w5 at *
  have HBX := Lib.hid hbx
  clear hbx
  have hinp : ∀ k V, AsI w w5 base A n c out l k V → Bs V B Al l ∧ V.cell? ⟨w.heap.size + 1, 0, none⟩ = some (.slice Al m cl) ∧ V.cell? ⟨w.heap.size + 1 + 1, 0, none⟩ = some (.int .i64 128) := by
    rintro k V ⟨A', c', _, _, hu, _⟩
    refine ⟨HL5.out.upd hu (by omega) (fun ad _ hlt h => ?_), ?_, ?_⟩
    · rcases h with h | h
      · omega
      · have := (hsz _ h.symm).1; omega
    · rw [(q2.upd hu (fun h => by rcases h with h | h; · omega
                                  · have := (hsz _ h.symm).2; omega)).cell]; rfl
    · rw [(q3.upd hu (fun h => by rcases h with h | h; · omega
                                  · have := (hsz _ h.symm).2; omega)).cell]; rfl
  have hA : 0 < m → ∃ ad, Al = some ad := fun h => by
    obtain ⟨ad, e, _⟩ := HL.out (by omega)
    exact ⟨ad, e⟩
  refine wpIn_wide.1 (wpIn_range_stop (α := Nat) (F := Fence.wide) (n := 3) rfl (by omega) (gf := 68) (lb := #[.pointer (some ⟨w.heap.size + 1, 0, none⟩), .pointer (some ⟨w.heap.size + 1 + 1, 0, none⟩)]) rfl trivial (enters_of Try.func68 (by kernel_rfl) rfl) (pieceEnc Al m) ((m + 127) / 128)
    (AsI w w5 base A n c out l) (fun k x _ => x = k) (fun _ _ => False)
    ?seq (fun _ => rfl) ?ia ?ip ?ep ?xp ?start ?a1 ?assign ?body ?done ?stop)
  case seq =>
    intro ll R Jx V hRb hY h0 hR
    refine chunk1_in (3 - 1) (by omega) ll (w.heap.size + 1) m cl Al hA hmc (by omega) _ R Jx (fun k V h => (hinp k V h).2) ?_ (fun V h => hRb _ _ h ((Below.refl _ V).drew)) (fun k V hk hi hr => hY k k V hk hi hr rfl) V h0 hR
    rintro k V ⟨A', c', h1, h2, h3, h4⟩
    exact ⟨A', c', h1, h2, h3.drew, h4⟩
  case ia => rintro k V o ⟨A', c', h1, h2, h3, h4⟩; exact ⟨A', c', h1.alloc o, own_upd h2 ((Upd.refl No V).alloc o) (fun _ _ => id), h3.alloc o, h4⟩
  case ip =>
    rintro k V ll o o' hll ho hoc ⟨A', c', h1, h2, h3, h4⟩
    exact ⟨A', c', h1.upd (upd_putObj (S := (· = ll)) V ll o' rfl) (by omega), own_put h2 ho hoc o', h3.then (upd_putObj (S := fun i => w5.heap.size ≤ i) V ll o' hll) (fun i hi h => absurd h (by omega)), h4⟩
  case ep => rintro k x V ll o o' _ _ _ h; exact h
  case xp => rintro j V ll o o' _ _ _ h; exact h
  case start => exact hst
  case assign =>
    intro ll x V K hK
    dsimp only [pieceEnc]
    gi_wp2
    exact hK
  case body =>
    rintro ll k x V hk hI rfl
    obtain ⟨A', c', hbk, hor, hu, hq⟩ := hI
    obtain ⟨hbs, _, _⟩ := hinp x V ⟨A', c', hbk, hor, hu, hq⟩
    obtain ⟨ad, rfl⟩ := hA (by omega)
    have hVs := hu.size
    have hbV := hbk.lt
    obtain ⟨F, hF⟩ : ∃ F, 128 * x = F := ⟨_, rfl⟩
    obtain ⟨E, hE⟩ : ∃ E, min 128 (m - F) = E := ⟨_, rfl⟩
    have hys : ((l.drop F).take E).length = E := by rw [List.length_take, List.length_drop]; omega
    have hpc : Bs V B (some (ad.add F)) ((l.drop F).take E) := by
      have h1 := (hbs.drop (k := F) (cap := cl) (by omega) (by omega)).take E
      rwa [if_neg (by omega), Option.map_some] at h1
    have hlt := litsTo_length l x (by omega)
    have hls : litsTo l (x + 1) = litsTo l x ++ UInt8.ofNat (E - 1) :: (l.drop F).take E := by
      show litsTo l x ++ _ = _
      rw [hF, hm, hE]
    have hex : ((UInt8.ofNat (E - 1)).toNat : Int) = (E : Int) - 1 := by rw [u8_nat (E - 1) (by omega)]; omega
    obtain ⟨n', hn'⟩ : ∃ n', n + (litsTo l x).length = n' := ⟨_, rfl⟩
    rw [hn'] at hbk hor hq
    obtain ⟨A1, c1, w1, A2, c2, w2, r1, r2, o2, u2, p2⟩ := append_two base V A' c' n' (out ++ litsTo l x) hor (by omega) (UInt8.ofNat (E - 1)) B hB (some (ad.add F)) E E _ hys hpc (by omega) 22 22
    rw [List.append_assoc, ← hls] at o2
    rw [hex] at r1
    have hne := own_blk_ne hor hbk (by decide)
    have hb2 := hbk.upd u2 (fun h => hne h.symm)
    have kb : V.cell? ⟨w.heap.size, 0, none⟩ = some (.slice A' n' c') := by rw [hbk.cell]; rfl
    have kb2 : w2.cell? ⟨w.heap.size, 0, none⟩ = some (.slice A' n' c') := by rw [hb2.cell]; rfl
    have kf2 := hb2.frozen 0
    have en : n' + 1 + E = n + (litsTo l (x + 1)).length := by rw [hls, List.length_append, List.length_cons, hys]; omega
    have hk2 := own_of_keeps hor u2
    have hne2 := own_blk_ne o2 hb2 (by decide)
    have HE : Hid (KeepsOthers V (w2.setCell ⟨w.heap.size, 0, none⟩ (.slice A2 (n' + 1 + E) c2)) ∧ AsI w w5 base A n c out l (x + 1) (w2.setCell ⟨w.heap.size, 0, none⟩ (.slice A2 (n' + 1 + E) c2))) := Lib.hid ⟨hk2.trans (KeepsOthers.setCell w2 _ _), by
      have h1 : Blk (w2.setCell ⟨w.heap.size, 0, none⟩ (.slice A2 (n' + 1 + E) c2)) w.heap.size 22 #[.slice A2 (n' + 1 + E) c2] := by simpa using hb2.set_ 0 (.slice A2 (n' + 1 + E) c2)
      have h2 := own_upd o2 (set1_upd w2 w.heap.size 0 (.slice A2 (n' + 1 + E) c2)) (fun i hi e => hne2 (by rw [← e]; exact hi))
      have h3 : Upd (fun i => i = w.heap.size ∨ some i = (Value.slice A n c).ownBlock) w5 w2 := hu.then u2 (fun i hi e => by
        rcases hq with q | ⟨g, q, hg⟩
        · exact .inr (by rw [← q]; exact e)
        · rw [q] at e
          injection e with e
          omega)
      rw [en] at h1 h2
      exact ⟨A2, c2, by rw [en]; exact h1, by rw [en]; exact h2, h3.then (set1_upd w2 w.heap.size 0 _) (fun i _ e => .inl e), by
        rw [← en]
        rcases p2 with q | ⟨g, q, hg⟩
        · rcases hq with q' | ⟨g', q', hg'⟩
          · exact .inl (q.trans q')
          · exact .inr ⟨g', q.trans q', hg'⟩
        · exact .inr ⟨g, q, by omega⟩⟩⟩
    have hi1 : (1 : Int) ≤ (E : Int) := by omega
    have hi2 : (E : Int) ≤ 128 := by omega
    clear hk2 hne2 hne hb2 o2 u2 p2 hex hls hlt hys hpc hq hor hu hbk hbs hn' en
    rw [hF, hE]
    gi_wp2_with (first
      | (gi_at_builtin; refine wpListIn_append_run rfl (.tmp 9) (.tmp 14) _ rfl rfl rfl r1 ?_)
      | (gi_at_builtin; refine wpListIn_append_run rfl (.tmp 15) (.tmp 16) _ rfl rfl rfl r2 ?_))
    exact HE.out
  case done =>
    rintro D V hD ⟨A', c', h1, h2, h3, h4⟩ hK
    have kb : V.cell? ⟨w.heap.size, 0, none⟩ = some (.slice A' (n + (lits l).length) c') := by
      rw [h1.cell]
      unfold lits
      rw [hm]
      rfl
    have HR : Hid (AsR w base A n c out l (.returned (.slice A' (n + (lits l).length) c')) (V.putObj D (.deferred none))) := Lib.hid ⟨A', c', rfl, own_put (by unfold lits; rw [hm]; exact h2) hK rfl _,
      (((Upd.of_fresh HBX.out).mono (fun _ _ h => absurd h id)).then h3 (fun i hi e => by
        rcases e with e | e
        · omega
        · exact e)).then (upd_putObj (S := (· = D)) V D (.deferred none) rfl) (fun i hi e => by omega), by
        unfold lits
        rw [hm]
        rcases h4 with q | ⟨g, q, hg⟩
        · exact .inl q
        · exact .inr ⟨g, q, by omega⟩⟩
    have HK := Lib.hid hK
    clear h1 h2 h3 h4 hK
    go_wp2_with fail
    refine ⟨by simp, .inl ⟨_, _, rfl, run_takeDeferred HK.out, ?_⟩⟩
    exact ⟨_, by simp [results, Try.results35, go_sem], HR.out⟩
  case stop => rintro D j V hD h; exact h.elim
end Go.Proofs.Ythnfnfaiicfenaa
