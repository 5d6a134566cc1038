/- The program's Pack of runs. -/
import Derived.Test.YthnfnfaiicfenaaWc
import Derived.Test.YthnfnfaiicfenaaSl
import Derived.Deep.RegionHeld3
namespace Go.Proofs.Ythnfnfaiicfenaa
open Go.ChangeShapes Go.WideShapes Go.ChangeAt Go.RowKit Go.Shelf
attribute [local go_sem] Oper.semAt_some

section
variable {P : Program} {n ll : Nat} {ops : Array Oper}
theorem rowsRound {row : String} {args : Array Value} {w : World} {R : Value → World → Prop} (h : Rows P row args w R) : RowsIn (Fence.wide.inRound ll) n P row args w R :=
  fun c cs _ => let ⟨v, w', r, s⟩ := h c cs; ⟨v, w', r, stepsIn_wide.2 s⟩
theorem operRound_of_wp {o : Oper} {a : Act} {w : World} {K K' : Act → World → Prop} {Q : Exit → Act → World → Prop} (hnd : ∀ c, o.op ≠ .defer c) (h : ∀ a w, K a w → K' a w) (hh : o.wp P a w K Q) : o.wpIn (Fence.wide.inRound ll) n P a w K' Q := by
  unfold Oper.wp at hh
  unfold Oper.wpIn
  refine ⟨fun _ _ => trivial, ?_⟩
  rw [Oper.semAt_eq _ _ _ hnd]
  generalize (execOp a.eval o).run P w = r at *
  cases r with
  | ok x w' =>
    cases x <;> simp only [Oper.upon, Oper.uponIn] at hh ⊢
    case value v => exact h _ _ hh
    case skip => exact h _ _ hh
    case defer d => exact h _ _ hh
    case enter f args =>
      exact ⟨fun k => (by cases k), (CallsIn.inRound ll (callsIn_wide.2 hh)).mono (fun e w'' he => by
        cases e with
        | returned v => exact h _ _ he
        | panicked ch => exact he
        | outgrown => exact he)⟩
    case row r args => exact ⟨fun k => (by cases k), (rowsRound hh).mono (fun v w'' he => h _ _ he)⟩
  | halt x w' =>
    cases x <;> simp only [Oper.upon, Oper.uponIn] at hh ⊢
    exact hh
theorem opRound_of_op {i : Nat} {a : Act} {w : World} {K K' : Act → World → Prop} {Q : Exit → Act → World → Prop} (hnd : noDefer ops = true) (hLO : ¬ LetsOut Q) (h : ∀ a w, K a w → K' a w) (hh : wpOp P ops Q i K a w) : wpOpIn (Fence.wide.inRound ll) n P ops Q i K' a w := by
  unfold wpOp at hh
  unfold wpOpIn
  cases ho : ops[i]? with
  | none => simp only [ho] at hh ⊢; exact h _ _ hh
  | some o =>
    simp only [ho] at hh ⊢
    by_cases hw : Region.wanted o (yielded ops a.tmps) = true
    · simp only [hw, if_true] at hh ⊢
      rcases hh with hh | hh
      · exact operRound_of_wp (noDefer_at hnd ho) h hh
      · exact absurd hh.2 hLO
    · simp only [hw] at hh ⊢
      exact ⟨fun _ _ => trivial, h _ _ hh⟩
theorem anyRound_of_any {md : Region.Mode} {Q : Exit → Act → World → Prop} (hnd : noDefer ops = true) (hLO : ¬ LetsOut Q) : ∀ (fuel : Nat) (listed : Array Bool) (a : Act) (w : World),
    wpAny P md ops Q fuel listed a w → wpAnyIn (Fence.wide.inRound ll) n P md ops Q fuel listed a w
  | 0, _, _, _, h => h
  | fuel + 1, _, _, _, h => ⟨h.1, fun i hi => opRound_of_op hnd hLO (fun a' w' => anyRound_of_any hnd hLO fuel _ a' w') (h.2 i hi)⟩
/-- A region of a round that draws its order: walked as one that stands alone. -/
theorem wpRound_region_held {id : Nat} {Q : Exit → Act → World → Prop} {a : Act} {w : World} {l : List Oper} {S : World → Prop} (hm : P.follows .mixedOrders = true) (hnd : noDefer l.toArray = true) (hLO : ¬ LetsOut Q) (fuel : Nat) (hfu : l.toArray.size = fuel)
    (h : wpAnyH P .any l.toArray Q S fuel (Array.replicate fuel false) a w.drew) : (Code.region id l.toArray true).wpIn (Fence.wide.inRound ll) n P Q a w := by
  subst hfu
  exact wpIn_region_any hm (anyRound_of_any hnd hLO _ _ _ _ (wpAny_of_held _ _ _ _ h))
end

theorem two_v (w : World) (r : Nat) (x : UInt8) (h2 : 2 ≤ r) (h : r ≤ 128) (t : TypeId) : Vs (w.alloc (.cells #[.int .u8 (257 - (r : Int)), .int .u8 (x.toNat : Int)] t)) (w.heap.size + 1) (some ⟨w.heap.size, 0, none⟩) (bytesV [UInt8.ofNat (257 - r), x]) := by
  have e : ((UInt8.ofNat (257 - r)).toNat : Int) = 257 - (r : Int) := by rw [u8_nat (257 - r) (by omega)]; omega
  have := vs_lit w t [.int .u8 (257 - (r : Int)), .int .u8 (x.toNat : Int)] (w.heap.size + 1) (by omega)
  rw [← e] at this
  rw [← e]
  exact this
theorem as_chain {w w1 w2 : World} {v v1 : Value} (u : Upd (fun i => some i = v.ownBlock) w w1) (q : v1.ownBlock = v.ownBlock ∨ ∃ g, v1.ownBlock = some g ∧ w.heap.size ≤ g) (u2 : Upd (fun i => some i = v1.ownBlock) w1 w2) : Upd (fun i => some i = v.ownBlock) w w2 :=
  u.then u2 (fun i hi e => by
    rcases q with q | ⟨g, q, hg⟩
    · rw [← q]; exact e
    · have := Option.some.inj (e.trans q); omega)
theorem wrap_8 (r : Nat) (h : r ≤ 128) : IntKind.i64.wrap (257 - (r : Int)) = 257 - (r : Int) := by
  simp [IntKind.wrap, IntKind.bits, IntKind.signed]; split <;> omega
theorem wrap_9 (r : Nat) (h2 : 2 ≤ r) (h : r ≤ 128) : IntKind.u8.wrap (257 - (r : Int)) = 257 - (r : Int) := by
  simp [IntKind.wrap, IntKind.bits, IntKind.signed]; omega
theorem six_boxes (w : World) (a b c d e f : Array Value) (t u v x y z : TypeId) : Below w.heap.size w ((((((w.alloc (.cells a t)).alloc (.cells b u)).alloc (.cells c v)).alloc (.cells d x)).alloc (.cells e y)).alloc (.cells f z)) ∧ ((((((w.alloc (.cells a t)).alloc (.cells b u)).alloc (.cells c v)).alloc (.cells d x)).alloc (.cells e y)).alloc (.cells f z)).heap.size = w.heap.size + 6 ∧
    Blk ((((((w.alloc (.cells a t)).alloc (.cells b u)).alloc (.cells c v)).alloc (.cells d x)).alloc (.cells e y)).alloc (.cells f z)) w.heap.size t a ∧ Blk ((((((w.alloc (.cells a t)).alloc (.cells b u)).alloc (.cells c v)).alloc (.cells d x)).alloc (.cells e y)).alloc (.cells f z)) (w.heap.size + 1) u b ∧
    Blk ((((((w.alloc (.cells a t)).alloc (.cells b u)).alloc (.cells c v)).alloc (.cells d x)).alloc (.cells e y)).alloc (.cells f z)) (w.heap.size + 1 + 1) v c ∧ Blk ((((((w.alloc (.cells a t)).alloc (.cells b u)).alloc (.cells c v)).alloc (.cells d x)).alloc (.cells e y)).alloc (.cells f z)) (w.heap.size + 1 + 1 + 1) x d ∧
    Blk ((((((w.alloc (.cells a t)).alloc (.cells b u)).alloc (.cells c v)).alloc (.cells d x)).alloc (.cells e y)).alloc (.cells f z)) (w.heap.size + 1 + 1 + 1 + 1) y e ∧ Blk ((((((w.alloc (.cells a t)).alloc (.cells b u)).alloc (.cells c v)).alloc (.cells d x)).alloc (.cells e y)).alloc (.cells f z)) (w.heap.size + 1 + 1 + 1 + 1 + 1) z f := by
  obtain ⟨h1, h2, h3, h4, h5⟩ := three_boxes w a b c t u v
  obtain ⟨k1, k2, k3, k4, k5⟩ := three_boxes (((w.alloc (.cells a t)).alloc (.cells b u)).alloc (.cells c v)) d e f x y z
  have hs : (((w.alloc (.cells a t)).alloc (.cells b u)).alloc (.cells c v)).heap.size = w.heap.size + 1 + 1 + 1 := h2
  rw [hs] at k3 k4 k5
  exact ⟨h1.trans (k1.mono h1.size), by rw [k2, h2], (h3.upd (Upd.of_fresh k1) id), (h4.upd (Upd.of_fresh k1) id), (h5.upd (Upd.of_fresh k1) id), k3, k4, k5⟩
/-- The world behind k runs. -/
def PkI (w5 : World) (ob : Nat) (l : List UInt8) (k : Nat) (V : World) : Prop := ∃ A' c', Blk V ob 22 #[.slice A' (stR l k).1.length c'] ∧ V.ownsRow w5.heap.size 5 1 (.slice A' (stR l k).1.length c') (stR l k).1.length (bytesV (stR l k).1) ∧
  Blk V (ob + 1) 3 #[.int .i64 ((stR l k).2 : Int)] ∧ Blk V (ob + 1 + 1) 3 #[.int .i64 (atR l k : Int)] ∧ Upd (fun j => j = ob ∨ j = ob + 1 ∨ j = ob + 1 + 1 ∨ w5.heap.size ≤ j) w5 V
theorem PkI.keep {w5 V V' : World} {ob k : Nat} {l : List UInt8} (h : PkI w5 ob l k V) (u : Upd No V V') : PkI w5 ob l k V' := by
  obtain ⟨A', c', h1, h2, h3, h4, h5⟩ := h
  exact ⟨A', c', h1.upd u id, own_upd h2 u (fun _ _ => id), h3.upd u id, h4.upd u id, h5.then u (fun _ _ h => absurd h id)⟩

/-- What Pack of runs answers. -/
def PackedR (w : World) (l : List UInt8) (e : Ending) (w' : World) : Prop := ∃ N A' c', atR l N = l.length ∧ (∀ k, k < N → atR l k < l.length) ∧ e = .returned (.slice A' (finR l N).length c') ∧
  w'.ownsRow w.heap.size 5 1 (.slice A' (finR l N).length c') (finR l N).length (bytesV (finR l N)) ∧ Below w.heap.size w w'
theorem own_low {w : World} {base b : Nat} {e : TypeId} {s n : Nat} {v : Value} {xs : List Value} (h : w.ownsRow base e s v n xs) (hb : b ≤ base) : w.ownsRow b e s v n xs := by
  obtain ⟨q1, q2⟩ := h
  refine ⟨q1, ?_⟩
  rcases q2 with q | ⟨g', cap, cur, q1, q2, q3⟩
  · exact .inl q
  · exact .inr ⟨g', cap, cur, q1, by omega, q3⟩

set_option maxRecDepth 100000 in
set_option maxHeartbeats 4000000 in
theorem packRuns_any (w : World) (A : Option Addr) (c m : Nat) (l : List UInt8) (hm : l.length = m) (h : Bs w w.heap.size A l) (hmc : m ≤ c) (hm6 : m ≤ 4000000) :
    Calls Try.prog 21 #[.slice A m c] w (PackedR w l) := by
  refine (callsIn_wide (n := 3)).1 ?_
  refine callsIn_of_wp_marks Try.func21 rfl trivial ?_ rfl
  simp only [Try.ntmps21, List.size_toArray, List.length_cons, List.length_nil, Nat.reduceAdd, Nat.reduceSub, Array.replicate_succ, Array.replicate_zero, List.push_toArray, List.append_toArray, List.nil_append, List.cons_append]
  refine wpIn_wide.2 ?_
  obtain ⟨hbx, hsx, q0, q1, q2, q3, q4, q5⟩ := six_boxes w #[.slice A m c] #[.slice none 0 0] #[.int .i64 0] #[.int .i64 0] #[.slice A m c] #[.int .i64 128] 22 22 3 3 22 3
  have H := Lib.hid h
  clear h
  go_wp2_with fail
  refine (runsOf_any _ A m c).mono ?_
  rintro e w3 ⟨rfl, rfl⟩
  go_wp2_with fail
  have HL5 := Lib.hid (H.out.upd (Upd.of_fresh hbx) (Nat.le_refl _) (fun _ _ _ => id))
  generalize (((((w.alloc (.cells #[.slice A m c] 22)).alloc (.cells #[.slice none 0 0] 22)).alloc (.cells #[.int .i64 0] 3)).alloc (.cells #[.int .i64 0] 3)).alloc (.cells #[.slice A m c] 22)).alloc (.cells #[.int .i64 128] 3) = w5 at *
  obtain ⟨ob, hob⟩ : ∃ ob, w.heap.size + 1 = ob := ⟨_, rfl⟩
  rw [hob] at q1 q2 q3 q4 q5 ⊢
  have HBX := Lib.hid hbx
  clear hbx
  obtain ⟨N, hE, hN⟩ := atR_ends l
  have hst : PkI w5 ob l 0 w5 := ⟨none, 0, q1, World.ownsRow_nil w5 _ _ _, q2, q3, Upd.refl _ _⟩
  have hinp : ∀ k V, PkI w5 ob l k V → Bs V w.heap.size A l ∧ V.cell? ⟨w.heap.size, 0, none⟩ = some (.slice A m c) ∧ V.cell? ⟨ob + 1 + 1 + 1, 0, none⟩ = some (.slice A m c) ∧ V.cell? ⟨ob + 1 + 1 + 1 + 1, 0, none⟩ = some (.int .i64 128) := by
    rintro k V ⟨A', c', _, _, _, _, hu⟩
    refine ⟨HL5.out.upd hu (by omega) (fun ad _ hlt h => by omega), ?_, ?_, ?_⟩
    · rw [(q0.upd hu (by omega)).cell]; rfl
    · rw [(q4.upd hu (by omega)).cell]; rfl
    · rw [(q5.upd hu (by omega)).cell]; rfl
  refine wpIn_wide.1 (wpIn_range_stop (α := Nat) (F := Fence.wide) (n := 3) rfl (by omega) (gf := 55) (lb := #[.pointer (some ⟨ob + 1 + 1 + 1, 0, none⟩), .pointer (some ⟨ob + 1 + 1 + 1 + 1, 0, none⟩)]) rfl trivial (enters_of Try.func55 (by kernel_rfl) rfl) (runEnc A c l) N
    (PkI w5 ob l) (fun k x _ => x = k) (fun _ _ => False)
    ?seq (fun _ => rfl) ?ia ?ip ?ep ?xp ?start ?a1 ?assign ?body ?done ?stop)
  case seq =>
    intro ll R Jx V hRb hY h0 hR
    refine runs1_in (3 - 1) (by omega) ll (ob + 1 + 1 + 1) c N w.heap.size A l (by omega) (by omega) hE hN _ R Jx (fun k V h => ?_) (fun k V n h => h.keep ((Upd.refl No V).drewN n)) (fun V n h => hRb _ _ h ⟨rfl, rfl, rfl, Nat.le_refl _, fun _ _ => rfl⟩) (fun k V hk hi hr => hY k k V hk hi hr rfl) V h0 hR
    obtain ⟨k1, _, k2, k3⟩ := hinp k V h
    rw [hm]
    exact ⟨k2, k3, k1⟩
  case ia => rintro k V o h; exact h.keep ((Upd.refl No V).alloc o)
  case ip =>
    rintro k V ll o o' hll ho hoc ⟨A', c', h1, h2, h3, h4, h5⟩
    have hs := h5.size
    exact ⟨A', c', h1.upd (upd_putObj (S := (· = ll)) V ll o' rfl) (by omega), own_put h2 ho hoc o', h3.upd (upd_putObj (S := (· = ll)) V ll o' rfl) (by omega), h4.upd (upd_putObj (S := (· = ll)) V ll o' rfl) (by omega), h5.then (upd_putObj (S := fun i => w5.heap.size ≤ i) V ll o' hll) (fun i hi h => absurd h (by omega))⟩
  case ep => rintro k x V ll o o' _ _ _ h; exact h
  case xp => rintro j V ll o o' _ _ _ h; exact h
  case start => exact hst
  case assign =>
    intro ll x V K hK
    dsimp only [runEnc]
    gi_wp2
    exact hK
  case body =>
    rintro ll k k' V hk hI rfl
    obtain ⟨A', c', h1, h2, h3, h4, h5⟩ := hI
    obtain ⟨hbs, kbb, _, _⟩ := hinp k' V ⟨A', c', h1, h2, h3, h4, h5⟩
    have hlt := hN k' hk
    obtain ⟨ad, rfl, had, kxx⟩ := hbs.at_ hlt
    obtain ⟨g1, g2, g3, g4⟩ := stR_ok l N hN k' (by omega)
    obtain ⟨r1, r2, r3⟩ := rl_one l _ hlt
    have HST : Hid (stR l (k' + 1) = _) := Lib.hid (show stR l (k' + 1) = (if _ then _ else _) from rfl)
    have HAT : Hid (atR l (k' + 1) = atR l k' + rl l (atR l k')) := Lib.hid rfl
    have hget : l.getD (atR l k') 0 = l[atR l k'] := by simp [List.getD, List.getElem?_eq_getElem hlt]
    rw [hget] at HST
    obtain ⟨x, hx⟩ : ∃ x, l[atR l k'] = x := ⟨_, rfl⟩
    rw [hx] at HST kxx
    clear hget hx g3
    have hVs := h5.size
    have hown := h2.lt
    obtain ⟨k1, hk1⟩ : ∃ k1, k' + 1 = k1 := ⟨_, rfl⟩
    rw [hk1] at HST HAT
    generalize hi : atR l k' = i at *
    generalize hr : rl l i = r at *
    generalize hO : (stR l k').1 = O at *
    generalize hF : (stR l k').2 = F at *
    have kf : V.cell? ⟨ob + 1, 0, none⟩ = some (.int .i64 (F : Int)) := by rw [h3.cell]; rfl
    have kt : V.cell? ⟨ob + 1 + 1, 0, none⟩ = some (.int .i64 (i : Int)) := by rw [h4.cell]; rfl
    have i1 : (i : Int) < 4000000 := by omega
    have i2 : (r : Int) ≤ 128 := by omega
    have i3 : (F : Int) ≤ (i : Int) := by omega
    have i4 : (1 : Int) ≤ (r : Int) := by omega
    have i5 : (i : Int) ≤ (c : Int) := by omega
    have i6 : ¬ c = F := by omega
    have i7 : ¬ c = i := by omega
    have HS := Lib.hid (And.intro hsx (And.intro hob (And.intro had (And.intro hlt (And.intro g1 (And.intro g2 (And.intro g4 (And.intro r1 (And.intro r2 (And.intro r3 (And.intro hVs (And.intro hown hk))))))))))))
    have HB := Lib.hid (And.intro hbs (And.intro h1 (And.intro h2 (And.intro h3 (And.intro h4 h5)))))
    have HEQ := Lib.hid (And.intro hi (And.intro hr (And.intro hO hF)))
    have HK1 := Lib.hid hk1; have HINP := Lib.hid hinp; have HN := Lib.hid hN; have HM := Lib.hid hm
    clear hsx hob had hlt g1 g2 g4 r1 r2 r3 hVs hown hk hbs h1 h2 h3 h4 h5 hi hr hO hF hk1 hinp hN hm hE hst q0 q1 q2 q3 q4 q5
    simp only [Option.map_some]
    gi_wp2_with fail
    refine ⟨trivial, ?_⟩
    refine (CallsIn.inRound ll (callsIn_wide.2 (saves_any r (decide (F < i)) V))).mono ?_
    rintro e V0 ⟨rfl, rfl⟩
    cases hs : savesB r (decide (F < i)) with
    | false =>
      obtain ⟨hsx, hob, had, hlt, g1, g2, g4, r1, r2, r3, hVs, hown, hk⟩ := HS.out
      obtain ⟨hbs, h1, h2, h3, h4, h5⟩ := HB.out
      have kft := h4.frozen 0
      have hst := HST.out
      rw [hs, if_neg (by simp)] at hst
      have HE : Hid (KeepsOthers V0 (V0.setCell ⟨ob + 1 + 1, 0, none⟩ (.int .i64 ((i : Int) + (r : Int)))) ∧ PkI w5 ob l (k' + 1) (V0.setCell ⟨ob + 1 + 1, 0, none⟩ (.int .i64 ((i : Int) + (r : Int))))) := Lib.hid ⟨KeepsOthers.setCell _ _ _, by
        have u := set1_upd V0 (ob + 1 + 1) 0 (.int .i64 ((i : Int) + (r : Int)))
        have e4 : Blk (V0.setCell ⟨ob + 1 + 1, 0, none⟩ (.int .i64 ((i : Int) + (r : Int)))) (ob + 1 + 1) 3 #[.int .i64 ((i : Int) + (r : Int))] := by simpa using h4.set_ 0 (.int .i64 ((i : Int) + (r : Int)))
        obtain ⟨_, _, hO, hF⟩ := HEQ.out
        refine ⟨A', c', ?_, ?_, ?_, ?_, h5.then u (fun j _ e => .inr (.inr (.inl e)))⟩
        · rw [HK1.out, hst, hO]; exact h1.upd u (by omega)
        · rw [HK1.out, hst, hO]; exact own_upd h2 u (fun j hj e => by have := (hown j hj).1; omega)
        · rw [HK1.out, hst, hF]; exact h3.upd u (by omega)
        · rw [HK1.out, HAT.out, Int.natCast_add]; exact e4⟩
      clear hsx hob had hlt g1 g2 g4 r1 r2 r3 hVs hown hk hbs h1 h2 h3 h4 h5 hst
      gi_wp2_with fail
      exact HE.out
    | true =>
      have hmix : Try.prog.follows .mixedOrders = true := by kernel_rfl
      have hr2 : 2 < r ∨ r = 2 ∧ F = i := by
        have := HS.out.2.2.2.2.1
        unfold savesB at hs
        simp only [Bool.or_eq_true, Bool.and_eq_true, decide_eq_true_eq, Bool.not_eq_true', decide_eq_false_iff_not] at hs
        omega
      have i8 : (2 : Int) ≤ (r : Int) := by omega
      have HR2 := Lib.hid hr2
      have HW8 := Lib.hid (wrap_8 r (by omega))
      have HW9 := Lib.hid (wrap_9 r (by omega) (by omega))
      have HSV := Lib.hid hs
      clear hr2
      gi_wp2_with fail
      refine wpRound_region_held (S := fun w' => Upd (fun j => j = ob ∨ some j = (Value.slice A' O.length c').ownBlock) V0 w') hmix (by kernel_rfl) (by rintro ⟨_, _, h⟩; exact h) 16 rfl ?_
      have HS0 : Hid (Upd (fun j => j = ob ∨ some j = (Value.slice A' O.length c').ownBlock) V0 V0.drew) := Lib.hid ((Upd.refl _ V0).drew)
      have HC : Hid (∀ w', Upd (fun j => j = ob ∨ some j = (Value.slice A' O.length c').ownBlock) V0 w' → w'.cell? ⟨w.heap.size, 0, none⟩ = some (.slice (some ad) m c) ∧ w'.cell? ⟨ob + 1, 0, none⟩ = some (.int .i64 (F : Int)) ∧ w'.cell? ⟨ob + 1 + 1, 0, none⟩ = some (.int .i64 (i : Int)) ∧ w'.cell? (ad.add i) = some (.int .u8 (x.toNat : Int))) := by
        exact Lib.hid (by
        intro w' u
        obtain ⟨hsx, hob, had, hlt, g1, g2, g4, r1, r2, r3, hVs, hown, hk⟩ := HS.out
        have ne : ∀ j, j < w5.heap.size → j ≠ ob → ¬ (j = ob ∨ some j = (Value.slice A' O.length c').ownBlock) := fun j hj hjo h => by
          rcases h with h | h
          · exact hjo h
          · have := (hown _ h.symm).1; omega
        exact ⟨(World.cell?_of_block (a := ⟨w.heap.size, 0, none⟩) (u.block w.heap.size (by omega) (ne _ (by omega) (by omega)))).trans kbb, (World.cell?_of_block (a := ⟨ob + 1, 0, none⟩) (u.block (ob + 1) (by omega) (ne _ (by omega) (by omega)))).trans kf,
          (World.cell?_of_block (a := ⟨ob + 1 + 1, 0, none⟩) (u.block (ob + 1 + 1) (by omega) (ne _ (by omega) (by omega)))).trans kt, (World.cell?_of_block (a := ad.add i) (u.block (ad.add i).block (by rw [block_of_add]; omega) (ne _ (by rw [block_of_add]; omega) (by rw [block_of_add]; omega)))).trans kxx⟩)
      have HOB : Hid (∀ W, Upd No V0 W → W.cell? ⟨ob, 0, none⟩ = some (.slice A' O.length c')) := Lib.hid (fun W u => by rw [(HB.out.2.1.upd u id).cell]; rfl)
      have hseg : ((l.drop F).take (i - F)).length = i - F := by
        have := HS.out.2.2.2.1
        rw [List.length_take, List.length_drop]; omega
      obtain ⟨seg, hsg⟩ : ∃ seg, (l.drop F).take (i - F) = seg := ⟨_, rfl⟩
      rw [hsg] at hseg HST
      have HAS : Hid (∀ W, Upd No V0 W → Calls Try.prog 35 #[.slice A' O.length c', .slice (some (ad.add F)) (i - F) (c - F)] W (AsR W w5.heap.size A' O.length c' O seg)) := Lib.hid (fun W u => by
        obtain ⟨hsx, hob, had, hlt, g1, g2, g4, r1, r2, r3, hVs, hown, hk⟩ := HS.out
        obtain ⟨hbs, h1, h2, h3, h4, h5⟩ := HB.out
        have hsz := u.size
        have hb2 : Bs W w.heap.size (some (ad.add F)) seg := by
          have e := ((hbs.upd u (by omega) (fun _ _ _ => id)).drop (k := F) (cap := c) (by omega) (by have := HM.out; omega)).take (i - F)
          rw [if_neg i6, Option.map_some, hsg] at e
          exact e
        exact asItIs_any W w5.heap.size A' O.length c' O (own_upd h2 u (fun _ _ => id)) (by omega) w.heap.size (some (ad.add F)) (i - F) (c - F) seg hseg hb2 (by omega) (by omega) (by have := HM.out; omega) (by have := HM.out; omega))
      have HSS : Hid (∀ W, Upd No V0 W → ∀ w1, Upd (fun j => some j = (Value.slice A' O.length c').ownBlock) W w1 → Upd (fun j => j = ob ∨ some j = (Value.slice A' O.length c').ownBlock) V0 w1) := Lib.hid (fun W u w1 u1 => (u.mono (fun _ _ h => absurd h id)).trans (u1.mono (fun _ _ h => .inr h)))
      have HAP1 : Hid (∀ W, Upd No V0 W → ∀ A1 c1 w1, w1.ownsRow w5.heap.size 5 1 (.slice A1 (O.length + (lits seg).length) c1) (O.length + (lits seg).length) (bytesV (O ++ lits seg)) → Upd (fun j => some j = (Value.slice A' O.length c').ownBlock) W w1 → ((Value.slice A1 (O.length + (lits seg).length) c1).ownBlock = (Value.slice A' O.length c').ownBlock ∨ ∃ g, (Value.slice A1 (O.length + (lits seg).length) c1).ownBlock = some g ∧ W.heap.size ≤ g) →
          ∃ A2 c2 w2, (Builtin.append_ #[22, 22] 22 #[.slice A1 (O.length + (lits seg).length) c1, .slice (some ⟨w1.heap.size, 0, none⟩) 2 2]).run Try.prog (w1.alloc (.cells #[.int .u8 (257 - (r : Int)), .int .u8 (x.toNat : Int)] 5)) = .ok (.slice A2 (O.length + (lits seg).length + 2) c2) w2 ∧
            w2.ownsRow w5.heap.size 5 1 (.slice A2 (O.length + (lits seg).length + 2) c2) (O.length + (lits seg).length + 2) (bytesV (O ++ lits seg ++ [UInt8.ofNat (257 - r), x])) ∧ Upd (fun j => some j = (Value.slice A' O.length c').ownBlock) V0 w2 ∧ Upd (fun j => j = ob ∨ some j = (Value.slice A' O.length c').ownBlock) V0 w2) := Lib.hid (by
        intro W u A1 c1 w1 o1 u1 q1
        obtain ⟨hsx, hob, had, hlt, g1, g2, g4, r1, r2, r3, hVs, hown, hk⟩ := HS.out
        have hm := HM.out
        have hsz := u.size
        have hsz1 := u1.size
        have hll := lits_length seg
        obtain ⟨A2, c2, w2, hrun, o2, u2, _⟩ := append_bytes w5.heap.size (w1.alloc (.cells #[.int .u8 (257 - (r : Int)), .int .u8 (x.toNat : Int)] 5)) A1 c1 (O.length + (lits seg).length) (O ++ lits seg) (own_upd o1 ((Upd.refl No w1).alloc _) (fun _ _ => id)) (by rw [World.size_alloc]; omega) (w1.heap.size + 1) (some ⟨w1.heap.size, 0, none⟩) 2 2 [UInt8.ofNat (257 - r), x] rfl (two_v w1 r x (by have := HR2.out; omega) r2 5) (by omega) 22
        have uA := as_chain u1 q1 (((Upd.refl _ w1).alloc _).trans u2)
        have uB : Upd (fun j => some j = (Value.slice A' O.length c').ownBlock) V0 w2 := (u.mono (fun _ _ h => absurd h id)).trans uA
        exact ⟨A2, c2, w2, hrun, o2, uB, uB.mono (fun _ _ h => .inr h)⟩)
      have HAP2 : Hid (∀ A1 c1 w1, w1.ownsRow w5.heap.size 5 1 (.slice A1 (O.length + (lits seg).length) c1) (O.length + (lits seg).length) (bytesV (O ++ lits seg)) → Upd (fun j => some j = (Value.slice A' O.length c').ownBlock) (V0.drew.alloc (.cells #[.int .u8 (257 - (r : Int)), .int .u8 (x.toNat : Int)] 5)) w1 → ((Value.slice A1 (O.length + (lits seg).length) c1).ownBlock = (Value.slice A' O.length c').ownBlock ∨ ∃ g, (Value.slice A1 (O.length + (lits seg).length) c1).ownBlock = some g ∧ (V0.drew.alloc (.cells #[.int .u8 (257 - (r : Int)), .int .u8 (x.toNat : Int)] 5)).heap.size ≤ g) →
          ∃ A2 c2 w2, (Builtin.append_ #[22, 22] 22 #[.slice A1 (O.length + (lits seg).length) c1, .slice (some ⟨V0.heap.size, 0, none⟩) 2 2]).run Try.prog w1 = .ok (.slice A2 (O.length + (lits seg).length + 2) c2) w2 ∧
            w2.ownsRow w5.heap.size 5 1 (.slice A2 (O.length + (lits seg).length + 2) c2) (O.length + (lits seg).length + 2) (bytesV (O ++ lits seg ++ [UInt8.ofNat (257 - r), x])) ∧ Upd (fun j => some j = (Value.slice A' O.length c').ownBlock) V0 w2 ∧ Upd (fun j => j = ob ∨ some j = (Value.slice A' O.length c').ownBlock) V0 w2) := Lib.hid (by
        intro A1 c1 w1 o1 u1 q1
        obtain ⟨hsx, hob, had, hlt, g1, g2, g4, r1, r2, r3, hVs, hown, hk⟩ := HS.out
        have hm := HM.out
        have hsz1 := u1.size
        rw [World.size_alloc] at hsz1
        have hsd : V0.drew.heap.size = V0.heap.size := rfl
        have hll := lits_length seg
        have hv := (two_v V0.drew r x (by have := HR2.out; omega) r2 5).upd u1 (by rw [World.size_alloc]; exact Nat.le_refl _) (fun ad hadd _ e => by
          injection hadd with hadd
          have := (hown _ e.symm).2
          rw [← hadd] at this
          dsimp only at this
          omega)
        obtain ⟨A2, c2, w2, hrun, o2, u2, _⟩ := append_bytes w5.heap.size w1 A1 c1 (O.length + (lits seg).length) (O ++ lits seg) o1 (by omega) (V0.drew.heap.size + 1) (some ⟨V0.drew.heap.size, 0, none⟩) 2 2 [UInt8.ofNat (257 - r), x] rfl hv (by omega) 22
        have uA := as_chain u1 q1 u2
        have uB : Upd (fun j => some j = (Value.slice A' O.length c').ownBlock) V0 w2 := ((Upd.refl _ V0).drew.alloc _).trans uA
        exact ⟨A2, c2, w2, hrun, o2, uB, uB.mono (fun _ _ h => .inr h)⟩)
      have HST2 : Hid (∀ w2, Upd (fun j => some j = (Value.slice A' O.length c').ownBlock) V0 w2 → w2.cell? ⟨ob, 0, none⟩ = some (.slice A' O.length c') ∧ w2.frozen? ⟨ob, 0, none⟩ = false) := Lib.hid (fun w2 u => by
        obtain ⟨hbs, h1, h2, h3, h4, h5⟩ := HB.out
        have hne := own_blk_ne h2 h1 (by decide)
        have hb := h1.upd u (fun h => hne h.symm)
        exact ⟨by rw [hb.cell]; rfl, hb.frozen 0⟩)
      have HCL : Hid (∀ A2 c2 w2, w2.ownsRow w5.heap.size 5 1 (.slice A2 (O.length + (lits seg).length + 2) c2) (O.length + (lits seg).length + 2) (bytesV (O ++ lits seg ++ [UInt8.ofNat (257 - r), x])) → Upd (fun j => some j = (Value.slice A' O.length c').ownBlock) V0 w2 →
          (w2.setCell ⟨ob, 0, none⟩ (.slice A2 (O.length + (lits seg).length + 2) c2)).cell? ⟨ob + 1, 0, none⟩ = some (.int .i64 (F : Int)) ∧ (w2.setCell ⟨ob, 0, none⟩ (.slice A2 (O.length + (lits seg).length + 2) c2)).frozen? ⟨ob + 1, 0, none⟩ = false ∧
          (w2.setCell ⟨ob, 0, none⟩ (.slice A2 (O.length + (lits seg).length + 2) c2)).cell? ⟨ob + 1 + 1, 0, none⟩ = some (.int .i64 (i : Int)) ∧ (w2.setCell ⟨ob, 0, none⟩ (.slice A2 (O.length + (lits seg).length + 2) c2)).frozen? ⟨ob + 1 + 1, 0, none⟩ = false) := Lib.hid (by
        intro A2 c2 w2 o2 u2
        obtain ⟨hsx, hob, had, hlt, g1, g2, g4, r1, r2, r3, hVs, hown, hk⟩ := HS.out
        obtain ⟨hbs, h1, h2, h3, h4, h5⟩ := HB.out
        have b3 := (h3.upd u2 (fun e => by have := (hown _ e.symm).1; omega)).upd (set1_upd w2 ob 0 (.slice A2 (O.length + (lits seg).length + 2) c2)) (by omega)
        have b4 := (h4.upd u2 (fun e => by have := (hown _ e.symm).1; omega)).upd (set1_upd w2 ob 0 (.slice A2 (O.length + (lits seg).length + 2) c2)) (by omega)
        exact ⟨by rw [b3.cell]; rfl, b3.frozen 0, by rw [b4.cell]; rfl, b4.frozen 0⟩)
      have HEND : Hid (∀ A2 c2 w2, w2.ownsRow w5.heap.size 5 1 (.slice A2 (O.length + (lits seg).length + 2) c2) (O.length + (lits seg).length + 2) (bytesV (O ++ lits seg ++ [UInt8.ofNat (257 - r), x])) → Upd (fun j => some j = (Value.slice A' O.length c').ownBlock) V0 w2 →
          KeepsOthers V0 (((w2.setCell ⟨ob, 0, none⟩ (.slice A2 (O.length + (lits seg).length + 2) c2)).setCell ⟨ob + 1, 0, none⟩ (.int .i64 ((i : Int) + (r : Int)))).setCell ⟨ob + 1 + 1, 0, none⟩ (.int .i64 ((i : Int) + (r : Int)))) ∧ PkI w5 ob l (k' + 1) (((w2.setCell ⟨ob, 0, none⟩ (.slice A2 (O.length + (lits seg).length + 2) c2)).setCell ⟨ob + 1, 0, none⟩ (.int .i64 ((i : Int) + (r : Int)))).setCell ⟨ob + 1 + 1, 0, none⟩ (.int .i64 ((i : Int) + (r : Int))))) := by
        exact Lib.hid (by
        intro A2 c2 w2 o2 u2
        obtain ⟨hsx, hob, had, hlt, g1, g2, g4, r1, r2, r3, hVs, hown, hk⟩ := HS.out
        obtain ⟨hbs, h1, h2, h3, h4, h5⟩ := HB.out
        have hst := HST.out
        rw [HSV.out, if_pos rfl] at hst
        have hne := own_blk_ne h2 h1 (by decide)
        have b1 := h1.upd u2 (fun h => hne h.symm)
        have b3 := h3.upd u2 (fun e => by have := (hown _ e.symm).1; omega)
        have b4 := h4.upd u2 (fun e => by have := (hown _ e.symm).1; omega)
        have n1 := own_blk_ne o2 b1 (by decide)
        have n3 := own_blk_ne o2 b3 (by decide)
        have n4 := own_blk_ne o2 b4 (by decide)
        have hk2 := own_of_keeps h2 u2
        have u5 : Upd (fun j => j = ob ∨ j = ob + 1 ∨ j = ob + 1 + 1 ∨ w5.heap.size ≤ j) w5 w2 := h5.then u2 (fun j hj e => by have := (hown _ e.symm).1; omega)
        obtain ⟨nn, hnn⟩ : ∃ nn, O.length + (lits seg).length + 2 = nn := ⟨_, rfl⟩
        have hlen : (O ++ lits seg ++ [UInt8.ofNat (257 - r), x]).length = nn := by rw [List.length_append, List.length_append, ← hnn]; rfl
        rw [hnn] at o2 n1 n3 n4 ⊢
        have s1 := set1_upd w2 ob 0 (.slice A2 nn c2)
        have c1 : Blk (w2.setCell ⟨ob, 0, none⟩ (.slice A2 nn c2)) ob 22 #[.slice A2 nn c2] := by simpa using b1.set_ 0 (.slice A2 nn c2)
        have c3 := b3.upd s1 (by omega)
        have c4 := b4.upd s1 (by omega)
        have d2 := own_upd o2 s1 (fun j hj e => n1 (by rw [← e]; exact hj))
        have u6 := u5.then s1 (fun j _ e => .inl e)
        have k6 := hk2.trans (KeepsOthers.setCell w2 ⟨ob, 0, none⟩ (.slice A2 nn c2))
        generalize w2.setCell ⟨ob, 0, none⟩ (.slice A2 nn c2) = w6 at *
        have s2 := set1_upd w6 (ob + 1) 0 (.int .i64 ((i : Int) + (r : Int)))
        have e3 : Blk (w6.setCell ⟨ob + 1, 0, none⟩ (.int .i64 ((i : Int) + (r : Int)))) (ob + 1) 3 #[.int .i64 ((i : Int) + (r : Int))] := by simpa using c3.set_ 0 (.int .i64 ((i : Int) + (r : Int)))
        have e1 := c1.upd s2 (by omega)
        have e4 := c4.upd s2 (by omega)
        have f2 := own_upd d2 s2 (fun j hj e => n3 (by rw [← e]; exact hj))
        have u7 := u6.then s2 (fun j _ e => .inr (.inl e))
        have k7 := k6.trans (KeepsOthers.setCell w6 ⟨ob + 1, 0, none⟩ (.int .i64 ((i : Int) + (r : Int))))
        generalize w6.setCell ⟨ob + 1, 0, none⟩ (.int .i64 ((i : Int) + (r : Int))) = w7 at *
        have s3 := set1_upd w7 (ob + 1 + 1) 0 (.int .i64 ((i : Int) + (r : Int)))
        have e5 : Blk (w7.setCell ⟨ob + 1 + 1, 0, none⟩ (.int .i64 ((i : Int) + (r : Int)))) (ob + 1 + 1) 3 #[.int .i64 ((i : Int) + (r : Int))] := by simpa using e4.set_ 0 (.int .i64 ((i : Int) + (r : Int)))
        refine ⟨k7.trans (KeepsOthers.setCell w7 _ _), A2, c2, ?_, ?_, ?_, ?_, u7.then s3 (fun j _ e => .inr (.inr (.inl e)))⟩
        · rw [HK1.out, hst]; show Blk _ _ _ #[.slice A2 (_ ++ _ ++ [_, _]).length c2]; rw [hlen]; exact e1.upd s3 (by omega)
        · rw [HK1.out, hst]; show World.ownsRow _ _ _ _ (.slice A2 (_ ++ _ ++ [_, _]).length c2) (_ ++ _ ++ [_, _]).length (bytesV (_ ++ _ ++ [_, _])); rw [hlen]; exact own_upd f2 s3 (fun j hj e => n4 (by rw [← e]; exact hj))
        · rw [HK1.out, hst]; show Blk _ _ _ #[.int .i64 ((i + r : Nat) : Int)]; rw [Int.natCast_add]; exact e3.upd s3 (by omega)
        · rw [HK1.out, HAT.out, Int.natCast_add]; exact e5)
      refine' wpAnyH_take (i := 1) (oi := _) (v := .slice (some ad) m c) ?hi1 ?hs1 ?hf1 ?hrd1 ?hQ1 (Or.inl ⟨?hw1, ?hy1⟩) HS0.out ?rest1
      case hi1 => (simp only [List.getElem?_toArray, List.getElem?_cons_succ, List.getElem?_cons_zero]; rfl)
      case hs1 => kernel_rfl
      case hf1 => kernel_rfl
      case hrd1 => kernel_rfl
      case hQ1 => (intro _ _ _ h; exact h)
      case hw1 => rfl
      case hy1 => (intro w' hSw; obtain ⟨kb, kf, kt, kx⟩ := HC.out w' hSw; go_simp)
      simp only [Act.put, List.setIfInBounds_toArray, List.set_cons_zero, List.set_cons_succ]
      refine' wpAnyH_take (i := 2) (oi := _) (v := .int .i64 (F : Int)) ?hi2 ?hs2 ?hf2 ?hrd2 ?hQ2 (Or.inl ⟨?hw2, ?hy2⟩) HS0.out ?rest2
      case hi2 => (simp only [List.getElem?_toArray, List.getElem?_cons_succ, List.getElem?_cons_zero]; rfl)
      case hs2 => kernel_rfl
      case hf2 => kernel_rfl
      case hrd2 => kernel_rfl
      case hQ2 => (intro _ _ _ h; exact h)
      case hw2 => rfl
      case hy2 => (intro w' hSw; obtain ⟨kb, kf, kt, kx⟩ := HC.out w' hSw; go_simp)
      simp only [Act.put, List.setIfInBounds_toArray, List.set_cons_zero, List.set_cons_succ]
      refine' wpAnyH_take (i := 3) (oi := _) (v := .int .i64 (i : Int)) ?hi3 ?hs3 ?hf3 ?hrd3 ?hQ3 (Or.inl ⟨?hw3, ?hy3⟩) HS0.out ?rest3
      case hi3 => (simp only [List.getElem?_toArray, List.getElem?_cons_succ, List.getElem?_cons_zero]; rfl)
      case hs3 => kernel_rfl
      case hf3 => kernel_rfl
      case hrd3 => kernel_rfl
      case hQ3 => (intro _ _ _ h; exact h)
      case hw3 => rfl
      case hy3 => (intro w' hSw; obtain ⟨kb, kf, kt, kx⟩ := HC.out w' hSw; go_simp)
      simp only [Act.put, List.setIfInBounds_toArray, List.set_cons_zero, List.set_cons_succ]
      refine' wpAnyH_take (i := 4) (oi := _) (v := .slice (some (ad.add F)) (i - F) (c - F)) ?hi4 ?hs4 ?hf4 ?hrd4 ?hQ4 (Or.inl ⟨?hw4, ?hy4⟩) HS0.out ?rest4
      case hi4 => (simp only [List.getElem?_toArray, List.getElem?_cons_succ, List.getElem?_cons_zero]; rfl)
      case hs4 => kernel_rfl
      case hf4 => kernel_rfl
      case hrd4 => kernel_rfl
      case hQ4 => (intro _ _ _ h; exact h)
      case hw4 => rfl
      case hy4 => (intro w' hSw; obtain ⟨kb, kf, kt, kx⟩ := HC.out w' hSw; go_simp)
      simp only [Act.put, List.setIfInBounds_toArray, List.set_cons_zero, List.set_cons_succ]
      refine' wpAnyH_take (i := 6) (oi := _) (v := .slice (some (ad.add i)) r (c - i)) ?hi6 ?hs6 ?hf6 ?hrd6 ?hQ6 (Or.inl ⟨?hw6, ?hy6⟩) HS0.out ?rest6
      case hi6 => (simp only [List.getElem?_toArray, List.getElem?_cons_succ, List.getElem?_cons_zero]; rfl)
      case hs6 => kernel_rfl
      case hf6 => kernel_rfl
      case hrd6 => kernel_rfl
      case hQ6 => (intro _ _ _ h; exact h)
      case hw6 => rfl
      case hy6 => (intro w' hSw; obtain ⟨kb, kf, kt, kx⟩ := HC.out w' hSw; go_simp)
      simp only [Act.put, List.setIfInBounds_toArray, List.set_cons_zero, List.set_cons_succ]
      refine' wpAnyH_take (i := 7) (oi := _) (v := .int .i64 (r : Int)) ?hi7 ?hs7 ?hf7 ?hrd7 ?hQ7 (Or.inl ⟨?hw7, ?hy7⟩) HS0.out ?rest7
      case hi7 => (simp only [List.getElem?_toArray, List.getElem?_cons_succ, List.getElem?_cons_zero]; rfl)
      case hs7 => kernel_rfl
      case hf7 => kernel_rfl
      case hrd7 => kernel_rfl
      case hQ7 => (intro _ _ _ h; exact h)
      case hw7 => rfl
      case hy7 => (intro w' hSw; obtain ⟨kb, kf, kt, kx⟩ := HC.out w' hSw; go_simp)
      simp only [Act.put, List.setIfInBounds_toArray, List.set_cons_zero, List.set_cons_succ]
      refine' wpAnyH_take (i := 8) (oi := _) (v := .int .i64 (257 - (r : Int))) ?hi8 ?hs8 ?hf8 ?hrd8 ?hQ8 (Or.inl ⟨?hw8, ?hy8⟩) HS0.out ?rest8
      case hi8 => (simp only [List.getElem?_toArray, List.getElem?_cons_succ, List.getElem?_cons_zero]; rfl)
      case hs8 => kernel_rfl
      case hf8 => kernel_rfl
      case hrd8 => kernel_rfl
      case hQ8 => (intro _ _ _ h; exact h)
      case hw8 => rfl
      case hy8 => (intro w' hSw; obtain ⟨kb, kf, kt, kx⟩ := HC.out w' hSw; go_simp; exact HW8.out)
      simp only [Act.put, List.setIfInBounds_toArray, List.set_cons_zero, List.set_cons_succ]
      refine' wpAnyH_take (i := 9) (oi := _) (v := .int .u8 (257 - (r : Int))) ?hi9 ?hs9 ?hf9 ?hrd9 ?hQ9 (Or.inl ⟨?hw9, ?hy9⟩) HS0.out ?rest9
      case hi9 => (simp only [List.getElem?_toArray, List.getElem?_cons_succ, List.getElem?_cons_zero]; rfl)
      case hs9 => kernel_rfl
      case hf9 => kernel_rfl
      case hrd9 => kernel_rfl
      case hQ9 => (intro _ _ _ h; exact h)
      case hw9 => rfl
      case hy9 => (intro w' hSw; obtain ⟨kb, kf, kt, kx⟩ := HC.out w' hSw; go_simp; exact HW9.out)
      simp only [Act.put, List.setIfInBounds_toArray, List.set_cons_zero, List.set_cons_succ]
      refine' wpAnyH_take (i := 10) (oi := _) (v := .slice (some (ad.add i)) r (c - i)) ?hi10 ?hs10 ?hf10 ?hrd10 ?hQ10 (Or.inl ⟨?hw10, ?hy10⟩) HS0.out ?rest10
      case hi10 => (simp only [List.getElem?_toArray, List.getElem?_cons_succ, List.getElem?_cons_zero]; rfl)
      case hs10 => kernel_rfl
      case hf10 => kernel_rfl
      case hrd10 => kernel_rfl
      case hQ10 => (intro _ _ _ h; exact h)
      case hw10 => rfl
      case hy10 => (intro w' hSw; obtain ⟨kb, kf, kt, kx⟩ := HC.out w' hSw; go_simp)
      simp only [Act.put, List.setIfInBounds_toArray, List.set_cons_zero, List.set_cons_succ]
      refine' wpAnyH_take (i := 11) (oi := _) (v := .pointer (some (ad.add i))) ?hi11 ?hs11 ?hf11 ?hrd11 ?hQ11 (Or.inl ⟨?hw11, ?hy11⟩) HS0.out ?rest11
      case hi11 => (simp only [List.getElem?_toArray, List.getElem?_cons_succ, List.getElem?_cons_zero]; rfl)
      case hs11 => kernel_rfl
      case hf11 => kernel_rfl
      case hrd11 => kernel_rfl
      case hQ11 => (intro _ _ _ h; exact h)
      case hw11 => rfl
      case hy11 => (intro w' hSw; obtain ⟨kb, kf, kt, kx⟩ := HC.out w' hSw; go_simp; exact fun h0 => absurd h0 (by omega))
      simp only [Act.put, List.setIfInBounds_toArray, List.set_cons_zero, List.set_cons_succ]
      refine' wpAnyH_take (i := 12) (oi := _) (v := .int .u8 (x.toNat : Int)) ?hi12 ?hs12 ?hf12 ?hrd12 ?hQ12 (Or.inl ⟨?hw12, ?hy12⟩) HS0.out ?rest12
      case hi12 => (simp only [List.getElem?_toArray, List.getElem?_cons_succ, List.getElem?_cons_zero]; rfl)
      case hs12 => kernel_rfl
      case hf12 => kernel_rfl
      case hrd12 => kernel_rfl
      case hQ12 => (intro _ _ _ h; exact h)
      case hw12 => rfl
      case hy12 => (intro w' hSw; obtain ⟨kb, kf, kt, kx⟩ := HC.out w' hSw; go_simp)
      simp only [Act.put, List.setIfInBounds_toArray, List.set_cons_zero, List.set_cons_succ]
      refine wpAnyH_ready (rs := [0, 13]) (by kernel_rfl) (by simp) ?_
      refine' AllReadyH.cons (o := _) ?ho1 (fun K hK => ?s1) ?m1
      case ho1 => (simp only [List.getElem?_toArray, List.getElem?_cons_zero]; rfl)
      case s1 =>
        have kob := HOB.out _ ((Upd.refl No V0).drew)
        go_simp
        refine hK.out _ _ HS0.out (fun _ => ?_)
        clear hK K
        refine wpAnyH_ready (rs := [5, 13]) (by kernel_rfl) (by simp) ?_
        refine' AllReadyH.cons (o := _) ?ho2 (fun K hK => ?s2) ?m2
        case ho2 => (simp only [List.getElem?_toArray, List.getElem?_cons_succ, List.getElem?_cons_zero]; rfl)
        case s2 =>
          go_simp
          refine (HAS.out _ ((Upd.refl No V0).drew)).mono ?_
          rintro e w1 ⟨A1, c1, rfl, ho1, hu1, hq1⟩
          have hS1 := HSS.out _ ((Upd.refl No V0).drew) _ hu1
          go_simp
          refine hK.out _ _ hS1 (fun _ => ?_)
          clear hK K
          refine wpAnyH_ready (rs := [13]) (by kernel_rfl) (by simp) ?_
          refine' AllReadyH.cons (o := _) ?ho3 (fun K hK => ?s3) ?m3
          case ho3 => (simp only [List.getElem?_toArray, List.getElem?_cons_succ, List.getElem?_cons_zero]; rfl)
          case s3 =>
            go_simp
            refine hK.out _ _ (hS1.alloc _) (fun _ => ?_)
            clear hK K
            refine wpAnyH_ready (rs := [14]) (by kernel_rfl) (by simp) ?_
            refine' AllReadyH.cons (o := _) ?ho4 (fun K hK => ?s4) ?m4
            case ho4 => (simp only [List.getElem?_toArray, List.getElem?_cons_succ, List.getElem?_cons_zero]; rfl)
            case s4 =>
              obtain ⟨A2, c2, w2, hrun, ho2, hu2, hS2⟩ := HAP1.out _ ((Upd.refl No V0).drew) _ _ _ ho1 hu1 hq1
              refine step_append_run rfl (.tmp 21) (.tmp 29) _ rfl rfl rfl hrun ?_
              refine hK.out _ _ hS2 (fun _ => ?_)
              clear hK K
              refine wpAnyH_ready (rs := [15]) (by kernel_rfl) (by simp) ?_
              refine' AllReadyH.cons (o := _) ?ho5 (fun K hK => ?s5) ?m5
              case ho5 => (simp only [List.getElem?_toArray, List.getElem?_cons_succ, List.getElem?_cons_zero]; rfl)
              case s5 =>
                obtain ⟨kob2, kof2⟩ := HST2.out _ hu2
                go_simp
                refine hK.out _ _ (hS2.setCell (p := ⟨ob, 0, none⟩) (fun _ => .inl rfl) _) (fun _ => ?_)
                clear hK K
                refine wpAnyH_done (by kernel_rfl) ?_ _
                have hfin := HEND.out _ _ _ ho2 hu2
                have HFIN := Lib.hid hfin
                obtain ⟨g1, g2, g3, g4⟩ := HCL.out _ _ _ ho2 hu2
                clear hfin
                gi_wp2_with fail
                exact HFIN.out
              exact AllReadyH.nil
            exact AllReadyH.nil
          exact AllReadyH.nil
        refine' AllReadyH.cons (o := _) ?ho6 (fun K hK => ?s6) ?m6
        case ho6 => (simp only [List.getElem?_toArray, List.getElem?_cons_succ, List.getElem?_cons_zero]; rfl)
        case s6 =>
          go_simp
          refine hK.out _ _ (HS0.out.alloc _) (fun _ => ?_)
          clear hK K
          refine wpAnyH_ready (rs := [5]) (by kernel_rfl) (by simp) ?_
          refine' AllReadyH.cons (o := _) ?ho7 (fun K hK => ?s7) ?m7
          case ho7 => (simp only [List.getElem?_toArray, List.getElem?_cons_succ, List.getElem?_cons_zero]; rfl)
          case s7 =>
            go_simp
            refine (HAS.out _ ((Upd.refl No V0).drew.alloc _)).mono ?_
            rintro e w1 ⟨A1, c1, rfl, ho1, hu1, hq1⟩
            have hS1 := HSS.out _ ((Upd.refl No V0).drew.alloc _) _ hu1
            go_simp
            refine hK.out _ _ hS1 (fun _ => ?_)
            clear hK K
            refine wpAnyH_ready (rs := [14]) (by kernel_rfl) (by simp) ?_
            refine' AllReadyH.cons (o := _) ?ho8 (fun K hK => ?s8) ?m8
            case ho8 => (simp only [List.getElem?_toArray, List.getElem?_cons_succ, List.getElem?_cons_zero]; rfl)
            case s8 =>
              obtain ⟨A2, c2, w2, hrun, ho2, hu2, hS2⟩ := HAP2.out _ _ _ ho1 hu1 hq1
              refine step_append_run rfl (.tmp 21) (.tmp 29) _ rfl rfl rfl hrun ?_
              refine hK.out _ _ hS2 (fun _ => ?_)
              clear hK K
              refine wpAnyH_ready (rs := [15]) (by kernel_rfl) (by simp) ?_
              refine' AllReadyH.cons (o := _) ?ho9 (fun K hK => ?s9) ?m9
              case ho9 => (simp only [List.getElem?_toArray, List.getElem?_cons_succ, List.getElem?_cons_zero]; rfl)
              case s9 =>
                obtain ⟨kob2, kof2⟩ := HST2.out _ hu2
                go_simp
                refine hK.out _ _ (hS2.setCell (p := ⟨ob, 0, none⟩) (fun _ => .inl rfl) _) (fun _ => ?_)
                clear hK K
                refine wpAnyH_done (by kernel_rfl) ?_ _
                have hfin := HEND.out _ _ _ ho2 hu2
                have HFIN := Lib.hid hfin
                obtain ⟨g1, g2, g3, g4⟩ := HCL.out _ _ _ ho2 hu2
                clear hfin
                gi_wp2_with fail
                exact HFIN.out
              exact AllReadyH.nil
            exact AllReadyH.nil
          exact AllReadyH.nil
        exact AllReadyH.nil
      refine' AllReadyH.cons (o := _) ?ho10 (fun K hK => ?s10) ?m10
      case ho10 => (simp only [List.getElem?_toArray, List.getElem?_cons_succ, List.getElem?_cons_zero]; rfl)
      case s10 =>
        go_simp
        refine hK.out _ _ (HS0.out.alloc _) (fun _ => ?_)
        clear hK K
        refine wpAnyH_ready (rs := [0]) (by kernel_rfl) (by simp) ?_
        refine' AllReadyH.cons (o := _) ?ho11 (fun K hK => ?s11) ?m11
        case ho11 => (simp only [List.getElem?_toArray, List.getElem?_cons_zero]; rfl)
        case s11 =>
          have kob := HOB.out (V0.alloc (.cells #[.int .u8 (257 - (r : Int)), .int .u8 (x.toNat : Int)] 5)) ((Upd.refl No V0).alloc _)
          go_simp
          refine hK.out _ _ (HS0.out.alloc _) (fun _ => ?_)
          clear hK K
          refine wpAnyH_ready (rs := [5]) (by kernel_rfl) (by simp) ?_
          refine' AllReadyH.cons (o := _) ?ho12 (fun K hK => ?s12) ?m12
          case ho12 => (simp only [List.getElem?_toArray, List.getElem?_cons_succ, List.getElem?_cons_zero]; rfl)
          case s12 =>
            go_simp
            refine (HAS.out _ ((Upd.refl No V0).drew.alloc _)).mono ?_
            rintro e w1 ⟨A1, c1, rfl, ho1, hu1, hq1⟩
            have hS1 := HSS.out _ ((Upd.refl No V0).drew.alloc _) _ hu1
            go_simp
            refine hK.out _ _ hS1 (fun _ => ?_)
            clear hK K
            refine wpAnyH_ready (rs := [14]) (by kernel_rfl) (by simp) ?_
            refine' AllReadyH.cons (o := _) ?ho13 (fun K hK => ?s13) ?m13
            case ho13 => (simp only [List.getElem?_toArray, List.getElem?_cons_succ, List.getElem?_cons_zero]; rfl)
            case s13 =>
              obtain ⟨A2, c2, w2, hrun, ho2, hu2, hS2⟩ := HAP2.out _ _ _ ho1 hu1 hq1
              refine step_append_run rfl (.tmp 21) (.tmp 29) _ rfl rfl rfl hrun ?_
              refine hK.out _ _ hS2 (fun _ => ?_)
              clear hK K
              refine wpAnyH_ready (rs := [15]) (by kernel_rfl) (by simp) ?_
              refine' AllReadyH.cons (o := _) ?ho14 (fun K hK => ?s14) ?m14
              case ho14 => (simp only [List.getElem?_toArray, List.getElem?_cons_succ, List.getElem?_cons_zero]; rfl)
              case s14 =>
                obtain ⟨kob2, kof2⟩ := HST2.out _ hu2
                go_simp
                refine hK.out _ _ (hS2.setCell (p := ⟨ob, 0, none⟩) (fun _ => .inl rfl) _) (fun _ => ?_)
                clear hK K
                refine wpAnyH_done (by kernel_rfl) ?_ _
                have hfin := HEND.out _ _ _ ho2 hu2
                have HFIN := Lib.hid hfin
                obtain ⟨g1, g2, g3, g4⟩ := HCL.out _ _ _ ho2 hu2
                clear hfin
                gi_wp2_with fail
                exact HFIN.out
              exact AllReadyH.nil
            exact AllReadyH.nil
          exact AllReadyH.nil
        exact AllReadyH.nil
      exact AllReadyH.nil
  case done =>
    rintro D V hD hI hK
    obtain ⟨hbs, kbb, _, _⟩ := hinp N V hI
    obtain ⟨A', c', h1, h2, h3, h4, h5⟩ := hI
    obtain ⟨g1, g2, _, g4⟩ := stR_ok l N hN N (Nat.le_refl _)
    have hfin : finR l N = (stR l N).1 ++ lits (l.drop (stR l N).2) := rfl
    generalize hO : (stR l N).1 = O at *
    generalize hF : (stR l N).2 = F at *
    have hVs := h5.size
    have hown := h2.lt
    have kob : V.drew.cell? ⟨ob, 0, none⟩ = some (.slice A' O.length c') := h1.cell 0
    have kf : V.drew.cell? ⟨ob + 1, 0, none⟩ = some (.int .i64 (F : Int)) := h3.cell 0
    have kb : V.drew.cell? ⟨w.heap.size, 0, none⟩ = some (.slice A m c) := kbb
    obtain ⟨seg, hsg⟩ : ∃ seg, l.drop F = seg := ⟨_, rfl⟩
    rw [hsg] at hfin
    have hseg : seg.length = m - F := by rw [← hsg, List.length_drop, hm]
    have HBS := Lib.hid (hbs.drew)
    have HAS : Hid (∀ Af, Bs V.drew w.heap.size Af seg → Calls Try.prog 35 #[.slice A' O.length c', .slice Af (m - F) (c - F)] V.drew (AsR V.drew w5.heap.size A' O.length c' O seg)) := Lib.hid (fun Af hbf =>
      asItIs_any V.drew w5.heap.size A' O.length c' O (own_upd h2 ((Upd.refl No V).drew) (fun _ _ => id)) hVs w.heap.size Af (m - F) (c - F) seg hseg hbf (by omega) (by omega) (by omega) (by omega))
    have HPOST : Hid (∀ e w2, AsR V.drew w5.heap.size A' O.length c' O seg e w2 → ∃ A2 c2, e = .returned (.slice A2 (O.length + (lits seg).length) c2) ∧ w2.heap[D]? = some (.deferred (some [])) ∧ PackedR w l (.returned (.slice A2 (O.length + (lits seg).length) c2)) (w2.putObj D (.deferred none)) ∧ Upd (fun j => some j = (Value.slice A' O.length c').ownBlock) V.drew w2) := Lib.hid (by
      rintro e w2 ⟨A2, c2, rfl, o2, u2, _⟩
      have hk2 := own_of_keeps (own_upd h2 ((Upd.refl No V).drew) (fun _ _ => id)) u2
      have hD2 := hk2.same D _ hK rfl
      have hlen : (finR l N).length = O.length + (lits seg).length := by rw [hfin, List.length_append]
      refine ⟨A2, c2, rfl, hD2, ⟨N, A2, c2, hE, hN, by rw [hlen], ?_, ?_⟩, u2⟩
      · rw [hlen, hfin]; exact own_low (own_put o2 hD2 rfl _) (by omega)
      · have u9 := ((((Upd.of_fresh HBX.out).mono (T := fun j => w.heap.size ≤ j) (fun _ _ h => absurd h id)).then h5 (fun j hj e => by omega)).then (((Upd.refl _ V).drew).trans u2) (fun j hj e => by have := (hown _ e.symm).1; omega)).then (upd_putObj (S := (· = D)) w2 D (.deferred none) rfl) (fun j hj e => by omega)
        exact u9.below (Nat.le_refl _) (fun j hj e => by omega))
    have hcap : F ≤ c := by omega
    have hmF : F ≤ m := by omega
    have HSG := Lib.hid hsg; have HM := Lib.hid hm
    clear hE hN hst hinp hbs h1 h2 h3 h4 h5 g1 g2 g4 hfin hO hF hVs hown hsg hseg hK hsx hob q0 q1 q2 q3 q4 q5 hD kbb hm
    go_wp2_with fail
    have hz : A = none → m = 0 := fun e => by
      by_cases h : 0 < m
      · obtain ⟨ad, e2, _⟩ := HBS.out (by have := HM.out; omega)
        rw [e] at e2; cases e2
      · omega
    have hm0 : F = m → seg = [] := fun e => by rw [← HSG.out]; exact List.drop_eq_nil_of_le (by have := HM.out; omega)
    by_cases hcF : c = F
    · have hFm : F = m := by omega
      have HB0 : Hid (∀ Af, Bs V.drew w.heap.size Af seg) := Lib.hid (fun Af => by rw [hm0 hFm]; exact Bs.nil_)
      have i1 : (F : Int) ≤ (m : Int) := by omega
      have i2 : (F : Int) ≤ (c : Int) := by omega
      clear hz hm0 hFm
      rw [show c - F = 0 from by omega] at HAS
      cases A
      all_goals
        refine wp_region_tail 4 (by kernel_rfl) (by kernel_rfl) ?_
        simp only [List.take_succ_cons, List.take_zero, List.drop_succ_cons, List.drop_zero]
        repeat (go_big_quiet_step (fail))
        refine wpQuiet_nil ?_
        go_wp2_with (go_at_call 35; refine (HAS.out _ (HB0.out _)).mono ?_; intro e w2 hR; obtain ⟨A2, c2, rfl, hD2, hP, hU2⟩ := HPOST.out e w2 hR; have HP := Lib.hid hP; have HD2 := Lib.hid hD2; clear hR hD2 hP hU2)
        refine ⟨by simp, .inl ⟨_, _, rfl, run_takeDeferred HD2.out, ?_⟩⟩
        exact ⟨_, by simp [results, Try.results21, go_sem], HP.out⟩
    · cases A with
      | none =>
        obtain rfl := hz rfl
        obtain rfl : F = 0 := by omega
        have HB0 : Hid (∀ Af, Bs V.drew w.heap.size Af seg) := Lib.hid (fun Af => by rw [hm0 rfl]; exact Bs.nil_)
        clear hz hm0
        refine wp_region_tail 4 (by kernel_rfl) (by kernel_rfl) ?_
        simp only [List.take_succ_cons, List.take_zero, List.drop_succ_cons, List.drop_zero]
        repeat (go_big_quiet_step (fail))
        refine wpQuiet_nil ?_
        go_wp2_with (go_at_call 35; refine (HAS.out _ (HB0.out _)).mono ?_; intro e w2 hR; obtain ⟨A2, c2, rfl, hD2, hP, hU2⟩ := HPOST.out e w2 hR; have HP := Lib.hid hP; have HD2 := Lib.hid hD2; clear hR hD2 hP hU2)
        refine ⟨by simp, .inl ⟨_, _, rfl, run_takeDeferred HD2.out, ?_⟩⟩
        exact ⟨_, by simp [results, Try.results21, go_sem], HP.out⟩
      | some ad =>
        have hbf := (HBS.out).drop (k := F) (cap := c) (by have := HM.out; omega) (by have := HM.out; omega)
        rw [if_neg hcF, HSG.out, Option.map_some] at hbf
        have HBF := Lib.hid hbf
        clear hbf hz hm0
        refine wp_region_tail 4 (by kernel_rfl) (by kernel_rfl) ?_
        simp only [List.take_succ_cons, List.take_zero, List.drop_succ_cons, List.drop_zero]
        have i1 : (F : Int) ≤ (m : Int) := by omega
        have i2 : (F : Int) ≤ (c : Int) := by omega
        repeat (go_big_quiet_step (fail))
        refine wpQuiet_nil ?_
        go_wp2_with (go_at_call 35; refine (HAS.out _ HBF.out).mono ?_; intro e w2 hR; obtain ⟨A2, c2, rfl, hD2, hP, hU2⟩ := HPOST.out e w2 hR; have HP := Lib.hid hP; have HD2 := Lib.hid hD2; clear hR hD2 hP hU2)
        refine ⟨by simp, .inl ⟨_, _, rfl, run_takeDeferred HD2.out, ?_⟩⟩
        exact ⟨_, by simp [results, Try.results21, go_sem], HP.out⟩
  case stop => rintro D j V hD h; exact h.elim
end Go.Proofs.Ythnfnfaiicfenaa
