/- Words for GridAll: what has been turned so far, one cell set, four boxes. -/
import Derived.Test.YtfjnlbjlapbilaaGal
namespace Go.Proofs.Ytfjnlbjlapbilaa
open Go.ChangeShapes Go.WideShapes Go.ChangeAt Go.RowKit Go.Shelf

theorem boxes4 (w : World) (a b c d : Array Value) (t u v x : TypeId) : Below w.heap.size w ((((w.alloc (.cells a t)).alloc (.cells b u)).alloc (.cells c v)).alloc (.cells d x)) ∧ ((((w.alloc (.cells a t)).alloc (.cells b u)).alloc (.cells c v)).alloc (.cells d x)).heap.size = w.heap.size + 1 + 1 + 1 + 1 ∧
    Blk ((((w.alloc (.cells a t)).alloc (.cells b u)).alloc (.cells c v)).alloc (.cells d x)) w.heap.size t a ∧ Blk ((((w.alloc (.cells a t)).alloc (.cells b u)).alloc (.cells c v)).alloc (.cells d x)) (w.heap.size + 1) u b ∧
    Blk ((((w.alloc (.cells a t)).alloc (.cells b u)).alloc (.cells c v)).alloc (.cells d x)) (w.heap.size + 1 + 1) v c ∧ Blk ((((w.alloc (.cells a t)).alloc (.cells b u)).alloc (.cells c v)).alloc (.cells d x)) (w.heap.size + 1 + 1 + 1) x d := by
  obtain ⟨h1, h2, h3, h4, h5⟩ := boxes3 w a b c t u v
  have h6 := Blk.new (((w.alloc (.cells a t)).alloc (.cells b u)).alloc (.cells c v)) x d
  rw [h2] at h6
  exact ⟨h1.alloc h1.size _, by rw [World.size_alloc, h2], h3.alloc _, h4.alloc _, h5.alloc _, h6⟩

/-- A block that is no cells is no row. -/
theorem own_dead {V : World} {base r n c : Nat} {e : TypeId} {xs : List Value} (h : V.ownsRow base e 1 (.slice (some ⟨r, 0, none⟩) n c) n xs) (ho : V.heap[r]? = some (.deferred (some []))) : False := by
  rcases h.2 with ⟨h1, _⟩ | ⟨g, c, u, h1, _, a, _⟩
  · cases h1
  · injection h1 with h1
    injection h1 with h1
    injection h1 with h1
    subst h1
    rw [ho] at a
    injection a with a
    cases a
/-- The first k numbers turned. -/
def negs (l : List Int) (k : Nat) : List Int := (l.take k).map (fun v => wrap64 (-v)) ++ l.drop k
theorem negs_zero (l : List Int) : negs l 0 = l := by simp [negs]
theorem negs_length (l : List Int) (k : Nat) : (negs l k).length = l.length := by simp [negs]; omega
theorem negs_at (l : List Int) (k : Nat) (hk : k < (negs l k).length) : (negs l k)[k] = l.getD k 0 := by
  have h := hk
  rw [negs_length] at h
  have h2 : (negs l k)[k]? = some (l.getD k 0) := by
    unfold negs
    rw [List.getElem?_append_right (by simp; omega)]
    simp [List.getD, List.getElem?_eq_getElem h, Nat.min_eq_left (Nat.le_of_lt h)]
  rw [List.getElem?_eq_getElem hk] at h2
  exact Option.some.inj h2
theorem negs_set (l : List Int) (k : Nat) (hk : k < l.length) : (negs l k).set k (wrap64 (-(l.getD k 0))) = negs l (k + 1) := by
  unfold negs
  have h1 : ((l.take k).map (fun v => wrap64 (-v))).length = k := by simp; omega
  rw [List.set_append_right _ _ (by omega), h1, Nat.sub_self, List.drop_eq_getElem_cons hk, List.set_cons_zero, List.take_succ_eq_append_getElem hk, List.map_append, List.append_assoc]
  simp [List.getD, List.getElem?_eq_getElem hk]

/-- One cell of a grid is set, told by its number. -/
theorem set_k {V : World} {base g r c X Y : Nat} {l : List Int} (h : GridAt V base 87 3 g r c X Y (intsV l)) {k : Nat} (hk : k < X * Y) (v : Int) :
    Calls Try.prog 15 #[.pointer (some ⟨g, 0, none⟩), .int .i64 ((k % X : Nat) : Int), .int .i64 ((k / X : Nat) : Int), .int .i64 v] V fun e w' => e = .returned (.bool true) ∧ ∃ V1, Below V.heap.size V V1 ∧ w' = V1.setCell ⟨r, k, none⟩ (.int .i64 v) := by
  refine (set_any h _ _ v).mono ?_
  have hX := h.w1
  have h1 : k % X < X := Nat.mod_lt _ hX
  have h2 : k / X < Y := Nat.div_lt_of_lt_mul hk
  have hin : inB ((k % X : Nat) : Int) ((k / X : Nat) : Int) 1 1 X Y = true := by
    generalize k % X = P at *
    generalize k / X = Q at *
    exact (inB_iff _ _ _ _).2 ⟨by omega, by omega, by omega, by omega⟩
  rintro e w' ⟨rfl, V1, hb1, _, h3⟩
  refine ⟨by rw [hin], V1, hb1, ?_⟩
  rw [h3 hin]
  simp only [Int.toNat_natCast]
  rw [Nat.mul_comm, Nat.div_add_mod]
theorem place_div {k X : Nat} (hk : k ≤ 65536) : (k : Int).tmod (X : Int) = ((k % X : Nat) : Int) ∧ (k : Int).tdiv (X : Int) = ((k / X : Nat) : Int) ∧ wrap64 ((k / X : Nat) : Int) = ((k / X : Nat) : Int) := by
  have h : k / X ≤ k := Nat.div_le_self _ _
  refine ⟨by rw [Int.ofNat_tmod], by rw [Int.ofNat_tdiv], ?_⟩
  generalize k / X = Q at *
  exact IntWalk.wrap64_in _ (by omega)
/-- A round has set a cell and counted on. -/
theorem all_end {w5 V : World} {base nb g r c X Y : Nat} {l : List Int} {t : TypeId} {v v' : Value} {k : Nat} (hb : Blk V nb t #[v]) (hg : GridAt V base 87 3 g r c X Y (intsV (negs l k))) (hu : Upd (fun i => i = nb ∨ i = r) w5 V) (hk : k < l.length) (hnr : nb ≠ r) (hng : nb ≠ g) (hrg : r ≠ g) :
    KeepsOthers V ((V.setCell ⟨r, k, none⟩ (.int .i64 (wrap64 (-(l.getD k 0))))).setCell ⟨nb, 0, none⟩ v') ∧ Blk ((V.setCell ⟨r, k, none⟩ (.int .i64 (wrap64 (-(l.getD k 0))))).setCell ⟨nb, 0, none⟩ v') nb t #[v'] ∧
    GridAt ((V.setCell ⟨r, k, none⟩ (.int .i64 (wrap64 (-(l.getD k 0))))).setCell ⟨nb, 0, none⟩ v') base 87 3 g r c X Y (intsV (negs l (k + 1))) ∧
    Upd (fun i => i = nb ∨ i = r) w5 ((V.setCell ⟨r, k, none⟩ (.int .i64 (wrap64 (-(l.getD k 0))))).setCell ⟨nb, 0, none⟩ v') := by
  have u1 := set1_upd V r k (.int .i64 (wrap64 (-(l.getD k 0))))
  have u2 := set1_upd (V.setCell ⟨r, k, none⟩ (.int .i64 (wrap64 (-(l.getD k 0))))) nb 0 v'
  have h1 := hg.set hrg k (wrap64 (-(l.getD k 0)))
  rw [negs_set l k hk] at h1
  exact ⟨(KeepsOthers.setCell _ _ _).trans (KeepsOthers.setCell _ _ _), by simpa using (hb.upd u1 hnr).set_ 0 v', h1.upd u2 (fun e => hng e.symm) (fun e => hnr e.symm),
    (hu.then u1 (fun i _ e => .inr e)).then u2 (fun i _ e => .inl e)⟩
end Go.Proofs.Ytfjnlbjlapbilaa
