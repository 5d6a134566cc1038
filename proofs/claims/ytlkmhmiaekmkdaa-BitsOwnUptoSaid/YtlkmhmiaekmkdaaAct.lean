/- How a list of acts (three numbers each) that comes in is opened. -/
import Derived.Test.YtlkmhmiaekmkdaaO
import Derived.Deep.Strs
namespace Go.Proofs.Ytlkmhmiaekmkdaa
open Go.ChangeShapes Go.WideShapes Go.ChangeAt Go.RowKit Go.Deep

/-- The slice value '.slice A acts.length c' reads as these acts (kind, n, v), below block B. -/
def Acts (w : World) (B : Nat) (A : Option Addr) (acts : List (Int × Int × Nat)) : Prop :=
  0 < acts.length → ∃ b off, A = some ⟨b, off, none⟩ ∧ b < B ∧ ∀ (j : Nat) (hj : j < acts.length),
    w.cell? ⟨b, off + j * 3, none⟩ = some (.int .i64 acts[j].1) ∧ w.cell? ⟨b, off + j * 3 + 1, none⟩ = some (.int .i64 acts[j].2.1) ∧ w.cell? ⟨b, off + j * 3 + 2, none⟩ = some (.int .u32 ((acts[j].2.2 : Nat) : Int))
def ActOk (a : Int × Int × Nat) : Prop := (-9223372036854775808 ≤ a.1 ∧ a.1 ≤ 9223372036854775807) ∧ (-9223372036854775808 ≤ a.2.1 ∧ a.2.1 ≤ 9223372036854775807) ∧ a.2.2 < 4294967296
theorem Acts.upd {w w' : World} {S : Nat → Prop} {B : Nat} {A : Option Addr} {acts : List (Int × Int × Nat)} (h : Acts w B A acts) (hu : Upd S w w') (hB : B ≤ w.heap.size) (hS : ∀ k, k < B → ¬ S k) : Acts w' B A acts := fun hn => by
  obtain ⟨b, off, e, hb, hc⟩ := h hn
  have hk : ∀ o, w'.cell? ⟨b, o, none⟩ = w.cell? ⟨b, o, none⟩ := fun o => World.cell?_of_block (hu.block b (by omega) (hS b hb))
  exact ⟨b, off, e, hb, fun j hj => by rw [hk, hk, hk]; exact hc j hj⟩
def numAt (w : World) (a : Addr) : Int := match w.cell? a with
  | some (.int _ n) => n
  | _ => 0
theorem numAt_of {w : World} {a : Addr} {k : IntKind} {n : Int} (h : w.cell? a = some (.int k n)) : numAt w a = n := by unfold numAt; rw [h]
theorem cells_act : Try.prog.cellsOf 32 = 3 := by kernel_rfl
theorem bytes_act : Try.prog.bytesOf 32 = 24 := by kernel_rfl
theorem cells_int : Try.prog.cellsOf 3 = 1 := by kernel_rfl
theorem cells_u32 : Try.prog.cellsOf 30 = 1 := by kernel_rfl
section
variable {H : Type} {enc : TypeId × Value → H} {W : World} {base : Nat} {v : Value} {d : DataW H} {p : List MemPlace}
theorem act_cells {n : Nat} {a : Addr} {y : DataW H × List MemPlace} (h : (W.cells? 0 a 3).bind (DataW.trod enc Try.prog W 0 (fun _ => true) true n 32) = some y) :
    ∃ c0 c1 c2 : Int, W.cell? (a.add 0) = some (.int .i64 c0) ∧ W.cell? (a.add 1) = some (.int .i64 c1) ∧ W.cell? (a.add 2) = some (.int .u32 c2) ∧ (Lit.int .i64 c0).wf = true ∧ (Lit.int .i64 c1).wf = true ∧ (Lit.int .u32 c2).wf = true := by
  obtain ⟨cs, hcs, ht⟩ := Option.bind_eq_some_iff.mp h
  obtain ⟨y0, y1, y2, m, _, hl, h0, h1, h2⟩ := trod_struct3 Try.underlying32 ht
  rw [cells_act] at hl
  obtain ⟨_, _, hc⟩ := World.cells?_some hcs
  match cs, hl with
  | [v0, v1, v2], _ =>
    obtain ⟨a0, e0, _, w0⟩ := DataW.trod_int Try.underlying3 h0
    obtain ⟨a1, e1, _, w1⟩ := DataW.trod_int Try.underlying3 h1
    obtain ⟨a2, e2, _, w2⟩ := DataW.trod_int Try.underlying30 h2
    simp [cells_int, cells_u32] at e0 e1 e2
    subst e0 e1 e2
    exact ⟨a0, a1, a2, by simpa using hc 0 (by omega), by simpa using hc 1 (by omega), by simpa using hc 2 (by omega), w0, w1, w2⟩
theorem open_acts (hv : Value.okWide Try.prog W .any base 23 v) (hj : DataW.Trod enc Try.prog W 0 (fun _ => true) true 23 v d p) :
    ∃ A acts c, v = .slice A acts.length c ∧ Acts W W.heap.size A acts ∧ (∀ a ∈ acts, ActOk a) ∧ ((d = .nil ∧ acts = []) ∨ ∃ e s, d = .slice e s ∧ acts.length ≤ e.length + s.length) := by
  obtain ⟨a0, len0, cap0, rfl⟩ := okWide_slice Try.underlying23 hv
  obtain ⟨fuel, hf⟩ := hj
  rcases DataW.trod_slice Try.underlying23 hf with ⟨hcs, hx⟩ | ⟨x, l, c, elems, rest, n, _, hcs, hx, _, hl, hm, hlen, hel, _, _⟩
  · simp [Value.cells] at hcs
    obtain ⟨rfl, rfl, rfl⟩ := hcs
    simp only [Prod.mk.injEq] at hx
    exact ⟨none, [], 0, rfl, fun h => absurd h (by simp), by simp, .inl ⟨hx.1, rfl⟩⟩
  · simp [Value.cells] at hcs
    obtain ⟨rfl, rfl, rfl⟩ := hcs
    simp only [Prod.mk.injEq] at hx
    obtain ⟨b, off, spot⟩ := x
    have each : ∀ i, i < len0 → ∃ c0 c1 c2 : Int, W.cell? (((⟨b, off, spot⟩ : Addr).add (i * 3)).add 0) = some (.int .i64 c0) ∧ W.cell? (((⟨b, off, spot⟩ : Addr).add (i * 3)).add 1) = some (.int .i64 c1) ∧ W.cell? (((⟨b, off, spot⟩ : Addr).add (i * 3)).add 2) = some (.int .u32 c2) ∧ (Lit.int .i64 c0).wf = true ∧ (Lit.int .i64 c1).wf = true ∧ (Lit.int .u32 c2).wf = true := by
      intro i hi
      have h1 := hel i hi
      rw [cells_act, List.getElem?_eq_getElem (by omega)] at h1
      exact act_cells h1
    by_cases h0 : len0 = 0
    · subst h0
      exact ⟨some ⟨b, off, spot⟩, [], cap0, rfl, fun h => absurd h (by simp), by simp, .inr ⟨_, _, hx.1, by simp⟩⟩
    · obtain ⟨z0, _, _, hz, _⟩ := each 0 (by omega)
      have hspot : spot = none := by
        have := World.cell?_spot hz
        simpa [Addr.add] using this
      have hblk : b < W.heap.size := by
        have := block_lt_of_cell hz
        simpa [Addr.add] using this
      subst hspot
      have e0 : ∀ i, ((⟨b, off, none⟩ : Addr).add (i * 3)).add 0 = ⟨b, off + i * 3, none⟩ := fun i => by
        rw [add_of_add]; unfold Addr.add; split <;> simp_all
      have e1 : ∀ i, ((⟨b, off, none⟩ : Addr).add (i * 3)).add 1 = ⟨b, off + i * 3 + 1, none⟩ := fun i => by
        rw [add_of_add]; unfold Addr.add; split <;> simp_all [Nat.add_assoc]
      have e2 : ∀ i, ((⟨b, off, none⟩ : Addr).add (i * 3)).add 2 = ⟨b, off + i * 3 + 2, none⟩ := fun i => by
        rw [add_of_add]; unfold Addr.add; split <;> simp_all [Nat.add_assoc]
      refine ⟨some ⟨b, off, none⟩, (List.range len0).map (fun i => (numAt W ⟨b, off + i * 3, none⟩, numAt W ⟨b, off + i * 3 + 1, none⟩, (numAt W ⟨b, off + i * 3 + 2, none⟩).toNat)), cap0, by simp, ?_, ?_, .inr ⟨_, _, hx.1, by simp; omega⟩⟩
      · intro _
        refine ⟨b, off, rfl, hblk, fun j hj => ?_⟩
        have hj' : j < len0 := by simpa using hj
        obtain ⟨c0, c1, c2, k0, k1, k2, _, _, w2⟩ := each j hj'
        rw [e0] at k0; rw [e1] at k1; rw [e2] at k2
        have b2 := bounds_u32 w2
        simp only [List.getElem_map, List.getElem_range]
        rw [k0, k1, k2, numAt_of k0, numAt_of k1, numAt_of k2]
        refine ⟨rfl, rfl, ?_⟩
        congr 2
        omega
      · intro a ha
        obtain ⟨i, hi, rfl⟩ := List.mem_map.mp ha
        obtain ⟨c0, c1, c2, k0, k1, k2, w0, w1, w2⟩ := each i (List.mem_range.mp hi)
        rw [e0] at k0; rw [e1] at k1; rw [e2] at k2
        have b2 := bounds_u32 w2
        unfold ActOk
        simp only [numAt_of k0, numAt_of k1, numAt_of k2]
        exact ⟨bounds_i64 w0, bounds_i64 w1, by omega⟩
end
end Go.Proofs.Ytlkmhmiaekmkdaa
