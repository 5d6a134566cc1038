/- Joined texts (a claim has at most 60 files): Same Go Qq. -/
import Derived.Test.YtfbokhdimffabaaGreatDoorCo
import Derived.Test.YtfbokhdimffabaaGreatDoorRows
import Derived.WalkKit
import Derived.ProofKit
import Derived.OpenShut
import Derived.ChangeOld
import Derived.Below
import Derived.Lib.Hide
import Derived.Outline
import Derived.BigQuiet
import Derived.Deep.QuietTactic
import Derived.Test.YtfbokhdimffabaaGreatDoorAs
import Derived.Deep.Strs
import Derived.Test.YtfbokhdimffabaaGreatDoorQp
/- The document's comparing of bytes (as wip/bits S, cut), for seats of later layers. -/
namespace Go.Proofs.YtfbokhdimffabaaGreatDoor
open Go.ChangeShapes Go.WideShapes Go.ChangeAt Go.RowKit

theorem ret_sameb {a b : Bool} (h : a = b) : Ending.returned (.bool a) = .returned (.bool b) := by rw [h]

set_option maxHeartbeats 400000 in
theorem same_any (A1 A2 : Option Addr) (c1 c2 : Nat) (a b : List UInt8) (B : Nat) (w : World) (h1 : Bs w B A1 a) (h2 : Bs w B A2 b) (hl : a.length ≤ maxLen) :
    Calls Tryz.prog 14 #[.slice A1 a.length c1, .slice A2 b.length c2] w fun e w' => e = .returned (.bool (a == b)) ∧ ∃ n, w' = w.drewN n := by
  unfold maxLen at hl
  by_cases hlen : a.length = b.length
  · have hne : ((a.length : Int) != b.length) = false := by simp [hlen]
    have H := Lib.hid hlen; clear hlen
    go_enter Tryz.func14, Tryz.ntmps14
    go_wp2
    go_loopw [5] (fun i wr => ∃ k : Nat, k ≤ a.length ∧ i = .int .i64 k ∧ a.take k = b.take k ∧ ∃ n, wr = w.drewN n) (fun i _ => a.length - (intOf i).toNat)
    case atStart => exact ⟨0, by omega, rfl, by simp, 0, rfl⟩
    case round =>
      obtain ⟨k, hk, rfl, hE, n, rfl⟩ := hrel
      have HE := Lib.hid hE; clear hE
      by_cases hlt : k < a.length
      · have hb : k < b.length := by have := H.out; omega
        obtain ⟨ad1, rfl, _, hc1⟩ := h1.at_ hlt
        obtain ⟨ad2, rfl, _, hc2⟩ := h2.at_ hb
        go_wp2
        go_quiet (fail)
        go_wp2
        · go_ret
          have hd : ((a[k].toNat : Int) != (b[k].toNat : Int)) = true := by assumption
          refine ⟨ret_sameb ?_, n + nq, by simp⟩
          have hn : a ≠ b := fun e => by subst e; simp at hd
          simp [hn]
        · go_roundw
          case rel =>
            have hd : ((a[k].toNat : Int) != (b[k].toNat : Int)) = false := by assumption
            have hd' : a[k] = b[k] := by
              have : a[k].toNat = b[k].toNat := by simp at hd; omega
              exact UInt8.toNat_inj.mp this
            exact ⟨k + 1, by omega, by go_num, take_eq_next a b k HE.out hlt hb hd', n + nq, rfl⟩
          case measure => simp [intOf]; omega
      · go_wp2
        go_ret
        have h0 : k = a.length := by omega
        subst h0
        have h3 := HE.out
        rw [List.take_length, H.out, List.take_length] at h3
        exact ⟨ret_sameb (by simp [h3]), n, rfl⟩
  · have hne : ((a.length : Int) != b.length) = true := by simp; omega
    have H : Hid (a ≠ b) := Lib.hid (fun e => hlen (by rw [e]))
    clear hlen
    go_enter Tryz.func14, Tryz.ntmps14
    go_wp2
    go_ret
    have h3 := H.out
    exact ⟨ret_sameb (by simp [h3]), 0, rfl⟩

end Go.Proofs.YtfbokhdimffabaaGreatDoor

/- How the arguments of layer 7's statements are opened: a size with cells, two numbers, a rectangle. -/
namespace Go.Proofs.YtfbokhdimffabaaGreatDoor
open Go.ChangeShapes Go.WideShapes Go.ChangeAt Go.RowKit

section
variable {H : Type} {enc : TypeId × Value → H} {W : World} {base : Nat} {v : Value} {d : DataW H} {p : List MemPlace}
set_option maxRecDepth 100000 in
theorem numbers_cells {fuel : Nat} {cs : List Value} {x : DataW H × List MemPlace} (hf : DataW.trod enc Tryz.prog W 0 (fun _ => true) true fuel 62 cs = some x) :
    ∃ A l c, cs = [.slice A l.length c] ∧ Is W W.heap.size A l ∧ (∀ x ∈ l, -9223372036854775808 ≤ x ∧ x ≤ 9223372036854775807) ∧ ((x.1 = .nil ∧ l = []) ∨ ∃ e s, x.1 = .slice e s ∧ l.length ≤ e.length + s.length) := by
  rcases open_ints Tryz.underlying62 Tryz.underlying3 cells_int hf with ⟨hcs, hx⟩ | ⟨x, l, c, zs, hcs, _, hl, hm, hz, hx, hcell, hwz⟩
  · subst hx
    exact ⟨none, [], 0, hcs, Vs.nil_, by simp, .inl ⟨rfl, rfl⟩⟩
  · subst hx
    have hzl : zs.length = c := by simpa using hz
    have hlen : (zs.take l).length = l := by simp; omega
    refine ⟨some x, zs.take l, c, by rw [hlen, hcs], ?_, fun y hy => bounds_i64 (hwz y (List.mem_of_mem_take hy)), .inr ⟨_, _, rfl, ?_⟩⟩
    · intro hpos
      rw [intsV_length, hlen] at hpos
      refine ⟨x, rfl, ?_, fun j hj => ?_⟩
      · have h0 := hcell 0 (by omega)
        have := block_lt_of_cell h0
        rwa [block_of_add] at this
      · have hj' : j < l := by rw [intsV_length, hlen] at hj; exact hj
        rw [hcell j (by omega), intsV_get]
        have hjz : j < zs.length := by omega
        have e : zs.getD j 0 = zs[j] := by simp [List.getD, hjz]
        rw [e]
        simp
    · rw [hlen]
      simp [lits]
      omega
end
theorem sized_part {H : Type} {P : Program} {ts : List TypeId} {ds : List (DataW H)} (h : (DataW.weightsEach P ts ds).all (· ≤ reachBytes) = true) {j : Nat} {t : TypeId} {fs : Array Field} {parts : List (DataW H)} (ht : ts[j]? = some t) (hd : ds[j]? = some (.agg parts)) (hu : P.underlying t = some (.struct fs)) :
    (DataW.weightsEach P (fs.toList.map (·.type)) parts).all (· ≤ reachBytes) = true := by
  rw [List.all_eq_true] at h ⊢
  intro n hn
  exact h n (DataW.weights_mem_each ht hd n (by simp only [DataW.weights, hu]; exact hn))
end Go.Proofs.YtfbokhdimffabaaGreatDoor

/- How the arguments of layer 9's statements are opened: images, places, colours (rectangles: wip/grid's XGo). -/
namespace Go.Proofs.YtfbokhdimffabaaGreatDoor
open Go.ChangeShapes Go.WideShapes Go.ChangeAt Go.RowKit

theorem bytes_u16 : Tryz.prog.bytesOf 42 = 2 := by kernel_rfl
section
variable {H : Type} {enc : TypeId × Value → H} {W : World} {base : Nat} {v : Value} {d : DataW H} {p : List MemPlace}
set_option maxRecDepth 100000 in
theorem samples_cells {fuel : Nat} {cs : List Value} {x : DataW H × List MemPlace} (hf : DataW.trod enc Tryz.prog W 0 (fun _ => true) true fuel 24 cs = some x) :
    ∃ A l c, cs = [.slice A l.length c] ∧ Us W W.heap.size A l ∧ (∀ x ∈ l, 0 ≤ x ∧ x ≤ 65535) ∧ ((x.1 = .nil ∧ l = []) ∨ ∃ e s, x.1 = .slice e s ∧ l.length ≤ e.length + s.length) := by
  rcases open_ints Tryz.underlying24 Tryz.underlying42 cells_u16 hf with ⟨hcs, hx⟩ | ⟨x, l, c, zs, hcs, _, hl, hm, hz, hx, hcell, hwz⟩
  · subst hx
    exact ⟨none, [], 0, hcs, Vs.nil_, by simp, .inl ⟨rfl, rfl⟩⟩
  · subst hx
    have hzl : zs.length = c := by simpa using hz
    have hlen : (zs.take l).length = l := by simp; omega
    refine ⟨some x, zs.take l, c, by rw [hlen, hcs], ?_, fun y hy => bounds_u16 (hwz y (List.mem_of_mem_take hy)), .inr ⟨_, _, rfl, ?_⟩⟩
    · intro hpos
      rw [usV_length, hlen] at hpos
      refine ⟨x, rfl, ?_, fun j hj => ?_⟩
      · have h0 := hcell 0 (by omega)
        have := block_lt_of_cell h0
        rwa [block_of_add] at this
      · have hj' : j < l := by rw [usV_length, hlen] at hj; exact hj
        rw [hcell j (by omega), usV_get]
        have hjz : j < zs.length := by omega
        have e : zs.getD j 0 = zs[j] := by simp [List.getD, hjz]
        rw [e]
        simp
    · rw [hlen]
      simp [lits]
      omega
set_option maxRecDepth 100000 in
theorem open_image (hv : Value.okWide Tryz.prog W .any base 26 v) (hj : DataW.Trod enc Tryz.prog W 0 (fun _ => true) true 26 v d p) :
    ∃ a b A l c, v = .agg #[.int .i64 a, .int .i64 b, .slice A l.length c] ∧ (-9223372036854775808 ≤ a ∧ a ≤ 9223372036854775807) ∧ (-9223372036854775808 ≤ b ∧ b ≤ 9223372036854775807) ∧ Us W W.heap.size A l ∧ (∀ x ∈ l, 0 ≤ x ∧ x ≤ 65535) ∧
      ∃ d0 d1 d2, d = .agg [d0, d1, d2] ∧ ((d2 = .nil ∧ l = []) ∨ ∃ e s, d2 = .slice e s ∧ l.length ≤ e.length + s.length) := by
  simp only [Value.okWide, Tryz.underlying26] at hv
  obtain ⟨cs, rfl, hsz, _⟩ := hv
  have h3 : Tryz.prog.cellsOf 26 = 3 := by kernel_rfl
  obtain ⟨c0, c1, c2, rfl⟩ : ∃ c0 c1 c2, cs = #[c0, c1, c2] := by
    have := hsz.trans h3
    obtain ⟨l⟩ := cs
    match l, this with
    | [a, b, c], _ => exact ⟨a, b, c, rfl⟩
  obtain ⟨fuel, hf⟩ := hj
  obtain ⟨y0, y1, y2, n, hx, _, h0, h1, h2⟩ := Go.Deep.trod_struct3 Tryz.underlying26 hf
  have s1 : Tryz.prog.cellsOf 24 = 1 := by kernel_rfl
  simp only [cells_int, s1, Value.cells, List.drop_zero, List.drop_succ_cons, List.take_succ_cons, List.take_zero] at h0 h1 h2
  obtain ⟨a, e0, _, wa⟩ := DataW.trod_int Tryz.underlying3 h0
  obtain ⟨b, e1, _, wb⟩ := DataW.trod_int Tryz.underlying3 h1
  obtain ⟨A, l, c, e2, hb, hk, hd⟩ := samples_cells h2
  simp only [List.cons.injEq, and_true] at e0 e1 e2
  subst e0 e1 e2
  simp only [Prod.mk.injEq] at hx
  exact ⟨a, b, A, l, c, rfl, bounds_i64 wa, bounds_i64 wb, hb, hk, _, _, _, hx.1, hd⟩
set_option maxRecDepth 100000 in
theorem open_color (hv : Value.okWide Tryz.prog W .any base 70 v) (hj : DataW.Trod enc Tryz.prog W 0 (fun _ => true) true 70 v d p) :
    ∃ c : Col, v = .agg #[.int .u16 c.r, .int .u16 c.g, .int .u16 c.b, .int .u16 c.a] := by
  simp only [Value.okWide, Tryz.underlying70] at hv
  obtain ⟨cs, rfl, hsz, _⟩ := hv
  obtain ⟨c0, c1, c2, c3, rfl⟩ : ∃ c0 c1 c2 c3, cs = #[c0, c1, c2, c3] := by
    have := hsz.trans cells_color
    obtain ⟨l⟩ := cs
    match l, this with
    | [a, b, c, d], _ => exact ⟨a, b, c, d, rfl⟩
  obtain ⟨fuel, hf⟩ := hj
  obtain ⟨xs, n, _, _, _, hlen, hf⟩ := DataW.trod_struct Tryz.underlying70 hf
  have hl4 : xs.length = 4 := hlen
  have g : ∀ (i : Nat) (f : Field) (c : Value), f.type = 42 → ((#[c0, c1, c2, c3] : Array Value).toList.drop f.offset).take 1 = [c] → DataW.trod enc Tryz.prog W 0 (fun _ => true) true n f.type (((Value.agg #[c0, c1, c2, c3]).cells.toList.drop f.offset).take (Tryz.prog.cellsOf f.type)) = xs[i]? → i < 4 → ∃ y, DataW.trod enc Tryz.prog W 0 (fun _ => true) true n 42 [c] = some y := by
    intro i f c ht hd h hi
    rw [ht, cells_u16, List.getElem?_eq_getElem (by omega)] at h
    refine ⟨xs[i], ?_⟩
    rw [← hd]
    exact h
  obtain ⟨y0, h0⟩ := g 0 _ c0 rfl rfl (hf 0 _ rfl) (by omega)
  obtain ⟨y1, h1⟩ := g 1 _ c1 rfl rfl (hf 1 _ rfl) (by omega)
  obtain ⟨y2, h2⟩ := g 2 _ c2 rfl rfl (hf 2 _ rfl) (by omega)
  obtain ⟨y3, h3⟩ := g 3 _ c3 rfl rfl (hf 3 _ rfl) (by omega)
  obtain ⟨a, e0, _, wa⟩ := DataW.trod_int Tryz.underlying42 h0
  obtain ⟨b, e1, _, wb⟩ := DataW.trod_int Tryz.underlying42 h1
  obtain ⟨c, e2, _, wc⟩ := DataW.trod_int Tryz.underlying42 h2
  obtain ⟨e, e3, _, we⟩ := DataW.trod_int Tryz.underlying42 h3
  simp only [List.cons.injEq, and_true] at e0 e1 e2 e3
  subst e0 e1 e2 e3
  exact ⟨⟨a, b, c, e⟩, rfl⟩
end
end Go.Proofs.YtfbokhdimffabaaGreatDoor
