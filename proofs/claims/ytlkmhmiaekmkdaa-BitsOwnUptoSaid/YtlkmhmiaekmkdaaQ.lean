/- Contracts of stuffing, the program's and the document's. -/
import Derived.Test.YtlkmhmiaekmkdaaS
import Derived.Handy
import Derived.Deep.LoopGhost
namespace Go.Proofs.Ytlkmhmiaekmkdaa
open Go.ChangeShapes Go.WideShapes Go.ChangeAt Go.RowKit

section
variable {P : Program} (w : World)
/-- append of one byte to a row of the call's own. -/
theorem wpList_append_byte {ops : Array Oper} {rest : List Oper} {o : Oper} {a : Act} {Q : Exit → Act → World → Prop} (hgd : o.guard = none) (s x : Operand) (t : TypeId)
    (ho : o.op = .call { callee := .builtin .append, args := #[s, x], argTypes := #[t, t] })
    (base : Nat) (e : TypeId) (i : TypeInfo) (ht : P.underlying t = some (.slice e)) (hi : P.info? e = some i) (hz : i.zero = some (.int .u8 0))
    (hsize : i.size = 1) (hby : i.bytes = 1) (A : Option Addr) (n c : Nat) (out : List UInt8) (hs : a.eval s = .slice A n c) (hown : w.ownsRow base e 1 (.slice A n c) n (bytesV out))
    (b : UInt8) (g cx : Nat) (hx : a.eval x = .slice (some ⟨g, 0, none⟩) 1 cx) (hcell : w.cell? ⟨g, 0, none⟩ = some (.int .u8 (b.toNat : Int))) (h47 : n + 1 ≤ 140737488355328) (hbase : base ≤ w.heap.size)
    (h : ∀ gd c' w', w'.ownsRow base e 1 (.slice (some ⟨gd, 0, none⟩) (n + 1) c') (n + 1) (bytesV (out ++ [b])) → Below base w w' → w.grownBy w' (Value.slice A n c).ownBlock → wpList P ops Q rest (a.put o.dst (.slice (some ⟨gd, 0, none⟩) (n + 1) c')) w') : wpList P ops Q (o :: rest) a w := by
  refine wpList_append_lies w hgd s x t ho base e i (.int .u8 0) 1 1 ht hi hz hsize hby rfl (by omega) (.slice A n c) n (bytesV out) hs hown ⟨g, 0, none⟩ 1 cx [.int .u8 (b.toNat : Int)] hx rfl ?_ (by simp [Value.oneCell']) (by omega) (by unfold maxLen; omega) (by omega) hbase w.heap.size rfl ?_
  · intro j u hu
    match j, hu with
    | 0, hu => simp at hu; subst hu; simpa [Addr.add] using hcell
  · intro gd c' w' hown' hg _ _
    have e : bytesV (out ++ [b]) = bytesV out ++ [.int .u8 (b.toNat : Int)] := by simp [bytesV, bv]
    refine h gd c' w' (by rw [e]; exact hown') ((Below.refl base w).grown hg hbase (fun k hk => ?_)) hg
    exact (hown.lt k hk).1
end

def stuffL (l : List UInt8) : List UInt8 := l.flatMap fun x => if x = 255 then [255, 0] else [x]
theorem stuffL_take (l : List UInt8) (k : Nat) (hk : k < l.length) : stuffL (l.take (k + 1)) = stuffL (l.take k) ++ if l[k] = 255 then [255, 0] else [l[k]] := by
  rw [List.take_succ_eq_append_getElem hk]
  simp only [stuffL, List.flatMap_append, List.flatMap_cons, List.flatMap_nil, List.append_nil]
theorem stuffL_len (l : List UInt8) : (stuffL l).length ≤ 2 * l.length := by
  induction l with
  | nil => simp [stuffL]
  | cons x r ih =>
    have e : stuffL (x :: r) = (if x = 255 then [255, 0] else [x]) ++ stuffL r := by simp [stuffL]
    rw [e, List.length_append, List.length_cons]
    split <;> simp <;> omega
theorem stuffL_len_take (l : List UInt8) (k : Nat) : (stuffL (l.take k)).length ≤ 2 * k := by
  have := stuffL_len (l.take k)
  have h2 : (l.take k).length ≤ k := List.length_take_le _ _
  omega
theorem beq_255 (x : UInt8) (h : x = 255) : ((x.toNat : Int) == 255) = true := by subst h; rfl
theorem bne_255 (x : UInt8) (h : ¬ x = 255) : ((x.toNat : Int) == 255) = false := by
  have : x.toNat ≠ 255 := fun e => h (UInt8.toNat_inj.mp (by simpa using e))
  simp; omega

def StuffRes (w : World) (l' : List UInt8) (e : Ending) (w' : World) : Prop :=
  ∃ A' n c', e = .returned (.slice A' n c') ∧ w'.ownsRow w.heap.size 5 1 (.slice A' n c') n (bytesV l') ∧ Below w.heap.size w w'
def StuffAt (w : World) (l : List UInt8) (k : Nat) (v : Value) (wr : World) : Prop :=
  ∃ A n c, v = .slice A n c ∧ wr.ownsRow w.heap.size 5 1 (.slice A n c) n (bytesV (stuffL (l.take k))) ∧ Below w.heap.size w wr

set_option maxHeartbeats 1000000 in
set_option maxRecDepth 100000 in
theorem stuff_any (A : Option Addr) (c : Nat) (l : List UInt8) (w : World) (h : Bs w w.heap.size A l) (hl : l.length ≤ 70368744177664) :
    Calls Try.prog 34 #[.slice A l.length c] w (StuffRes w (stuffL l)) := by
  obtain ⟨i0, hi, hz0, hz1, hz2⟩ := info_parts info_u8
  go_enter Try.func34, Try.ntmps34
  go_wp2_with fail
  go_loopw [3, 8] (fun v i wr => ∃ k : Nat, k ≤ l.length ∧ i = .int .i64 k ∧ StuffAt w l k v wr) (fun _ i _ => l.length - (intOf i).toNat)
  case atStart => exact ⟨0, by omega, rfl, none, 0, 0, rfl, by simpa [stuffL, bytesV] using World.ownsRow_nil w w.heap.size 5 1, Below.refl _ _⟩
  case round =>
    obtain ⟨k, hk, rfl, A1, n1, c1, rfl, hO, hB⟩ := hrel
    have hn1 : n1 = (stuffL (l.take k)).length := by have := hO.1; rw [bytesV_length] at this; omega
    have hn2 : n1 ≤ 2 * k := by rw [hn1]; exact stuffL_len_take l k
    have HO := Lib.hid hO; clear hO
    have HB := Lib.hid hB; clear hB
    clear hn1
    by_cases hlt : k < l.length
    · obtain ⟨ad, rfl, hadb, hcb⟩ := (h.below HB.out).at_ hlt
      have hx := byte_lt l[k]
      have HT := Lib.hid (stuffL_take l k hlt)
      have hBs := HB.out.size
      by_cases h255 : l[k] = 255
      · have d1 := beq_255 _ h255
        have H255 := Lib.hid h255; clear h255
        go_wp2_with (first | (at_builtin; refine wpList_append_byte _ rfl (.tmp 12) (.tmp 14) _ rfl w.heap.size 5 i0 Try.underlying22 hi hz0 hz1 hz2 A1 n1 c1 _ rfl (HO.out.alloc _) l[k] wr.heap.size 1 rfl ((Blk.new _ _ _).cell 0) (by omega) (by simp; omega) ?_; intro gd c2 w2 hO2 hB2 _) | (at_builtin; refine wpList_append_byte _ rfl (.tmp 18) (.tmp 19) _ rfl w.heap.size 5 i0 Try.underlying22 hi hz0 hz1 hz2 (some ⟨gd, 0, none⟩) (n1 + 1) c2 _ rfl (hO2.alloc _) 0 w2.heap.size 1 rfl ((Blk.new _ _ _).cell 0) (by omega) (by have := hB2.size; simp at this ⊢; omega) ?_; intro gd3 c3 w3 hO3 hB3 _))
        go_roundw
        case rel =>
          have hB4 : Below w.heap.size w w3 := (((HB.out.alloc hBs _).trans hB2).alloc (by have := hB2.size; simp at this; omega) _).trans hB3
          have e : stuffL (l.take (k + 1)) = stuffL (l.take k) ++ [l[k]] ++ [0] := by rw [HT.out, if_pos H255.out, H255.out]; simp
          exact ⟨k + 1, by omega, by go_num, _, _, _, rfl, by rw [e]; exact hO3, hB4⟩
        case measure => simp [intOf]; omega
      · have d1 := bne_255 _ h255
        have H255 := Lib.hid h255; clear h255
        go_wp2_with (at_builtin; refine wpList_append_byte _ rfl (.tmp 12) (.tmp 14) _ rfl w.heap.size 5 i0 Try.underlying22 hi hz0 hz1 hz2 A1 n1 c1 _ rfl (HO.out.alloc _) l[k] wr.heap.size 1 rfl ((Blk.new _ _ _).cell 0) (by omega) (by simp; omega) ?_; intro gd c2 w2 hO2 hB2 _)
        go_roundw
        case rel =>
          have hB4 : Below w.heap.size w w2 := (HB.out.alloc hBs _).trans hB2
          have e : stuffL (l.take (k + 1)) = stuffL (l.take k) ++ [l[k]] := by rw [HT.out, if_neg H255.out]
          exact ⟨k + 1, by omega, by go_num, _, _, _, rfl, by rw [e]; exact hO2, hB4⟩
        case measure => simp [intOf]; omega
    · have hkn : k = l.length := by omega
      subst hkn
      have HR : Hid (StuffRes w (stuffL l) (.returned (.slice A1 n1 c1)) wr) := Lib.hid ⟨A1, n1, c1, rfl, by have := HO.out; rwa [List.take_length] at this, HB.out⟩
      go_wp2_with fail
      go_ret
      exact HR.out
set_option maxHeartbeats 1000000 in
set_option maxRecDepth 100000 in
theorem refStuff_any (A : Option Addr) (c : Nat) (l : List UInt8) (w : World) (h : Bs w w.heap.size A l) (hl : l.length ≤ 70368744177664) :
    Calls Try.prog 37 #[.slice A l.length c] w (StuffRes w (stuffL l)) := by
  obtain ⟨i0, hi, hz0, hz1, hz2⟩ := info_parts info_u8
  go_enter Try.func37, Try.ntmps37
  go_wp2_with fail
  go_loopw [3, 4] (fun v i wr => ∃ k : Nat, k ≤ l.length ∧ i = .int .i64 k ∧ StuffAt w l k v wr) (fun _ i _ => l.length - (intOf i).toNat)
  case atStart => exact ⟨0, by omega, rfl, none, 0, 0, rfl, by simpa [stuffL, bytesV] using World.ownsRow_nil w w.heap.size 5 1, Below.refl _ _⟩
  case round =>
    obtain ⟨k, hk, rfl, A1, n1, c1, rfl, hO, hB⟩ := hrel
    have hn1 : n1 = (stuffL (l.take k)).length := by have := hO.1; rw [bytesV_length] at this; omega
    have hn2 : n1 ≤ 2 * k := by rw [hn1]; exact stuffL_len_take l k
    have HO := Lib.hid hO; clear hO
    have HB := Lib.hid hB; clear hB
    clear hn1
    by_cases hlt : k < l.length
    · obtain ⟨ad, rfl, hadb, hcb⟩ := (h.below HB.out).at_ hlt
      have hx := byte_lt l[k]
      have HT := Lib.hid (stuffL_take l k hlt)
      have hBs := HB.out.size
      have hadb2 : (ad.add k).block < w.heap.size := by rw [block_of_add]; exact hadb
      have HC := Lib.hid hcb
      by_cases h255 : l[k] = 255
      · have d1 := beq_255 _ h255
        have H255 := Lib.hid h255; clear h255
        go_wp2_with (first | (at_builtin; refine wpList_append_byte _ rfl (.tmp 11) (.tmp 16) _ rfl w.heap.size 5 i0 Try.underlying22 hi hz0 hz1 hz2 A1 n1 c1 _ rfl (HO.out.alloc _) l[k] wr.heap.size 1 rfl ((Blk.new _ _ _).cell 0) (by omega) (by simp; omega) ?_; intro gd c2 w2 hO2 hB2 _; have hcb2 := (hB2.cell hadb2).trans (((Below.refl w.heap.size wr).alloc hBs _).cell hadb2 |>.trans HC.out)) | (at_builtin; refine wpList_append_byte _ rfl (.tmp 23) (.tmp 24) _ rfl w.heap.size 5 i0 Try.underlying22 hi hz0 hz1 hz2 (some ⟨gd, 0, none⟩) (n1 + 1) c2 _ rfl (hO2.alloc _) 0 w2.heap.size 1 rfl ((Blk.new _ _ _).cell 0) (by omega) (by have := hB2.size; simp at this ⊢; omega) ?_; intro gd3 c3 w3 hO3 hB3 _))
        go_roundw
        case rel =>
          have hB4 : Below w.heap.size w w3 := (((HB.out.alloc hBs _).trans hB2).alloc (by have := hB2.size; simp at this; omega) _).trans hB3
          have e : stuffL (l.take (k + 1)) = stuffL (l.take k) ++ [l[k]] ++ [0] := by rw [HT.out, if_pos H255.out, H255.out]; simp
          exact ⟨k + 1, by omega, by go_num, _, _, _, rfl, by rw [e]; exact hO3, hB4⟩
        case measure => simp [intOf]; omega
      · have d1 := bne_255 _ h255
        have H255 := Lib.hid h255; clear h255
        go_wp2_with (at_builtin; refine wpList_append_byte _ rfl (.tmp 11) (.tmp 16) _ rfl w.heap.size 5 i0 Try.underlying22 hi hz0 hz1 hz2 A1 n1 c1 _ rfl (HO.out.alloc _) l[k] wr.heap.size 1 rfl ((Blk.new _ _ _).cell 0) (by omega) (by simp; omega) ?_; intro gd c2 w2 hO2 hB2 _; have hcb2 := (hB2.cell hadb2).trans (((Below.refl w.heap.size wr).alloc hBs _).cell hadb2 |>.trans HC.out))
        go_roundw
        case rel =>
          have hB4 : Below w.heap.size w w2 := (HB.out.alloc hBs _).trans hB2
          have e : stuffL (l.take (k + 1)) = stuffL (l.take k) ++ [l[k]] := by rw [HT.out, if_neg H255.out]
          exact ⟨k + 1, by omega, by go_num, _, _, _, rfl, by rw [e]; exact hO2, hB4⟩
        case measure => simp [intOf]; omega
    · have hkn : k = l.length := by omega
      subst hkn
      have HR : Hid (StuffRes w (stuffL l) (.returned (.slice A1 n1 c1)) wr) := Lib.hid ⟨A1, n1, c1, rfl, by have := HO.out; rwa [List.take_length] at this, HB.out⟩
      go_wp2_with fail
      go_ret
      exact HR.out
end Go.Proofs.Ytlkmhmiaekmkdaa
