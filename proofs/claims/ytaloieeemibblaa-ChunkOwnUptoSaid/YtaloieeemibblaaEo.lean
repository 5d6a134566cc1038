/- Chunks in memory; may they be put together? -/
import Derived.Test.YtaloieeemibblaaEn
import Derived.Test.YtaloieeemibblaaJ
set_option linter.unusedVariables false
set_option linter.unusedSimpArgs false
namespace Go.Proofs.Ytaloieeemibblaa
open Go.ChangeShapes Go.WideShapes Go.ChangeAt Go.RowKit

/-- A chunk: its type, its data. -/
structure Ck where
  t : ByteArray
  d : List UInt8
/-- The slice value '.slice A l.length c' reads as these chunks, below block B. -/
def Cks (w : World) (B : Nat) (A : Option Addr) (l : List Ck) : Prop :=
  0 < l.length → ∃ b off, A = some ⟨b, off, none⟩ ∧ b < B ∧ ∀ (j : Nat) (hj : j < l.length),
    w.cell? ⟨b, off + j * 2, none⟩ = some (.string l[j].t) ∧ ∃ D c, w.cell? ⟨b, off + j * 2 + 1, none⟩ = some (.slice D l[j].d.length c) ∧ Bs w B D l[j].d
theorem Cks.below {w w' : World} {B : Nat} {A : Option Addr} {l : List Ck} (h : Cks w B A l) (hb : Below B w w') : Cks w' B A l := fun hn => by
  obtain ⟨b, off, e, hlt, hc⟩ := h hn
  refine ⟨b, off, e, hlt, fun j hj => ?_⟩
  obtain ⟨h1, D, c, h2, h3⟩ := hc j hj
  exact ⟨(hb.cell (p := ⟨b, off + j * 2, none⟩) hlt).trans h1, D, c, (hb.cell (p := ⟨b, off + j * 2 + 1, none⟩) hlt).trans h2, h3.below hb⟩
/-- Is it the end's type? -/
def isE (s : ByteArray) : Bool := s.toList == [73, 69, 78, 68]
/-- May the chunk at i of n stand there? -/
def ckB (n : Nat) (l : List Ck) (i : Nat) : Bool := match l[i]? with
  | some k => tyB (sb k.t) && (isE k.t == decide (i + 1 = n))
  | none => true
def jokB (l : List Ck) : Bool := (List.range l.length).all (ckB l.length l) && decide (0 < l.length)
theorem range_all_next {n : Nat} {f : Nat → Bool} {k : Nat} (h : (List.range k).all f = true) (hx : f k = true) : (List.range (k + 1)).all f = true := by
  rw [List.range_succ, List.all_append, h]
  simp [hx]
theorem range_all_no {n : Nat} {f : Nat → Bool} {k : Nat} (hk : k < n) (hx : f k = false) : (List.range n).all f = false := by
  rw [List.all_eq_false]
  exact ⟨k, List.mem_range.2 hk, by rw [hx]; simp⟩
set_option maxRecDepth 100000 in
set_option maxHeartbeats 4000000 in
theorem mayBeJoined_any (A : Option Addr) (n c : Nat) (l : List Ck) (hn : l.length = n) (hm : n ≤ 17592186043904) (hts : ∀ k ∈ l, k.t.size ≤ 140737488355328) (B : Nat) (w : World) (h : Cks w B A l) (hB : B ≤ w.heap.size) :
    Calls Try.prog 34 #[.slice A n c] w fun e w' => e = .returned (.bool (jokB l)) ∧ Below w.heap.size w w' := by
  have HN := Lib.hid hn
  have HC := Lib.hid h
  go_enter Try.func34, Try.ntmps34
  go_wp2_with fail
  go_loopw [7] (fun i wr => ∃ k : Nat, k ≤ n ∧ i = .int .i64 (k : Int) ∧ (List.range k).all (ckB n l) = true ∧ Below w.heap.size w wr) (fun i _ => n - (intOf i).toNat)
  case atStart => exact ⟨0, Nat.zero_le _, rfl, rfl, Below.refl _ _⟩
  case round =>
    obtain ⟨k, hk, rfl, hall, hb⟩ := hrel
    have hs := hb.size
    by_cases hlt : k < n
    · have hkl : k < l.length := by omega
      obtain ⟨b, off, rfl, hbB, hc⟩ := (HC.out.below (hb.mono hB)) (by omega)
      obtain ⟨c1, D, cd, c2, _⟩ := hc k hkl
      have HCK : Hid (ckB n l k = (tyB (sb l[k].t) && (isE l[k].t == decide (k + 1 = n)))) := Lib.hid (by unfold ckB; rw [List.getElem?_eq_getElem hkl])
      have HNX := Lib.hid (fun h => range_all_next (n := n) hall h)
      have HBAD : Hid (ckB n l k = false → jokB l = false) := Lib.hid (fun h => by unfold jokB; rw [HN.out, range_all_no hlt h]; rfl)
      have HTY := Lib.hid (fun wz => isType_any l[k].t _ rfl (hts _ (List.getElem_mem hkl)) wz)
      have hbx := hb.alloc hs (.cells #[.string l[k].t, .slice D l[k].d.length cd] 57)
      have hnb := Blk.new wr 57 #[.string l[k].t, .slice D l[k].d.length cd]
      generalize l[k].t = s at *
      generalize l[k].d.length = dn at *
      clear hc hall h
      go_upto_region 4 with (fail)
      have p0 : (wr.alloc (.cells #[.string s, .slice D dn cd] 57)).cell? ⟨wr.heap.size, 0, none⟩ = some (.string s) := hnb.cell 0
      generalize wr.alloc (.cells #[.string s, .slice D dn cd] 57) = w1 at *
      have hs1 := hbx.size
      have hlt1 := hnb.lt
      have HNB := Lib.hid hnb; have HBX := Lib.hid hbx
      clear hnb hbx
      generalize wr.heap.size = pb at *
      go_wp2_with fail
      refine (HTY.out _).mono ?_
      rintro e w2 ⟨rfl, hb2⟩
      have q0 : w2.cell? ⟨pb, 0, none⟩ = some (.string s) := (HNB.out.upd (Upd.of_fresh hb2) id).cell 0
      have HB2 := Lib.hid (HBX.out.trans (hb2.mono hs1))
      clear hb2 p0
      cases hty : tyB (sb s) with
      | false =>
        rw [hty] at HCK
        have HFL := Lib.hid (HBAD.out (by rw [HCK.out]; rfl))
        clear HNX HBAD HCK hty
        go_wp2_with fail
        go_ret
        exact ⟨ret_bool HFL.out.symm, HB2.out⟩
      | true =>
        rw [hty, Bool.true_and] at HCK
        clear hty
        have HPOS : Hid (((k : Int) == (n : Int) - 1) = decide (k + 1 = n)) := Lib.hid (by
          rw [Bool.eq_iff_iff]
          simp only [beq_iff_eq, decide_eq_true_eq]
          omega)
        have HE : Hid (isE s = (s.toList == [73, 69, 78, 68])) := Lib.hid rfl
        go_wp2_with fail
        · rename_i hx
          go_ret
          refine ⟨ret_bool (HBAD.out ?_).symm, HB2.out⟩
          rw [HCK.out, HE.out, ← HPOS.out]
          simpa using hx
        · rename_i hx
          go_roundw
          case rel =>
            refine ⟨k + 1, by omega, by go_num, HNX.out ?_, HB2.out⟩
            rw [HCK.out, HE.out, ← HPOS.out]
            simpa using hx
          case measure => simp [intOf]; omega
    · obtain rfl : n = k := by omega
      have HJ : Hid (jokB l = decide (0 < n)) := Lib.hid (by unfold jokB; rw [HN.out, hall]; rfl)
      go_wp2_with fail
      go_ret
      refine ⟨ret_bool ?_, hb⟩
      rw [HJ.out]
end Go.Proofs.Ytaloieeemibblaa
