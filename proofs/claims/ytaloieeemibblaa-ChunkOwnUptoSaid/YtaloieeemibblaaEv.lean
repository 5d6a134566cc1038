/- The chunks that bytes begin with, one behind the other: the iterator. -/
import Derived.Test.YtaloieeemibblaaEu
import Derived.Test.YtaloieeemibblaaSk
set_option linter.unusedVariables false
set_option linter.unusedSimpArgs false
namespace Go.Proofs.Ytaloieeemibblaa
open Go.ChangeShapes Go.WideShapes Go.ChangeAt Go.RowKit Go.Shelf
attribute [local go_sem] Oper.semAt_some

/-- Where the chunk at k begins. -/
def offs (l : List UInt8) : Nat → Nat
  | 0 => 0
  | k + 1 => offs l k + (be4 (l.drop (offs l k)) 0 + 12)
def restC (l : List UInt8) (k : Nat) : List UInt8 := l.drop (offs l k)
theorem restC_succ (l : List UInt8) (k : Nat) : restC l (k + 1) = (restC l k).drop (be4 (restC l k) 0 + 12) := by
  unfold restC
  rw [offs, List.drop_drop]
theorem ok_fits {l : List UInt8} (h : firstOk l = true) : be4 l 0 ≤ 2147483647 ∧ be4 l 0 + 12 ≤ l.length := by
  unfold firstOk fits at h
  simp only [Bool.and_eq_true, decide_eq_true_eq] at h
  exact ⟨h.1.2.1, h.1.2.2⟩
/-- What the iterator gives: a chunk's type, its data, and the block that what it laid in its round begins at. -/
structure It where
  t : ByteArray
  A : Option Addr
  n : Nat
  c : Nat
  lo : Nat
abbrev It.v (x : It) : Value := .slice x.A x.n x.c
def itC (x : It) : Array Value := #[.agg #[.string x.t, .slice x.A x.n x.c]]
/-- The chunk at k of these bytes. -/
def typC (l : List UInt8) (k : Nat) : ByteArray := ⟨((sumOf (restC l k)).take 4).toArray⟩
def datC (l : List UInt8) (k : Nat) : List UInt8 := (sumOf (restC l k)).drop 4
def slN : Value → Nat
  | .slice _ n _ => n
  | _ => 0
theorem chunks_any (w : World) (A : Option Addr) (m c : Nat) : Calls Try.prog 29 #[.slice A m c] w fun e w' => e = .returned (.func (.func 49) #[] #[.pointer (some ⟨w.heap.size, 0, none⟩)]) ∧ w' = w.alloc (.cells #[.slice A m c] 22) := by
  go_enter Try.func29, Try.ntmps29
  go_wp2_with fail
  go_ret
  exact ⟨rfl, rfl⟩
set_option maxRecDepth 100000 in
set_option maxHeartbeats 4000000 in
theorem chunks_in (n : Nat) (_ : 1 ≤ n) (l b m c N : Nat) (A : Option Addr) (lb : List UInt8) (hm : lb.length = m) (hmc : m ≤ c) (hcx : c ≤ maxLen) (hmb : m ≤ 140737488355328) (B : Nat) (hok : ∀ k, k < N → firstOk (restC lb k) = true) (hno : firstOk (restC lb N) = false) (I : Nat → World → Prop) (R Jx : World → Prop)
    (hI : ∀ k V, I k V → V.cell? ⟨b, 0, none⟩ = some (.slice A m c) ∧ Bs V B A lb ∧ B ≤ V.heap.size)
    (hIB : ∀ k V V', I k V → Below V.heap.size V V' → I k V') (hRB : ∀ V V', R V → Below V.heap.size V V' → R V')
    (hY : ∀ k x V0 V, k < N → I k V0 → R V → Below V0.heap.size V0 V → x.lo = V0.heap.size → x.t = typC lb k → x.n = be4 (restC lb k) 0 → V.ownsRow V0.heap.size 5 1 x.v x.n (bytesV (datC lb k)) →
      YieldAt Fence.wide (n - 1) Try.prog l (itC x) V fun e V' => (e = .returned (.bool true) ∧ I (k + 1) V' ∧ R V' ∧ KeepsLo x.lo V V') ∨ (e = .returned (.bool false) ∧ Jx V'))
    (V : World) (h0 : I 0 V) (hR : R V) :
    CallsIn Fence.wide n Try.prog 49 #[.func (.yield l) #[] #[], .pointer (some ⟨b, 0, none⟩)] V fun e V' => (∃ v, e = .returned v) ∧ ((I N V' ∧ R V') ∨ Jx V') := by
  refine callsIn_of_wp Try.func49 rfl trivial ?_ rfl
  simp only [Try.ntmps49, List.size_toArray, List.length_cons, List.length_nil, Nat.reduceAdd, Nat.reduceSub, Array.replicate_succ, Array.replicate_zero, List.push_toArray, List.append_toArray, List.nil_append, List.cons_append]
  have hmix : Try.prog.follows .mixedOrders = true := by kernel_rfl
  obtain ⟨kb, _, _⟩ := hI 0 V h0
  gi_wp2_with fail
  clear kb
  gi_loopw [3] (fun v wr => ∃ (k : Nat) (Ak : Option Addr) (mk ck : Nat), k ≤ N ∧ v = .slice Ak mk ck ∧ (restC lb k).length = mk ∧ mk ≤ ck ∧ ck ≤ maxLen ∧ mk ≤ m ∧ Hid (∀ W, Bs W B A lb → Bs W B Ak (restC lb k)) ∧ I k wr ∧ R wr) (fun v _ => slN v)
  case atStart => exact ⟨0, A, m, c, Nat.zero_le _, rfl, hm, hmc, hcx, Nat.le_refl _, Lib.hid (fun W h => h), h0, hR⟩
  case round =>
    obtain ⟨k, Ak, mk, ck, hk, rfl, hmk, hmck, hckx, hmkm, HBS, hIk, hRk⟩ := hrel
    obtain ⟨_, bs, hB⟩ := hI k wr hIk
    have HF := Lib.hid (fun W (h1 : Bs W B Ak (restC lb k)) (h2 : B ≤ W.heap.size) => first_any Ak mk ck (restC lb k) hmk hmck hckx (by omega) B W h1 h2)
    have HIK := Lib.hid (And.intro hIk (And.intro hRk bs))
    clear bs hIk hRk hI
    gi_wp2_with fail
    refine ⟨trivial, (callsIn_wide.2 (HF.out wr (HBS.out _ HIK.out.2.2) hB)).mono ?_⟩
    rintro e w1 ⟨hb1, hfn, hfy⟩
    cases hfk : firstOk (restC lb k) with
    | false =>
      obtain rfl := hfn hfk
      have hkN : k = N := by
        rcases Nat.lt_or_ge k N with h | h
        · rw [hok k h] at hfk; cases hfk
        · omega
      subst hkN
      have HE : Hid (∀ o, I k (w1.alloc o) ∧ R (w1.alloc o)) := Lib.hid (fun o => ⟨hIB k wr _ HIK.out.1 (hb1.alloc hb1.size o), hRB wr _ HIK.out.2.1 (hb1.alloc hb1.size o)⟩)
      clear hfn hfy hfk hY hIB hRB hok hno h0 hR
      gi_wp2_with (refine ⟨fun f h => (by cases h), ?_⟩)
      refine bodyPost_ret (results_none rfl _ _ _) rfl ?_
      exact ⟨⟨_, rfl⟩, .inl (HE.out _)⟩
    | true =>
      obtain ⟨A', c', rfl, o1⟩ := hfy hfk
      have hkN : k < N := by
        rcases Nat.lt_or_ge k N with h | h
        · exact h
        · obtain rfl : k = N := by omega
          rw [hno] at hfk; cases hfk
      obtain ⟨hn31, hnl⟩ := ok_fits hfk
      rw [hmk] at hnl
      have HD : Hid (be4 (restC lb k) 0 = be4 (restC lb k) 0) := Lib.hid rfl
      have hy := hY k ⟨typC lb k, A', be4 (restC lb k) 0, c', wr.heap.size⟩ wr (w1.alloc (.cells #[.string (typC lb k), .slice A' (be4 (restC lb k) 0) c'] 57)) hkN HIK.out.1 (hRB wr _ HIK.out.2.1 (hb1.alloc hb1.size _)) (hb1.alloc hb1.size _) rfl rfl rfl (own_upd o1 ((Upd.refl No w1).alloc _) (fun _ _ => id))
      obtain ⟨fn, tmps, assign, body, hy, hRd⟩ := hy
      dsimp only [itC] at hy
      have HYD := Lib.hid (yield_one hRd)
      have hnb := Blk.new w1 57 #[.string (typC lb k), .slice A' (be4 (restC lb k) 0) c']
      have hs1 := hb1.size
      have HTY : Hid ((⟨((sumOf (restC lb k)).take 4).toArray⟩ : ByteArray) = typC lb k) := Lib.hid rfl
      rw [HTY.out]
      have HNX : Hid (∀ W, Bs W B A lb → Bs W B (if ck = be4 (restC lb k) 0 + 12 then Ak else Ak.map (·.add (be4 (restC lb k) 0 + 12))) (restC lb (k + 1))) := Lib.hid (fun W h => by
        rw [restC_succ]
        exact (HBS.out W h).drop (by omega) (by omega))
      have HNL : Hid ((restC lb (k + 1)).length = mk - (be4 (restC lb k) 0 + 12)) := Lib.hid (by rw [restC_succ, List.length_drop, hmk])
      clear hY hRd hfn hfy hfk hok hno h0 hR o1 HD HTY hmk
      generalize typC lb k = ty at *
      generalize be4 (restC lb k) 0 = nn at *
      gi_wp2_with fail
      with_reducible refine RoundIn.mono HYD.out ?_
      rintro e w4 ⟨bb, rfl, hb1, hb2⟩
      have HB1 := Lib.hid hb1; have HB2 := Lib.hid hb2
      clear hb1 hb2 hy HYD
      have kc4 : bb = true → w4.cell? ⟨w1.heap.size, 1, none⟩ = some (.slice A' nn c') := fun h => ((HB1.out h).2.2 _ _ _ hs1 hnb).cell 1
      cases bb with
      | true =>
        have kc5 := kc4 rfl
        have HBB := Lib.hid (HB1.out rfl)
        clear kc4 HB1 HB2 hnb
        have i1 : (8 + (nn : Int) + 4) ≤ (ck : Int) := by omega
        have i2 : (8 + (nn : Int) + 4) ≤ (mk : Int) := by omega
        have i3 : 0 ≤ (8 + (nn : Int) + 4) := by omega
        gi_wp2_with fail
        rw [show 8 + nn + 4 = nn + 12 by omega]
        go_roundw
        case rel => exact ⟨k + 1, _, _, _, by omega, rfl, HNL.out, by omega, by omega, by omega, HNX, HBB.out.1, HBB.out.2.1⟩
        case measure => simp only [slN]; omega
      | false =>
        gi_wp2_with fail
        refine bodyPost_ret (results_none rfl _ _ _) rfl ?_
        exact ⟨⟨_, rfl⟩, .inr (HB2.out (by trivial))⟩
end Go.Proofs.Ytaloieeemibblaa
