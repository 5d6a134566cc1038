/- The map of colours that were met: how often each. -/
import Derived.Test.YtkfomjdmdgddlaaQm
import Derived.Test.YtkfomjdmdgddlaaRo
import Derived.Maps.OwnOps
import Derived.Maps.OwnSet
import Derived.Maps.Views
import Derived.DeepKeys4
import Derived.WideKeyEntry
namespace Go.Proofs.Ytkfomjdmdgddlaa
open Go.ChangeShapes Go.WideShapes Go.ChangeAt Go.RowKit
open Go.Maps (Keyed)
open Go.MapKept Go.WideElems Go.ChangeMaps

theorem row_color : (30 : TypeId) < Try.prog.types.size := of_decide_eq_true (by kernel_rfl)
theorem key_law : Keyed Try.prog 30 := Keyed.of_law (deep_law_laid prog_laid (m := 3) (by omega) row_color (by kernel_rfl) (by rw [Try.underlying30]))
theorem keyType_color : Try.prog.keyType 30 = true := by kernel_rfl
theorem cells_color : Try.prog.cellsOf 30 = 4 := by kernel_rfl
theorem cells_u16 : Try.prog.cellsOf 28 = 1 := by kernel_rfl
/-- A colour whose samples are samples. -/
def ColB (x : Col) : Prop := (0 ≤ x.r ∧ x.r ≤ 65535) ∧ (0 ≤ x.g ∧ x.g ≤ 65535) ∧ (0 ≤ x.b ∧ x.b ≤ 65535) ∧ (0 ≤ x.a ∧ x.a ≤ 65535)
theorem wf_u16 {x : Int} (h : 0 ≤ x ∧ x ≤ 65535) : (Lit.int .u16 x).wf = true := by
  simp [Lit.wf, IntKind.min, IntKind.max, IntKind.signed, IntKind.bits]
  omega
theorem key_of (x : Col) (h : ColB x) : ∃ l, keyOf Try.prog 30 (colV x) = some l := by
  obtain ⟨h1, h2, h3, h4⟩ := h
  have g1 := wf_u16 h1; have g2 := wf_u16 h2; have g3 := wf_u16 h3; have g4 := wf_u16 h4
  have hf : (colV x).formed Try.prog 30 = true := by
    simp [Value.formed, Try.underlying30, cells_color]
  have hrow : (30 : Nat) < Try.prog.types.size := row_color
  obtain ⟨m, hm⟩ : ∃ m, Try.prog.types.size + 1 = m + 2 := ⟨Try.prog.types.size - 1, by omega⟩
  have hl : Try.prog.keyLits (Try.prog.types.size + 1) 30 (colV x).cells.toList = some [.int .u16 x.r, .int .u16 x.g, .int .u16 x.b, .int .u16 x.a] := by
    rw [hm]
    unfold Program.keyLits
    rw [Try.underlying30]
    simp [Value.cells, cells_color, cells_u16, Program.keyLits, Try.underlying28, g1, g2, g3, g4]
  unfold keyOf
  rw [Try.underlying30]
  simp only [keyType_color, hf, hl, Bool.and_self, if_true, Option.map_some]
  exact ⟨_, rfl⟩
theorem colV_inj {x y : Col} (h : colV x = colV y) : x = y := by
  injection h with h
  have h0 := congrArg (·[0]?) h; have h1 := congrArg (·[1]?) h; have h2 := congrArg (·[2]?) h; have h3 := congrArg (·[3]?) h
  simp at h0 h1 h2 h3
  exact Col.ext_ h0 h1 h2 h3
/-- The map in block gm: each colour of L at least once, none more often than b times. -/
def MI (es : Array MapEntry) (clock : Nat) (L : List Col) (b : Nat) : Prop :=
  Stamped es clock ∧ (∀ e ∈ es.toList, ∃ x n, x ∈ L ∧ e.key = colV x ∧ e.val = .int .i64 ((n : Nat) : Int) ∧ 1 ≤ n ∧ n ≤ b) ∧ ∀ x ∈ L, ∃ e ∈ es.toList, e.key = colV x
theorem MI.nil (b : Nat) : MI #[] 0 [] b := ⟨stamped_empty 0, fun e he => by simp at he, fun x hx => by cases hx⟩
theorem MI.mono {es : Array MapEntry} {clock : Nat} {L : List Col} {b b' : Nat} (h : MI es clock L b) (hb : b ≤ b') : MI es clock L b' :=
  ⟨h.1, fun e he => by obtain ⟨x, n, h1, h2, h3, h4, h5⟩ := h.2.1 e he; exact ⟨x, n, h1, h2, h3, h4, by omega⟩, h.2.2⟩
theorem MI.keyed {es : Array MapEntry} {clock : Nat} {L : List Col} {b : Nat} (h : MI es clock L b) (hL : ∀ x ∈ L, ColB x) : ∀ e ∈ es.toList, ∃ l, keyOf Try.prog 30 e.key = some l := fun e he => by
  obtain ⟨x, n, h1, h2, _⟩ := h.2.1 e he
  rw [h2]; exact key_of x (hL x h1)
/-- How often a colour was met. -/
def MpCnt (w : World) (gm : Nat) (x : Col) (n : Nat) : Prop := (Instr.lookup 84 (.map (some gm)) (colV x) false).run Try.prog w = .ok (.int .i64 (n : Int)) w
theorem nodup_key {l : List MapEntry} (h : (l.map (·.key)).Nodup) {e e' : MapEntry} (he : e ∈ l) (he' : e' ∈ l) (hk : e.key = e'.key) : e = e' := by
  induction l with
  | nil => cases he
  | cons a r ih =>
    simp only [List.map_cons, List.nodup_cons] at h
    rcases List.mem_cons.1 he with rfl | h1
    · rcases List.mem_cons.1 he' with rfl | h2
      · rfl
      · exact absurd (List.mem_map.2 ⟨e', h2, hk.symm⟩) h.1
    · rcases List.mem_cons.1 he' with rfl | h2
      · exact absurd (List.mem_map.2 ⟨e, h1, hk⟩) h.1
      · exact ih h.2 h1 h2
/-- Looked up: a colour that is the key of an entry, or of none. -/
theorem cnt_of {w : World} {gm : Nat} {es : Array MapEntry} {clock : Nat} (hb : w.heap[gm]? = some (.map es clock)) (hk : ∀ e ∈ es.toList, ∃ l, keyOf Try.prog 30 e.key = some l) (hn : (es.toList.map (·.key)).Nodup) (x : Col) (hx : ColB x) (n : Nat)
    (h : (n = 0 ∧ ∀ e ∈ es.toList, e.key ≠ colV x) ∨ ∃ e ∈ es.toList, e.key = colV x ∧ e.val = .int .i64 (n : Int)) : MpCnt w gm x n := by
  obtain ⟨l, hl⟩ := key_of x hx
  have ht := Try.underlying84
  unfold MpCnt
  rcases key_law.find w hl es.toList hk with ⟨h1, h2⟩ | ⟨j, e, h1, h2, h3⟩
  · rcases h with ⟨rfl, _⟩ | ⟨e, he, he2, _⟩
    · simp [Instr.lookup, run_underlying ht, MapKept.run_getObj_map hb, key_law.check w _ hl, h1, Result.andThen]
    · exact absurd he2 (h2 e he)
  · have hm : e ∈ es.toList := List.mem_of_getElem? h2
    rcases h with ⟨rfl, h⟩ | ⟨e', he, he2, he3⟩
    · exact absurd h3 (h e hm)
    · have : e = e' := nodup_key hn hm he (h3.trans he2.symm)
      subst this
      simp [Instr.lookup, run_underlying ht, MapKept.run_getObj_map hb, key_law.check w _ hl, h1, he3, Result.andThen]
theorem MI.cnt {w : World} {gm : Nat} {es : Array MapEntry} {clock : Nat} {L : List Col} {b : Nat} (h : MI es clock L b) (hL : ∀ x ∈ L, ColB x) (hb : w.heap[gm]? = some (.map es clock)) (x : Col) (hx : ColB x) : ∃ n, MpCnt w gm x n ∧ (n = 0 ↔ x ∉ L) ∧ n ≤ b := by
  by_cases hxL : x ∈ L
  · obtain ⟨e, he, hk⟩ := h.2.2 x hxL
    obtain ⟨y, n, _, h2, h3, h4, h5⟩ := h.2.1 e he
    refine ⟨n, cnt_of hb (h.keyed hL) h.1.2.2 x hx n (.inr ⟨e, he, hk, h3⟩), ⟨fun h0 => by omega, fun h0 => absurd hxL h0⟩, h5⟩
  · refine ⟨0, cnt_of hb (h.keyed hL) h.1.2.2 x hx 0 (.inl ⟨rfl, fun e he hk => ?_⟩), ⟨fun _ => hxL, fun _ => rfl⟩, Nat.zero_le _⟩
    obtain ⟨y, n, h1, h2, _⟩ := h.2.1 e he
    exact hxL (colV_inj (hk.symm.trans h2) ▸ h1)
/-- A colour more, or once more. -/
def addC (L : List Col) (x : Col) : List Col := if x ∈ L then L else L ++ [x]
set_option maxRecDepth 100000 in
/-- m[k]++, in its two steps: what the entry's place leaves, what the store leaves. -/
theorem MI.inc {w : World} {gm : Nat} {es : Array MapEntry} {clock : Nat} {L : List Col} {b : Nat} (h : MI es clock L b) (hL : ∀ x ∈ L, ColB x) (hb : w.heap[gm]? = some (.map es clock)) (x : Col) (hx : ColB x) (n : Nat) (hn : MpCnt w gm x n) :
    ∃ (v0 : Value) (st : Nat) (es1 : Array MapEntry) (clock1 : Nat), (Instr.mapEntry 84 (.map (some gm)) (colV x)).run Try.prog w = .ok (.tuple #[v0, goInt st]) (setBlock w gm (.map es1 clock1)) ∧
      (∀ w1 : World, w1.heap[gm]? = some (.map es1 clock1) → MpCnt w1 gm x n) ∧
      ∃ es2 clock2, MI es2 clock2 (addC L x) (b + 1) ∧ (∀ w3 : World, w3.heap[gm]? = some (.map es2 clock2) → MpCnt w3 gm x (n + 1)) ∧
        ∀ w2 : World, w2.heap[gm]? = some (.map es1 clock1) → (Instr.entryStore 84 (.map (some gm)) (goInt st) (.int .i64 ((n + 1 : Nat) : Int))).run Try.prog w2 = .ok () (setBlock w2 gm (.map es2 clock2)) := by
  obtain ⟨l, hl⟩ := key_of x hx
  have ht := Try.underlying84
  have hkd := h.keyed hL
  obtain ⟨s1, s2, s3⟩ := h.1
  obtain ⟨n', hn', hz', hb'⟩ := h.cnt hL hb x hx
  have hnn : n' = n := by
    unfold MpCnt at hn hn'
    rw [hn] at hn'
    injection hn' with e
    injection e with _ e
    omega
  subst hnn
  rcases key_law.find w hl es.toList hkd with ⟨h1, h2⟩ | ⟨j, e0, h1, h2, h3⟩
  · have hxL : x ∉ L := fun hc => by
      obtain ⟨e, he, hk⟩ := h.2.2 x hc
      exact h2 e he hk
    have hn0 : n' = 0 := hz'.2 hxL
    subst hn0
    have hst : ∀ v, Stamped (es.push ⟨colV x, v, clock⟩) (clock + 1) := fun v => stamped_push h.1 h2
    have hkeys : ∀ v, ∀ e ∈ (es.push ⟨colV x, v, clock⟩).toList, ∃ l, keyOf Try.prog 30 e.key = some l := fun v e he => by
      rw [Array.toList_push, List.mem_append] at he
      rcases he with he | he
      · exact hkd e he
      · obtain rfl := List.mem_singleton.1 he
        exact ⟨l, hl⟩
    have hlast : ∀ v, (⟨colV x, v, clock⟩ : MapEntry) ∈ (es.push ⟨colV x, v, clock⟩).toList := fun v => by rw [Array.toList_push]; simp
    refine ⟨.int .i64 0, clock, es.push ⟨colV x, .int .i64 0, clock⟩, clock + 1, ?_, fun w1 hw1 => cnt_of hw1 (hkeys _) (hst _).2.2 x hx 0 (.inr ⟨_, hlast _, rfl, rfl⟩), es.push ⟨colV x, .int .i64 1, clock⟩, clock + 1, ⟨hst _, fun e he => ?_, fun y hy => ?_⟩, fun w3 hw3 => cnt_of hw3 (hkeys _) (hst _).2.2 x hx 1 (.inr ⟨_, hlast _, rfl, rfl⟩), fun w2 hw2 => ?_⟩
    · simp [Instr.mapEntry, run_underlying ht, MapKept.run_getObj_map hb, key_law.check w false hl, h1, MapKept.run_setObj_map _ hb, Result.andThen, setBlock]
    · rw [Array.toList_push, List.mem_append] at he
      have hadd : addC L x = L ++ [x] := if_neg hxL
      rw [hadd]
      rcases he with he | he
      · obtain ⟨y, m, g1, g2, g3, g4, g5⟩ := h.2.1 e he
        exact ⟨y, m, List.mem_append_left _ g1, g2, g3, g4, by omega⟩
      · obtain rfl := List.mem_singleton.1 he
        exact ⟨x, 1, by simp, rfl, rfl, Nat.le_refl _, by omega⟩
    · have hadd : addC L x = L ++ [x] := if_neg hxL
      rw [hadd, List.mem_append] at hy
      rw [Array.toList_push]
      rcases hy with hy | hy
      · obtain ⟨e, he, hk⟩ := h.2.2 y hy
        exact ⟨e, List.mem_append_left _ he, hk⟩
      · obtain rfl := List.mem_singleton.1 hy
        exact ⟨_, List.mem_append_right _ (List.mem_singleton.2 rfl), rfl⟩
    · have hidx : (es.push ⟨colV x, .int .i64 0, clock⟩).findIdx? (fun e => ((e.born : Nat) : Int) == ((clock : Nat) : Int)) = some es.size := by
        rw [findIdx_arr]
        exact findIdx_born (l := (es.push ⟨colV x, .int .i64 0, clock⟩).toList) (j := es.size) (e0 := ⟨colV x, .int .i64 0, clock⟩) (hst _).2.1 (by simp)
      have hmod : (es.push ⟨colV x, .int .i64 0, clock⟩).modify es.size (fun e => { e with val := .int .i64 1 }) = es.push ⟨colV x, .int .i64 1, clock⟩ := by
        apply Array.ext'
        rw [Array.toList_modify, Array.toList_push, Array.toList_push, ← Array.length_toList, modify_last]
      simp [Instr.entryStore, MapKept.run_getObj_map hw2, asInt, asIntOf, goInt, hidx, hmod, MapKept.run_setObj_map _ hw2, Result.andThen, setBlock]
  · have hm0 : e0 ∈ es.toList := List.mem_of_getElem? h2
    have hj : es[j]? = some e0 := by simpa using h2
    obtain ⟨y, m, g1, g2, g3, g4, g5⟩ := h.2.1 e0 hm0
    obtain rfl : y = x := colV_inj (g2.symm.trans h3)
    have hmn : m = n' := by
      have hc := cnt_of hb hkd s3 y hx m (.inr ⟨e0, hm0, h3, g3⟩)
      unfold MpCnt at hc hn
      rw [hn] at hc
      injection hc with e
      injection e with _ e
      omega
    subst hmn
    have hadd : addC L y = L := if_pos g1
    have hsame : es.modify j (fun e => { e with key := colV y }) = es := by
      apply Array.ext'
      rw [Array.toList_modify, modify_eq_set _ _ _ _ h2]
      have : ({ e0 with key := colV y } : MapEntry) = e0 := by rw [← h3]
      rw [this]
      exact set_self _ _ _ h2
    have hst := stamped_modify h.1 j (fun e => { e with val := .int .i64 ((m + 1 : Nat) : Int) }) (fun _ _ => rfl) (fun _ _ _ => rfl)
    have hmem : ∀ e ∈ (es.modify j (fun e => { e with val := .int .i64 ((m + 1 : Nat) : Int) })).toList, e ∈ es.toList ∨ e = { e0 with val := .int .i64 ((m + 1 : Nat) : Int) } := fun e he => by
      rw [Array.toList_modify, modify_eq_set _ _ _ _ h2] at he
      exact (List.mem_or_eq_of_mem_set he)
    have hin : ({ e0 with val := .int .i64 ((m + 1 : Nat) : Int) } : MapEntry) ∈ (es.modify j (fun e => { e with val := .int .i64 ((m + 1 : Nat) : Int) })).toList := by
      rw [Array.toList_modify, modify_eq_set _ _ _ _ h2]
      exact List.mem_set (List.getElem?_eq_some_iff.1 h2).1 _
    have hkeys : ∀ e ∈ (es.modify j (fun e => { e with val := .int .i64 ((m + 1 : Nat) : Int) })).toList, ∃ l, keyOf Try.prog 30 e.key = some l := fun e he => by
      rcases hmem e he with he | rfl
      · exact hkd e he
      · exact hkd e0 hm0
    refine ⟨e0.val, e0.born, es, clock, ?_, fun w1 hw1 => cnt_of hw1 hkd s3 y hx m (.inr ⟨e0, hm0, h3, g3⟩), es.modify j (fun e => { e with val := .int .i64 ((m + 1 : Nat) : Int) }), clock, ⟨hst, fun e he => ?_, fun z hz => ?_⟩, fun w3 hw3 => cnt_of hw3 hkeys hst.2.2 y hx (m + 1) (.inr ⟨_, hin, h3, rfl⟩), fun w2 hw2 => ?_⟩
    · simp [Instr.mapEntry, run_underlying ht, MapKept.run_getObj_map hb, key_law.check w false hl, h1, hj, h3, key_law.stays w hl, hsame, MapKept.run_setObj_map _ hb, Result.andThen, setBlock]
    · rw [hadd]
      rcases hmem e he with he | rfl
      · obtain ⟨z, k, k1, k2, k3, k4, k5⟩ := h.2.1 e he
        exact ⟨z, k, k1, k2, k3, k4, by omega⟩
      · exact ⟨y, m + 1, g1, h3, rfl, by omega, by omega⟩
    · rw [hadd] at hz
      obtain ⟨e, he, hk⟩ := h.2.2 z hz
      by_cases hzy : z = y
      · subst hzy; exact ⟨_, hin, h3⟩
      · refine ⟨e, ?_, hk⟩
        rw [Array.toList_modify, modify_eq_set _ _ _ _ h2]
        obtain ⟨i, hi, hi2⟩ := List.getElem_of_mem he
        have hij : j ≠ i := fun e2 => by
          subst e2
          have : e = e0 := by
            rw [← hi2]
            exact (List.getElem?_eq_some_iff.1 h2).2
          rw [this, h3] at hk
          exact hzy (colV_inj hk).symm
        refine List.mem_iff_getElem?.2 ⟨i, ?_⟩
        rw [List.getElem?_set_ne hij, List.getElem?_eq_getElem hi, hi2]
    · have hidx : es.findIdx? (fun e => ((e.born : Nat) : Int) == ((e0.born : Nat) : Int)) = some j := by
        rw [findIdx_arr]
        exact findIdx_born s2 h2
      simp [Instr.entryStore, MapKept.run_getObj_map hw2, asInt, asIntOf, goInt, hidx, MapKept.run_setObj_map _ hw2, Result.andThen, setBlock]
end Go.Proofs.Ytkfomjdmdgddlaa
