/- Strings of bytes; bytes.Equal, bytes.HasPrefix, bytes.CutPrefix. -/
import Derived.Test.YtaloieeemibblaaEs
import Derived.Laws.BytesString
import Derived.Lib.SlBytesConst
set_option linter.unusedVariables false
set_option linter.unusedSimpArgs false
namespace Go.Proofs.Ytaloieeemibblaa
open Go.ChangeShapes Go.WideShapes Go.ChangeAt Go.RowKit

theorem fold_bytes (l : List UInt8) : (l.map fun b => (b.toNat : Int)).foldl (fun r n => r.push (UInt8.ofNat n.toNat)) ByteArray.empty = ⟨l.toArray⟩ := by
  have g : ∀ (l : List UInt8) (acc : ByteArray), (l.map fun b => (b.toNat : Int)).foldl (fun r n => r.push (UInt8.ofNat n.toNat)) acc = ⟨acc.data ++ l.toArray⟩ := by
    intro l
    induction l with
    | nil => intro acc; simp
    | cons x r ih =>
      intro acc
      simp only [List.map_cons, List.foldl_cons]
      rw [ih]
      simp [ByteArray.push]
  rw [g]
  show (⟨#[] ++ l.toArray⟩ : ByteArray) = _
  simp
theorem bytesV_length_ {l : List UInt8} : ((l.map fun b => (b.toNat : Int)).map (Value.int .u8)).length = l.length := by simp
set_option maxRecDepth 100000 in
theorem str_bs {w : World} {B : Nat} {A : Option Addr} {l : List UInt8} (n : Nat) (hn : l.length = n) (h : Bs w B A l) (h0 : 0 < n) (c : Nat) :
    (convert 22 9 (.slice A n c)).run Try.prog w = .ok (.string ⟨l.toArray⟩) w := by
  subst hn
  obtain ⟨ad, rfl, _, hc⟩ := h h0
  have hl := run_loadCells_list (P := Try.prog) (w := w) ad (bytesV l) (fun j v hj => by
    have h1 := (List.getElem?_eq_some_iff.1 hj).1
    rw [bytesV_length] at h1
    rw [bytesV_get l j h1] at hj
    rw [hc j h1, hj])
  refine (run_convert_bytes_string (P := Try.prog) w 22 9 5 (some ad) l.length c Try.underlying22 Try.underlying5 Try.underlying9).trans ?_
  have hv : bytesV l = (l.map fun b => (b.toNat : Int)).map (Value.int .u8) := by simp [bytesV, bv]
  rw [hv] at hl
  rw [bytesV_length_] at hl
  refine (run_bytesToString w ad l.length c _ hl).trans ?_
  congr 2
  exact fold_bytes l

set_option maxRecDepth 100000 in
set_option maxHeartbeats 1000000 in
theorem equal_any (A M : Option Addr) (n c d : Nat) (l k : List UInt8) (hl : l.length = n) (hk : k.length = n) (h0 : 0 < n) (B B' : Nat) (w : World) (h1 : Bs w B A l) (h2 : Bs w B' M k) :
    Calls Try.prog 58 #[.slice A n c, .slice M n d] w fun e w' => e = .returned (.bool (l == k)) ∧ w' = w := by
  have q1 := str_bs n hl h1 h0 c
  have q2 := str_bs n hk h2 h0 d
  go_enter Try.func58, Try.ntmps58
  go_wp2_with fail
  go_ret
  exact ⟨rfl, rfl⟩
set_option maxRecDepth 100000 in
set_option maxHeartbeats 1000000 in
theorem hasPrefix_any (A M : Option Addr) (n c p d : Nat) (l k : List UInt8) (hl : l.length = n) (hnc : n ≤ c) (hk : k.length = p) (h0 : 0 < p) (hn : n ≤ 140737488355328) (B B' : Nat) (w : World) (h1 : Bs w B A l) (h2 : Bs w B' M k) :
    Calls Try.prog 48 #[.slice A n c, .slice M p d] w fun e w' => e = .returned (.bool (decide (p ≤ n) && l.take p == k)) ∧ w' = w := by
  by_cases hp : p ≤ n
  · obtain ⟨ad, rfl, _, _⟩ := h1 (by omega)
    have i1 : (p : Int) ≤ (n : Int) := by omega
    have i2 : (p : Int) ≤ (c : Int) := by omega
    have HE := Lib.hid (fun c' => equal_any (some ad) M p c' d (l.take p) k (by rw [List.length_take]; omega) hk h0 B B' w (h1.take p) h2)
    go_enter Try.func48, Try.ntmps48
    go_wp2_with fail
    refine (HE.out _).mono ?_
    rintro e w1 ⟨rfl, rfl⟩
    go_wp2_with fail
    go_ret
    exact ⟨ret_bool (by rw [decide_eq_true hp, Bool.true_and]), rfl⟩
  · have i1 : ¬ (p : Int) ≤ (n : Int) := by omega
    go_enter Try.func48, Try.ntmps48
    go_wp2_with fail
    go_ret
    exact ⟨rfl, rfl⟩
set_option maxRecDepth 100000 in
set_option maxHeartbeats 1000000 in
theorem cutPrefix_any (A M : Option Addr) (n c p d : Nat) (l k : List UInt8) (hl : l.length = n) (hnc : n ≤ c) (hk : k.length = p) (h0 : 0 < p) (hn : n ≤ 140737488355328) (B B' : Nat) (w : World) (h1 : Bs w B A l) (h2 : Bs w B' M k) :
    Calls Try.prog 28 #[.slice A n c, .slice M p d] w fun e w' => w' = w ∧ ((decide (p ≤ n) && l.take p == k) = false → ∃ v, e = .returned (.tuple #[v, .bool false])) ∧ ((decide (p ≤ n) && l.take p == k) = true → p ≤ n ∧ ∃ A' c', n - p ≤ c' ∧ c' ≤ c ∧ e = .returned (.tuple #[.slice A' (n - p : Nat) c', .bool true]) ∧ Bs w B A' (l.drop p)) := by
  have HP := Lib.hid (hasPrefix_any A M n c p d l k hl hnc hk h0 hn B B' w h1 h2)
  have hpn : (decide (p ≤ n) && l.take p == k) = true → p ≤ n := fun h => by simp at h; exact h.1
  generalize (decide (p ≤ n) && l.take p == k) = bo at *
  go_enter Try.func28, Try.ntmps28
  go_wp2_with fail
  refine HP.out.mono ?_
  rintro e w1 ⟨rfl, rfl⟩
  cases bo with
  | false =>
    clear hpn
    go_wp2_with fail
    go_ret2
    exact ⟨rfl, _, rfl⟩
  | true =>
    have hp := hpn rfl
    clear hpn
    obtain ⟨ad, rfl, _, _⟩ := h1 (by omega)
    have HB := Lib.hid (h1.drop (k := p) (cap := c) (by omega) (by omega))
    have i1 : (p : Int) ≤ (n : Int) := by omega
    have i2 : (n : Int) ≤ (c : Int) := by omega
    have i3 : (p : Int) ≤ (c : Int) := by omega
    go_wp2_with fail
    · rename_i h
      rw [if_pos h] at HB
      go_ret2
      exact ⟨rfl, _, _, by omega, by omega, rfl, HB.out⟩
    · rename_i h
      rw [if_neg h] at HB
      go_ret2
      exact ⟨rfl, _, _, by omega, by omega, rfl, HB.out⟩
end Go.Proofs.Ytaloieeemibblaa
