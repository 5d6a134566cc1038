/- Contract of the program's Zlib. -/
import Derived.Test.YtpemgjnoinnlnaaIq
import Derived.Test.YtpemgjnoinnlnaaIs
namespace Go.Proofs.Ytpemgjnoinnlnaa
open Go.ChangeShapes Go.WideShapes Go.ChangeAt Go.RowKit

def sumAt (b : List UInt8) (p : Nat) : Nat := numB true (fun i => byteAt b (p + i)) 4
def zlibM (b : List UInt8) (most : Nat) : Except Nat (List UInt8) :=
  if headM b ≠ 0 then .error (headM b) else match rawM (b.drop 2) most with
    | .error e => .error e
    | .ok (out, n) => if b.length < 2 + n + 4 then .error 5 else if sumAt b (2 + n) ≠ adOn 1 out then .error 44 else .ok out
def ZlibR (w : World) (x : Except Nat (List UInt8)) (e : Ending) (w' : World) : Prop :=
  match x with
  | .error k => e = .returned (.tuple #[.slice none 0 0, .int .i64 (k : Int)]) ∧ Below w.heap.size w w'
  | .ok out => ∃ Ao co, e = .returned (.tuple #[.slice Ao out.length co, .int .i64 0]) ∧ w'.ownsRow w.heap.size 5 1 (.slice Ao out.length co) out.length (bytesV out) ∧ Below w.heap.size w w'
theorem CapOk.less {most n m : Nat} (h : CapOk most n) (hm : m ≤ n) : CapOk most m :=
  ⟨h.1, fun k h1 h2 => h.2.1 k h1 (Nat.le_trans h2 (by omega)), Nat.le_trans hm h.2.2⟩
theorem headM_len {b : List UInt8} (h : headM b = 0) : 2 ≤ b.length := by
  unfold headM at h
  by_cases h2 : b.length < 2
  · rw [if_pos h2] at h; omega
  · omega
theorem raw_n (w : World) (A : Option Addr) (c : Nat) (b : List UInt8) (n : Nat) (hn : b.length = n) (mo : Int) (hbs : Bs w w.heap.size A b) (hmo : -9223372036854775808 ≤ mo ∧ mo ≤ 9223372036854775807) (hcap : CapOk mo.toNat n) :
    Calls Try.prog 10 #[.slice A n c, .int .i64 mo] w (RawR w (rawM b mo.toNat)) := by
  subst hn
  exact raw_any w A c b mo hbs hmo hcap
theorem own_bsI {w : World} {base : Nat} {e : TypeId} {A : Option Addr} {c : Nat} {l : List UInt8} (h : w.ownsRow base e 1 (.slice A l.length c) l.length (bytesV l)) : Bs w w.heap.size A l := Bs.of_own h
theorem ownsRow_drewN {w : World} {base : Nat} {e : TypeId} {k n : Nat} {v : Value} {vs : List Value} (h : w.ownsRow base e k v n vs) (m : Nat) : (w.drewN m).ownsRow base e k v n vs := h
theorem adler_n (A : Option Addr) (c n : Nat) (l : List UInt8) (hn : l.length = n) (B : Nat) (w : World) (hbs : Bs w B A l) (hl : n ≤ 140737488355328) :
    Calls Try.prog 29 #[.slice A n c] w fun e w' => e = .returned (.int .u32 ((adOn 1 l : Nat) : Int)) ∧ w = w' := by
  subst hn
  exact adler_any A c l B w hbs (by unfold maxLen; omega)
theorem get4_ok (A : Option Addr) (c : Nat) (l : List UInt8) (n : Nat) (B : Nat) (w : World) (h : Bs w B A l) (hl : l.length ≤ 140737488355328) (ha : 2 + n + 4 ≤ l.length) :
    Calls Try.prog 28 #[.slice A l.length c, .int .i64 (2 + (n : Int)), .int .i64 4, .bool true] w fun e w' =>
      e = .returned (.tuple #[.int .u32 ((sumAt l (2 + n) : Nat) : Int), .int .i64 0]) ∧ ∃ n, w' = w.drewN n := by
  have := get_ok A c l (2 + n) 4 true B w h hl (by omega) (by omega) ha
  simpa [sumAt] using this
theorem get4_no (A : Option Addr) (c : Nat) (l : List UInt8) (n : Nat) (w : World) (hl : l.length ≤ 140737488355328) (ha : l.length < 2 + n + 4) :
    Calls Try.prog 28 #[.slice A l.length c, .int .i64 (2 + (n : Int)), .int .i64 4, .bool true] w fun e w' =>
      e = .returned (.tuple #[.int .u32 0, .int .i64 5]) ∧ w = w' := by
  have he : spanErr l.length (2 + (n : Int)) 4 = 5 := spanErr_end (by omega) (by omega)
  have := get_err A l.length c (2 + (n : Int)) 4 true w hl (by rw [he]; decide)
  rwa [he] at this

set_option maxHeartbeats 4000000 in
set_option maxRecDepth 100000 in
theorem zlib_any (w : World) (A : Option Addr) (c : Nat) (b : List UInt8) (mo : Int) (hbs : Bs w w.heap.size A b) (hmo : -9223372036854775808 ≤ mo ∧ mo ≤ 9223372036854775807) (hcap : CapOk mo.toNat b.length) (hc : b.length ≤ c) :
    Calls Try.prog 14 #[.slice A b.length c, .int .i64 mo] w (ZlibR w (zlibM b mo.toNat)) := by
  obtain ⟨X, HX⟩ : ∃ X, Hid (zlibM b mo.toNat = X) := ⟨_, Lib.hid rfl⟩
  rw [HX.out]
  have hl : b.length ≤ 140737488355328 := by have := hcap.2.2; omega
  have HCAP := Lib.hid hcap
  have HH := Lib.hid (headFault_any w A c b _ hbs hl)
  obtain ⟨k, hk⟩ : ∃ k, headM b = k := ⟨_, rfl⟩
  rw [hk] at HH
  clear hcap
  by_cases hk0 : k = 0
  · subst hk0
    have h2 := headM_len hk
    obtain ⟨a0, ha0, hadb0, hcb0⟩ := hbs.at_ (k := 0) (by omega)
    subst ha0
    obtain ⟨ab, ao, as_⟩ := a0
    have hspot : as_ = none := by
      have := World.cell?_spot hcb0
      simpa [Addr.add] using this
    subst hspot
    have HBS := Lib.hid hbs
    have HD := Lib.hid (hbs.drop (k := 2) (cap := c) h2 hc)
    have HXR : Hid (X = match rawM (b.drop 2) mo.toNat with
      | .error e => .error e
      | .ok (out, n) => if b.length < 2 + n + 4 then .error 5 else if sumAt b (2 + n) ≠ adOn 1 out then .error 44 else .ok out) := Lib.hid (by rw [← HX.out]; unfold zlibM; rw [hk, if_neg (by decide)])
    clear hcb0 hbs hk hadb0 HX
    obtain ⟨A2, hA2⟩ : ∃ A2, (if c = 2 then (some ⟨ab, ao, none⟩ : Option Addr) else some ⟨ab, ao + 2, none⟩) = A2 := ⟨_, rfl⟩
    have HR : ∀ n1 len c2, len = b.length - 2 → Hid (Calls Try.prog 10 #[.slice A2 len c2, .int .i64 mo] (w.drewN n1) (RawR (w.drewN n1) (rawM (b.drop 2) mo.toNat))) := fun n1 len c2 hlen => Lib.hid (by
      refine raw_n (w.drewN n1) A2 c2 (b.drop 2) len (by rw [hlen]; simp) mo ?_ hmo (HCAP.out.less (by omega))
      have h := HD.out
      have e : (if c = 2 then (some ⟨ab, ao, none⟩ : Option Addr) else (some ⟨ab, ao, none⟩ : Option Addr).map (·.add 2)) = A2 := by rw [← hA2]; simp [Addr.add_lit]
      rw [e] at h
      exact h)
    obtain ⟨Y, HY⟩ : ∃ Y, Hid (rawM (b.drop 2) mo.toNat = Y) := ⟨_, Lib.hid rfl⟩
    rw [HY.out] at HR HXR
    have HA2 := Lib.hid hA2
    clear hA2
    by_cases hc2 : c = 2
    all_goals
      have hA := HA2.out
      first | rw [if_pos hc2] at hA | rw [if_neg hc2] at hA
      subst hA
      first | subst hc2 | skip
      rcases Y with ke | ⟨out, n⟩
      · have HX3 : Hid (X = .error ke) := HXR
        have hke : ((ke : Int) == 0) = false := by have := rawM_err HY.out; simp; omega
        go_enter Try.func14, Try.ntmps14
        go_wp2_with fail
        refine HH.out.mono ?_
        rintro e w1 ⟨rfl, n1, rfl⟩
        go_wp2_with fail
        refine (HR n1 _ _ (by omega)).out.mono ?_
        rintro e w2 ⟨rfl, hb2⟩
        go_wp2_with fail
        go_ret2
        rw [HX3.out]
        exact ⟨rfl, (below_drewN (Below.refl w.heap.size w) n1).trans hb2⟩
      · obtain ⟨u1, u2, u3, u4⟩ := rawM_used HY.out
        have hol := HCAP.out.2.1 _ u3 (Nat.le_trans u4 (Nat.mul_le_mul_left 258 (by simp; omega)))
        simp only [List.length_drop] at u2
        clear u3 u4
        go_enter Try.func14, Try.ntmps14
        go_wp2_with fail
        refine HH.out.mono ?_
        rintro e w1 ⟨rfl, n1, rfl⟩
        go_wp2_with fail
        refine (HR n1 _ _ (by omega)).out.mono ?_
        rintro e w2 ⟨Ao, co, rfl, hown, hb2⟩
        have HOWN := Lib.hid hown
        have HB2 := Lib.hid ((below_drewN (Below.refl w.heap.size w) n1).trans hb2)
        have HBS2 := Lib.hid (HBS.out.below HB2.out)
        clear hown hb2
        by_cases hf : b.length < 2 + n + 4
        · have HX3 : Hid (X = .error 5) := Lib.hid (HXR.out.trans (if_pos hf))
          go_wp2_with fail
          refine (get4_no (some ⟨ab, ao, none⟩) _ b n w2 hl hf).mono ?_
          rintro e w3 ⟨rfl, rfl⟩
          go_wp2_with fail
          go_ret2
          rw [HX3.out]
          exact ⟨rfl, HB2.out⟩
        · have HXF := Lib.hid (HXR.out.trans (if_neg hf))
          clear HXR
          go_wp2_with fail
          refine (get4_ok (some ⟨ab, ao, none⟩) _ b n w.heap.size w2 HBS2.out hl (by omega)).mono ?_
          rintro e w3 ⟨rfl, n3, rfl⟩
          obtain ⟨S, hS⟩ : ∃ S, sumAt b (2 + n) = S := ⟨_, rfl⟩
          obtain ⟨T, hT⟩ : ∃ T, adOn 1 out = T := ⟨_, rfl⟩
          have HF := HXF.out
          rw [hS, hT] at HF
          rw [hS]
          have HT := Lib.hid hT
          clear hS hT
          by_cases hST : S = T
          · have d1 : ((S : Int) == (T : Int)) = true := by simp; omega
            have HX3 : Hid (X = .ok out) := Lib.hid (HF.trans (if_neg (by omega)))
            clear HF
            go_wp2_with fail
            refine (adler_n Ao co _ out rfl _ (w2.drewN n3) ((own_bsI HOWN.out).drewN n3) (by omega)).mono ?_
            rw [HT.out]
            rintro e w4 ⟨rfl, hw4⟩
            subst hw4
            go_wp2_with fail
            all_goals go_ret2
            all_goals rw [HX3.out]
            exact ⟨Ao, co, rfl, ownsRow_drewN HOWN.out n3, below_drewN HB2.out n3⟩
          · have d1 : ((S : Int) == (T : Int)) = false := by simp; omega
            have HX3 : Hid (X = .error 44) := Lib.hid (HF.trans (if_pos (by omega)))
            clear HF
            go_wp2_with fail
            refine (adler_n Ao co _ out rfl _ (w2.drewN n3) ((own_bsI HOWN.out).drewN n3) (by omega)).mono ?_
            rw [HT.out]
            rintro e w4 ⟨rfl, hw4⟩
            subst hw4
            go_wp2_with fail
            all_goals go_ret2
            all_goals rw [HX3.out]
            all_goals exact ⟨rfl, below_drewN HB2.out n3⟩
  · have HX2 : Hid (X = .error k) := Lib.hid (by rw [← HX.out]; unfold zlibM; rw [hk, if_pos hk0])
    have hk1 : ((k : Int) == 0) = false := by simp; omega
    clear hk
    go_enter Try.func14, Try.ntmps14
    go_wp2_with fail
    refine HH.out.mono ?_
    rintro e w1 ⟨rfl, n1, rfl⟩
    go_wp2_with fail
    go_ret2
    rw [HX2.out]
    exact ⟨rfl, below_drewN (Below.refl w.heap.size w) n1⟩
end Go.Proofs.Ytpemgjnoinnlnaa
