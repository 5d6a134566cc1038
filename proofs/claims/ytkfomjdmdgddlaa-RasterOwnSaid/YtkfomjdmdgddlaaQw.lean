/- Paste, the document's: a pixel put; the lists. -/
import Derived.Test.YtkfomjdmdgddlaaQt
namespace Go.Proofs.Ytkfomjdmdgddlaa
open Go.ChangeShapes Go.WideShapes Go.ChangeAt Go.RowKit

/-- Four samples set, from a place on. -/
def setQ (L : List Int) (F : Nat) (z : Col) : List Int := (((L.set F z.r).set (F + 1) z.g).set (F + 2) z.b).set (F + 3) z.a
theorem setQ_length (L : List Int) (F : Nat) (z : Col) : (setQ L F z).length = L.length := by simp [setQ]
theorem own_thaw {w : World} {base r c n : Nat} {e : TypeId} {xs : List Value} (h : w.ownsRow base e 1 (.slice (some ⟨r, 0, none⟩) n c) n xs) (k : Nat) : w.frozen? ⟨r, k, none⟩ = false := by
  rcases h.2 with ⟨h0, _⟩ | ⟨g', cap, cur, he, _, hg, _⟩
  · cases h0
  · injection he with he _ _
    injection he with he
    injection he with he
    subst he
    simp [World.frozen?, hg]
set_option maxRecDepth 100000 in
set_option maxHeartbeats 4000000 in
theorem put_any {w : World} {base r c n W H : Nat} {L : List Int} (h : w.ownsRow base 28 1 (.slice (some ⟨r, 0, none⟩) n c) n (usV L)) (hn4 : n = 4 * (W * H)) (hf : W * H ≤ 65536) (X Y : Nat) (hx : X < W) (hy : Y < H) (z : Col) (F : Nat) (hF : 4 * (Y * W + X) = F) :
    Calls Try.prog 47 #[imgV W H (some ⟨r, 0, none⟩) n c, .int .i64 (X : Int), .int .i64 (Y : Int), colV z] w fun e w' => e = .returned (.tuple #[]) ∧ w'.ownsRow base 28 1 (.slice (some ⟨r, 0, none⟩) n c) n (usV (setQ L F z)) ∧ Upd (· = r) w w' := by
  obtain ⟨h1, hsz, h2, h3⟩ := boxes2 w #[.int .i64 W, .int .i64 H, .slice (some ⟨r, 0, none⟩) n c] #[.int .u16 z.r, .int .u16 z.g, .int .u16 z.b, .int .u16 z.a] 24 30
  obtain ⟨W1, hW1⟩ : ∃ W1, (w.alloc (.cells #[.int .i64 W, .int .i64 H, .slice (some ⟨r, 0, none⟩) n c] 24)).alloc (.cells #[.int .u16 z.r, .int .u16 z.g, .int .u16 z.b, .int .u16 z.a] 30) = W1 := ⟨_, rfl⟩
  rw [hW1] at h1 hsz h2 h3
  have HW1 := Lib.hid hW1
  obtain ⟨_, q0, q1, q2, _, _, _⟩ := IB.of h2
  obtain ⟨_, p0, p1, p2, p3, _⟩ := CB.of (x := z) h3
  have hpl := place_lt (W := W) (H := H) (X := X) (Y := Y) (n := 1) (by omega) hy
  have o1 := own_upd h (Upd.of_fresh h1) (fun _ _ => id)
  have hr := (row_lt h r rfl).2
  obtain ⟨F0, hF0⟩ : ∃ F0, Y * W = F0 := ⟨_, rfl⟩
  rw [hF0] at hpl hF
  have HE1 : Hid (wrap64 ((Y : Int) * (W : Int)) = (F0 : Int)) := Lib.hid (by rw [← Int.natCast_mul, hF0]; exact IntWalk.wrap64_in _ (by omega))
  clear hF0
  have HE2 : Hid (wrap64 ((F0 : Int) + (X : Int)) = ((F0 + X : Nat) : Int)) := Lib.hid (by rw [IntWalk.wrap64_in _ (by omega)]; omega)
  have HE3 : Hid (wrap64 (4 * ((F0 + X : Nat) : Int)) = (F : Int)) := Lib.hid (by rw [IntWalk.wrap64_in _ (by omega)]; omega)
  have hFn : F + 4 ≤ n := by omega
  have hn : n ≤ 262144 := by omega
  have hLn : L.length = n := by have := own_len o1; rwa [usV_length] at this
  obtain ⟨u0, c0⟩ : ∃ u, W1.cell? ⟨r, F, none⟩ = some (.int .u16 u) := ⟨_, urow_at o1 F (by omega)⟩
  obtain ⟨u1, c1⟩ : ∃ u, W1.cell? ⟨r, F + 1, none⟩ = some (.int .u16 u) := ⟨_, urow_at o1 (F + 1) (by omega)⟩
  obtain ⟨u2, c2⟩ : ∃ u, W1.cell? ⟨r, F + 2, none⟩ = some (.int .u16 u) := ⟨_, urow_at o1 (F + 2) (by omega)⟩
  obtain ⟨u3, c3⟩ : ∃ u, W1.cell? ⟨r, F + 3, none⟩ = some (.int .u16 u) := ⟨_, urow_at o1 (F + 3) (by omega)⟩
  have f0 := own_thaw o1 F; have f1 := own_thaw o1 (F + 1); have f2 := own_thaw o1 (F + 2); have f3 := own_thaw o1 (F + 3)
  have hr1 : ¬ w.heap.size = r := by omega
  have hr2 : ¬ w.heap.size + 1 = r := by omega
  have hr3 : ¬ r = w.heap.size := by omega
  have hr4 : ¬ r = w.heap.size + 1 := by omega
  have HU := Lib.hid (Upd.of_fresh h1)
  have HO := Lib.hid o1
  have HI := Lib.hid h2
  have HC := Lib.hid h3
  have hfull : Hid (∀ w', Upd (· = r) W1 w' → (Upd (· = r) W1 w' ∧ w'.cell? ⟨w.heap.size, 2, none⟩ = some (.slice (some ⟨r, 0, none⟩) n c) ∧ w'.cell? ⟨w.heap.size + 1, 0, none⟩ = some (.int .u16 z.r) ∧ w'.cell? ⟨w.heap.size + 1, 1, none⟩ = some (.int .u16 z.g) ∧ w'.cell? ⟨w.heap.size + 1, 2, none⟩ = some (.int .u16 z.b) ∧ w'.cell? ⟨w.heap.size + 1, 3, none⟩ = some (.int .u16 z.a))) := Lib.hid fun w' u => by
    have i1 := IB.of (HI.out.upd u hr1)
    have i2 := CB.of (x := z) (HC.out.upd u hr2)
    exact ⟨u, i1.c2, i2.c0, i2.c1, i2.c2, i2.c3⟩
  clear hn4 hpl hF h h1 h2 h3 hW1 hsz o1 hf
  have e1 := HE1.out; have e2 := HE2.out; have e3 := HE3.out
  clear HE1 HE2 HE3
  generalize F0 + X = F1 at e2 e3
  go_enter Try.func47, Try.ntmps47
  go_upto_region 1 with (fail)
  rw [HW1.out]
  clear HW1
  go_upto_region 2 with (fail)
  rw [e3]
  clear e1 e2 e3 hx hy
  obtain ⟨F1, hF1⟩ : ∃ F1, F + 1 = F1 := ⟨_, rfl⟩
  obtain ⟨F2, hF2⟩ : ∃ F2, F + 2 = F2 := ⟨_, rfl⟩
  obtain ⟨F3, hF3⟩ : ∃ F3, F + 3 = F3 := ⟨_, rfl⟩
  rw [hF1] at c1 f1
  rw [hF2] at c2 f2
  rw [hF3] at c3 f3
  have s1 : IntKind.i64.wrap ((F : Int) + 1) = (F1 : Int) := by rw [IntWalk.i64_in _ (by omega)]; omega
  have s2 : IntKind.i64.wrap ((F : Int) + 2) = (F2 : Int) := by rw [IntWalk.i64_in _ (by omega)]; omega
  have s3 : IntKind.i64.wrap ((F : Int) + 3) = (F3 : Int) := by rw [IntWalk.i64_in _ (by omega)]; omega
  have i0 : (F : Int) < (n : Int) := by omega
  have i1 : (F1 : Int) < (n : Int) := by omega
  have i2 : (F2 : Int) < (n : Int) := by omega
  have i3 : (F3 : Int) < (n : Int) := by omega
  have j0 : (0 : Int) ≤ (F : Int) := by omega
  have j1 : (0 : Int) ≤ (F1 : Int) := by omega
  have j2 : (0 : Int) ≤ (F2 : Int) := by omega
  have j3 : (0 : Int) ≤ (F3 : Int) := by omega
  have n1 : ¬ F = F1 := by omega
  have n2 : ¬ F = F2 := by omega
  have n3 : ¬ F = F3 := by omega
  have n4 : ¬ F1 = F2 := by omega
  have n5 : ¬ F1 = F3 := by omega
  have n6 : ¬ F2 = F3 := by omega
  have HF1 := Lib.hid hF1; have HF2 := Lib.hid hF2; have HF3 := Lib.hid hF3
  clear hF1 hF2 hF3
  have v1 := (Upd.refl (· = r) W1).setCell (p := ⟨r, F, none⟩) (fun _ => rfl) (.int .u16 z.r)
  have v2 := v1.setCell (p := ⟨r, F1, none⟩) (fun _ => rfl) (.int .u16 z.g)
  have v3 := v2.setCell (p := ⟨r, F2, none⟩) (fun _ => rfl) (.int .u16 z.b)
  have v4 := v3.setCell (p := ⟨r, F3, none⟩) (fun _ => rfl) (.int .u16 z.a)
  have U1 := Lib.hid v1.drew; have U2 := Lib.hid v2.drew; have U3 := Lib.hid v3.drew; have U4 := Lib.hid v4.drew
  clear v1 v2 v3 v4
  go_region_held3 (fun w' => Upd (· = r) W1 w' ∧ w'.cell? ⟨w.heap.size, 2, none⟩ = some (.slice (some ⟨r, 0, none⟩) n c) ∧ w'.cell? ⟨w.heap.size + 1, 0, none⟩ = some (.int .u16 z.r) ∧ w'.cell? ⟨w.heap.size + 1, 1, none⟩ = some (.int .u16 z.g) ∧ w'.cell? ⟨w.heap.size + 1, 2, none⟩ = some (.int .u16 z.b) ∧ w'.cell? ⟨w.heap.size + 1, 3, none⟩ = some (.int .u16 z.a))
    (first | exact hfull.out _ (Upd.refl _ _) | exact hfull.out _ ((Upd.refl _ _).drew) | exact hfull.out _ U1.out | exact hfull.out _ U2.out | exact hfull.out _ U3.out | exact hfull.out _ U4.out)
    (fail)
  all_goals
    have O4 := urow_set (urow_set (urow_set (urow_set HO.out F z.r) F1 z.g) F2 z.b) F3 z.a
    have O5 := own_upd O4 (Upd.drew (Upd.refl No _)) (fun _ _ => id)
    have U5 := U4.out
    have HO5 := Lib.hid O5
    have HU5 := Lib.hid ((HU.out.mono (fun _ _ h => h.elim)).trans U5)
    clear O4 O5 U5
    refine bodyPost_end (v := .tuple #[]) (by simp [results, Try.results47, go_sem]) rfl ⟨rfl, ?_, HU5.out⟩
    have hs : setQ L F z = (((L.set F z.r).set F1 z.g).set F2 z.b).set F3 z.a := by unfold setQ; rw [HF1.out, HF2.out, HF3.out]
    rw [hs]
    exact HO5.out
end Go.Proofs.Ytkfomjdmdgddlaa
