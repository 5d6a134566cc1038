/- Contract of the document's Next: the next symbol, bit by bit. -/
import Derived.Test.YthbdhpciibjnmaaMo
import Derived.Test.YthbdhpciibjnmaaRf
namespace Go.Proofs.Ythbdhpciibjnmaa
open Go.ChangeShapes Go.WideShapes Go.ChangeAt Go.RowKit

/-- n bits were taken and make the number v; r rounds are left: how many bits are taken in all, the symbol, the error. -/
def nextFrom (l : List Int) (f : Nat → Bool) (av n v : Nat) : Nat → Nat × Nat × Nat
  | 0 => (n, 0, 32)
  | r + 1 => if av ≤ n then (n, 0, 5) else
    if 2 * endN l n ≤ 2 * v + (f n).toNat ∧ 2 * v + (f n).toNat < endN l (n + 1) then (n + 1, (syms l (n + 1)).getD (2 * v + (f n).toNat - 2 * endN l n) 0, 0)
    else if moreB l (n + 1) (2 * v + (f n).toNat) then nextFrom l f av (n + 1) (2 * v + (f n).toNat) r else (n + 1, 0, 32)
def nextOf (l : List Int) (f : Nat → Bool) (av : Nat) : Nat × Nat × Nat := if anyOf l then nextFrom l f av 0 0 16 else (0, 0, 32)
theorem nextFrom_end {l : List Int} {f : Nat → Bool} {av n v r : Nat} (h : av ≤ n) : nextFrom l f av n v (r + 1) = (n, 0, 5) := by rw [nextFrom, if_pos h]
theorem nextFrom_hit {l : List Int} {f : Nat → Bool} {av n v r y : Nat} (h : ¬ av ≤ n) (hy : y = 2 * v + (f n).toNat) (h1 : 2 * endN l n ≤ y) (h2 : y < endN l (n + 1)) : nextFrom l f av n v (r + 1) = (n + 1, (syms l (n + 1)).getD (y - 2 * endN l n) 0, 0) := by
  subst hy; rw [nextFrom, if_neg h, if_pos ⟨h1, h2⟩]
theorem nextFrom_go {l : List Int} {f : Nat → Bool} {av n v r y : Nat} (h : ¬ av ≤ n) (hy : y = 2 * v + (f n).toNat) (h1 : ¬ (2 * endN l n ≤ y ∧ y < endN l (n + 1))) (h2 : moreB l (n + 1) y = true) : nextFrom l f av n v (r + 1) = nextFrom l f av (n + 1) y r := by
  subst hy; rw [nextFrom, if_neg h, if_neg h1, if_pos h2]
theorem nextFrom_no {l : List Int} {f : Nat → Bool} {av n v r y : Nat} (h : ¬ av ≤ n) (hy : y = 2 * v + (f n).toNat) (h1 : ¬ (2 * endN l n ≤ y ∧ y < endN l (n + 1))) (h2 : moreB l (n + 1) y = false) : nextFrom l f av n v (r + 1) = (n + 1, 0, 32) := by
  subst hy; rw [nextFrom, if_neg h, if_neg h1, h2, if_neg (by decide)]
theorem num_one (high : Bool) (f : Nat → Bool) : num high f 1 = (f 0).toNat := by cases high <;> simp [num, numHi, numLo]
def NextRes (w : World) (A : Option Addr) (c : Nat) (bs : List UInt8) (high : Bool) (at_ : Nat) (x : Nat × Nat × Nat) (e : Ending) (w' : World) : Prop :=
  e = .returned (.tuple #[rdV A c bs high ((at_ + x.1 : Nat) : Int), .int .i64 ((x.2.1 : Nat) : Int), .int .i64 ((x.2.2 : Nat) : Int)]) ∧ Below w.heap.size w w'
def NextAt (w : World) (cs : List Value) (A : Option Addr) (c : Nat) (bs : List UInt8) (high : Bool) (p : Nat) (wr : World) : Prop :=
  Blk wr w.heap.size 63 cs.toArray ∧ Blk wr (w.heap.size + 1) 51 #[.slice A bs.length c, .bool high, .int .i64 (p : Int)] ∧
    (∃ x0 x1 x2, Blk wr (w.heap.size + 1 + 1) 51 #[x0, x1, x2]) ∧ Below w.heap.size w wr

theorem blk_third (w : World) (o o' : Obj) (t : TypeId) (cs : Array Value) : Blk (((w.alloc o).alloc o').alloc (.cells cs t)) (w.heap.size + 1 + 1) t cs := by
  have h := blk_second (w.alloc o) o' t cs
  have e : (w.alloc o).heap.size = w.heap.size + 1 := by simp
  rw [e] at h
  exact h
theorem results_cell2 {P : Program} {fn : Func} {p a b : Tmp} {ty : TypeId} (h : fn.results = #[.cell p ty, .tmp a, .tmp b]) (tmps : Array Value) (w : World) (g : Nat) (t : TypeId) (cs : Array Value) (d : TypeDesc) (u v : Value)
    (hp : tmps.getD p undef = .pointer (some ⟨g, 0, none⟩)) (ha : tmps.getD a undef = u) (hb : tmps.getD b undef = v) (hg : Blk w g t cs)
    (hu : P.underlying ty = some d) (hd : (match d with | .struct _ | .array _ _ => true | _ => false) = true) (hi : (P.info? ty).map (·.size) = some cs.size) :
    (results fn tmps).run P w = .ok (.tuple #[.agg cs, u, v]) w := by
  have hp' : tmps[p]?.getD undef = .pointer (some ⟨g, 0, none⟩) := by simpa using hp
  have ha' : tmps[a]?.getD undef = u := by simpa using ha
  have hb' : tmps[b]?.getD undef = v := by simpa using hb
  have hr := run_loadVar_row (P := P) w g t ty cs (0, 0) d hg hu hd hi
  simp [results, h, hp', ha', hb', asAddr, hr]
theorem rdr_info : (Try.prog.info? 51).map (·.size) = some 3 := by kernel_rfl
theorem res_set {w1 : World} {g : Nat} {t : TypeId} {x0 x1 x2 S T I : Value} (hZ : Blk w1 g t #[x0, x1, x2]) : Blk (((w1.setCell ⟨g, 0, none⟩ S).setCell ⟨g, 1, none⟩ T).setCell ⟨g, 2, none⟩ I) g t #[S, T, I] := ((hZ.set_ 0 S).set_ 1 T).set_ 2 I
theorem below_res {w w1 : World} (h : Below w.heap.size w w1) (S T I : Value) (o : Obj) : Below w.heap.size w ((((w1.setCell ⟨w.heap.size + 1 + 1, 0, none⟩ S).setCell ⟨w.heap.size + 1 + 1, 1, none⟩ T).setCell ⟨w.heap.size + 1 + 1, 2, none⟩ I).alloc o) :=
  (((h.setCell (p := ⟨w.heap.size + 1 + 1, 0, none⟩) (by simp; omega) S).setCell (p := ⟨w.heap.size + 1 + 1, 1, none⟩) (by simp; omega) T).setCell (p := ⟨w.heap.size + 1 + 1, 2, none⟩) (by simp; omega) I).alloc (by have := h.size; simp; omega) o
theorem below_res3 {w w1 : World} (h : Below w.heap.size w w1) (S T I : Value) : Below w.heap.size w (((w1.setCell ⟨w.heap.size + 1 + 1, 0, none⟩ S).setCell ⟨w.heap.size + 1 + 1, 1, none⟩ T).setCell ⟨w.heap.size + 1 + 1, 2, none⟩ I) :=
  ((h.setCell (p := ⟨w.heap.size + 1 + 1, 0, none⟩) (by simp; omega) S).setCell (p := ⟨w.heap.size + 1 + 1, 1, none⟩) (by simp; omega) T).setCell (p := ⟨w.heap.size + 1 + 1, 2, none⟩) (by simp; omega) I
theorem next_start (w : World) (cs : List Value) (A : Option Addr) (c : Nat) (bs : List UInt8) (high : Bool) (at_ : Nat) : NextAt w cs A c bs high at_ (((w.alloc (.cells cs.toArray 63)).alloc (.cells #[.slice A bs.length c, .bool high, .int .i64 (at_ : Int)] 51)).alloc (.cells #[.slice none 0 0, .bool false, .int .i64 0] 51)) :=
  ⟨((Blk.new w _ _).alloc _).alloc _, (blk_second w _ _ _).alloc _, ⟨_, _, _, blk_third w _ _ _ _⟩, (((Below.refl _ _).alloc (Nat.le_refl _) _).alloc (by simp) _).alloc (by simp; omega) _⟩
set_option maxHeartbeats 4000000 in
set_option maxRecDepth 100000 in
theorem refNext_any (l : List Int) (cs : List Value) (A : Option Addr) (c : Nat) (bs : List UInt8) (high : Bool) (at_ : Nat) (w : World) (hT : TblV w w.heap.size l cs) (hl : l.length ≤ 4096) (hro : 0 ≤ roomOf l) (hbs : Bs w w.heap.size A bs) (hbl : bs.length ≤ 140737488355328) (hat : at_ ≤ 8 * bs.length) :
    Calls Try.prog 68 #[.agg cs.toArray, .agg #[.slice A bs.length c, .bool high, .int .i64 (at_ : Int)]] w (NextRes w A c bs high at_ (nextOf l (fun i => bitAt bs high (at_ + i)) (8 * bs.length - at_))) := by
  have HT := Lib.hid hT
  obtain ⟨hcl, hF, hO, hA⟩ := hT
  have hsz : (Try.prog.info? 63).map (·.size) = some cs.toArray.size := by rw [List.size_toArray, hcl]; exact tbl_info
  have hst : NextAt w cs A c bs high at_ (((w.alloc (.cells cs.toArray 63)).alloc (.cells #[.slice A bs.length c, .bool high, .int .i64 (at_ : Int)] 51)).alloc (.cells #[.slice none 0 0, .bool false, .int .i64 0] 51)) := next_start w cs A c bs high at_
  have hca : (((w.alloc (.cells cs.toArray 63)).alloc (.cells #[.slice A bs.length c, .bool high, .int .i64 (at_ : Int)] 51)).alloc (.cells #[.slice none 0 0, .bool false, .int .i64 0] 51)).cell? ⟨w.heap.size, 36, none⟩ = some (.bool (anyOf l)) := by rw [hst.1.cell]; simpa using hA
  have HST := Lib.hid hst; clear hst
  rcases hany : anyOf l with _ | _
  · rw [hany] at hca
    have HX : Hid (nextOf l (fun i => bitAt bs high (at_ + i)) (8 * bs.length - at_) = (0, 0, 32)) := Lib.hid (by unfold nextOf; rw [hany]; rfl)
    clear hany
    go_enter Try.func68, Try.ntmps68
    go_wp2_with fail
    go_returns
    exact ⟨by rw [HX.out]; rfl, by go_grown⟩
  · rw [hany] at hca
    have HX : Hid (nextOf l (fun i => bitAt bs high (at_ + i)) (8 * bs.length - at_) = nextFrom l (fun i => bitAt bs high (at_ + i)) (8 * bs.length - at_) 0 0 16) := Lib.hid (by unfold nextOf; rw [hany]; rfl)
    clear hany
    rw [HX.out]
    clear HX
    generalize hf : (fun i => bitAt bs high (at_ + i)) = f
    have HF := Lib.hid hf; clear hf
    generalize hav : 8 * bs.length - at_ = av
    have HAV := Lib.hid hav; clear hav
    go_enter Try.func68, Try.ntmps68
    go_wp2_with fail
    have HS0 := Lib.hid HST.out; clear HST hca
    go_loopw [7, 8] (fun x i wr => ∃ n v p : Nat, n ≤ 16 ∧ i = .int .i64 ((n : Int) + 1) ∧ x = .int .i64 (v : Int) ∧ Hid (v < 2 ^ n) ∧ n ≤ av ∧ Hid (p = at_ + n) ∧ NextAt w cs A c bs high p wr ∧ Hid (nextFrom l f av n v (16 - n) = nextFrom l f av 0 0 16)) (fun _ i _ => 17 - (intOf i).toNat)
    case atStart => exact ⟨0, 0, at_, by omega, by simp, rfl, Lib.hid (by decide), by omega, Lib.hid rfl, HS0.out, Lib.hid rfl⟩
    case round =>
      obtain ⟨n, v, p, hn16, rfl, rfl, HV, hnav, HP, hNA, HNF⟩ := hrel
      have HNA := Lib.hid hNA; clear hNA
      have hav2 := HAV.out
      have hp := HP.out
      have hr0 : wr.cell? ⟨w.heap.size + 1, 0, none⟩ = some (.slice A bs.length c) := by rw [HNA.out.2.1.cell]; rfl
      have hr1 : wr.cell? ⟨w.heap.size + 1, 1, none⟩ = some (.bool high) := by rw [HNA.out.2.1.cell]; rfl
      have hr2 : wr.cell? ⟨w.heap.size + 1, 2, none⟩ = some (.int .i64 (p : Int)) := by rw [HNA.out.2.1.cell]; rfl
      have hvb : v < 65536 := Nat.lt_of_lt_of_le HV.out (Nat.pow_le_pow_right (n := 2) (by omega) hn16)
      obtain ⟨x0, x1, x2, hZ⟩ := HNA.out.2.2.1
      have HZ := Lib.hid hZ; clear hZ
      by_cases hlt : n < 16
      · have d0 : decide ((n : Int) + 1 ≤ 16) = true := by simp; omega
        obtain ⟨r, hr⟩ : ∃ r, 16 - n = r + 1 := ⟨15 - n, by omega⟩
        have HR := Lib.hid hr; clear hr
        by_cases hend : av ≤ n
        · have HE := Lib.hid (nextFrom_end (l := l) (f := f) (v := v) (r := r) hend)
          have HTK := Lib.hid (refTake_end A bs.length c high p 1 wr (by omega) hbl (by omega) (by omega) (by omega))
          clear hav2 hp
          go_wp2_with fail
          refine HTK.out.mono ?_
          rintro e w1 ⟨rfl, hb1⟩
          have hZ1 : Blk w1 (w.heap.size + 1 + 1) 51 #[x0, x1, x2] := HZ.out.upd (Upd.of_fresh hb1) id
          have z0 : w1.cell? ⟨w.heap.size + 1 + 1, 0, none⟩ = some x0 := by rw [hZ1.cell]; rfl
          have z1 : w1.cell? ⟨w.heap.size + 1 + 1, 1, none⟩ = some x1 := by rw [hZ1.cell]; rfl
          have z2 : w1.cell? ⟨w.heap.size + 1 + 1, 2, none⟩ = some x2 := by rw [hZ1.cell]; rfl
          have y0 := hZ1.frozen 0
          have y1 := hZ1.frozen 1
          have y2 := hZ1.frozen 2
          have hlz := hZ1.lt
          have HB1 := Lib.hid (HNA.out.2.2.2.trans (hb1.mono HNA.out.2.2.2.size))
          have hlw : w.heap.size ≤ w1.heap.size := by omega
          have HE2 : Hid (nextFrom l f av 0 0 16 = (n, 0, 5)) := Lib.hid (by rw [← HNF.out, HR.out, HE.out])
          have HRD : Hid (rdV A c bs high ((at_ + n : Nat) : Int) = .agg #[.slice A bs.length c, .bool high, .int .i64 (p : Int)]) := Lib.hid (by rw [← HP.out]; rfl)
          have HZ1 := Lib.hid hZ1
          clear hZ1 hb1
          go_wp2_with fail
          refine bodyPost_ret (results_cell2 rfl _ _ (w.heap.size + 1 + 1) 51 #[.slice A bs.length c, .bool high, .int .i64 (p : Int)] _ _ _ rfl rfl rfl ((res_set HZ1.out).alloc _) Try.underlying51 rfl rdr_info) rfl ⟨by rw [HE2.out]; exact congrArg (fun z => Ending.returned (.tuple #[z, .int .i64 0, .int .i64 5])) HRD.out.symm, ?_⟩
          exact below_res HB1.out _ _ _ _
        · have hbs2 := hbs.below HNA.out.2.2.2
          have ht := refTake_ok A c bs high p 1 wr (hbs2.more HNA.out.2.2.2.size) hbl (by omega) (by omega)
          rw [num_one, show (p + 0) = p from rfl] at ht
          have hfn : bitAt bs high p = f n := by rw [← HF.out, HP.out]
          rw [hfn] at ht
          have HTK := Lib.hid ht; clear ht hfn hav2 hp
          obtain ⟨b, hb⟩ : ∃ b, b = (f n).toNat := ⟨_, rfl⟩
          have hb2 : b ≤ 1 := by rw [hb]; cases f n <;> simp
          rw [← hb] at HTK
          have HBE := Lib.hid hb; clear hb
          go_wp2_with fail
          refine HTK.out.mono ?_
          rintro e w1 ⟨rfl, hb1⟩
          have hR1 : Blk w1 (w.heap.size + 1) 51 #[.slice A bs.length c, .bool high, .int .i64 (p : Int)] := HNA.out.2.1.upd (Upd.of_fresh hb1) id
          have e0 : w1.cell? ⟨w.heap.size + 1, 0, none⟩ = some (.slice A bs.length c) := by rw [hR1.cell]; rfl
          have e1 : w1.cell? ⟨w.heap.size + 1, 1, none⟩ = some (.bool high) := by rw [hR1.cell]; rfl
          have e2 : w1.cell? ⟨w.heap.size + 1, 2, none⟩ = some (.int .i64 (p : Int)) := by rw [hR1.cell]; rfl
          have g0 := hR1.frozen 0
          have g1 := hR1.frozen 1
          have g2 := hR1.frozen 2
          have hT1 : Blk w1 w.heap.size 63 cs.toArray := HNA.out.1.upd (Upd.of_fresh hb1) id
          have hZ1 : Blk w1 (w.heap.size + 1 + 1) 51 #[x0, x1, x2] := HZ.out.upd (Upd.of_fresh hb1) id
          have hlz := hZ1.lt
          have hly : w.heap.size + 1 < w1.heap.size := by omega
          have hlx : w.heap.size < w1.heap.size := by omega
          have HW1 := Lib.hid (HNA.out.2.2.2.trans (hb1.mono HNA.out.2.2.2.size))
          have HR1 := Lib.hid hR1; clear hR1
          have HT1 := Lib.hid hT1; clear hT1
          have HZ1 := Lib.hid hZ1; clear hZ1
          clear hb1
          go_wp2_with fail
          have hRx := (res_set (S := .slice A bs.length c) (T := .bool high) (I := .int .i64 ((p : Int) + 1)) HR1.out).alloc (.cells #[.slice A bs.length c, .bool high, .int .i64 ((p : Int) + 1)] 51)
          have us : Upd (· = w.heap.size + 1) w1 (((((w1.setCell ⟨w.heap.size + 1, 0, none⟩ (.slice A bs.length c)).setCell ⟨w.heap.size + 1, 1, none⟩ (.bool high)).setCell ⟨w.heap.size + 1, 2, none⟩ (.int .i64 ((p : Int) + 1))).alloc (.cells #[.slice A bs.length c, .bool high, .int .i64 ((p : Int) + 1)] 51))) :=
            ((((Upd.refl (· = w.heap.size + 1) w1).setCell (p := ⟨w.heap.size + 1, 0, none⟩) (fun _ => rfl) _).setCell (p := ⟨w.heap.size + 1, 1, none⟩) (fun _ => rfl) _).setCell (p := ⟨w.heap.size + 1, 2, none⟩) (fun _ => rfl) _).alloc _
          have hTx := HT1.out.upd us (by omega)
          have hZx := HZ1.out.upd us (by omega)
          have hBx : Below w.heap.size w _ := HW1.out.trans (us.below (B := w.heap.size) (by omega) (fun k hk e => by omega))
          have hlxs := us.size
          clear HT1 HZ1 HW1 HR1 us e0 e1 e2 g0 g1 g2
          generalize ((((w1.setCell ⟨w.heap.size + 1, 0, none⟩ (.slice A bs.length c)).setCell ⟨w.heap.size + 1, 1, none⟩ (.bool high)).setCell ⟨w.heap.size + 1, 2, none⟩ (.int .i64 ((p : Int) + 1))).alloc (.cells #[.slice A bs.length c, .bool high, .int .i64 ((p : Int) + 1)] 51)) = wx at *
          obtain ⟨Ar, cr, hrw, hIs⟩ := hO (n + 1) (by omega)
          have hfr := hF (n + 1) (by omega)
          rw [firstOf_mid l (n + 1) (by omega) (by omega), Nat.add_sub_cancel] at hfr
          rw [symsOf_eq l (n + 1) (by omega) (by omega)] at hrw hIs
          have hcr : wx.cell? ⟨w.heap.size, 18 + (n + 1), none⟩ = some (.slice Ar (syms l (n + 1)).length cr) := by rw [hTx.cell]; simpa using hrw
          have hcf : wx.cell? ⟨w.heap.size, n + 1, none⟩ = some (.int .i64 ((2 * endN l n : Nat) : Int)) := by rw [hTx.cell]; simpa using hfr
          have hIx : Is wx w.heap.size Ar (natsI (syms l (n + 1))) := Vs.below hIs hBx
          have HIX := Lib.hid hIx; clear hIx hIs hrw hfr
          obtain ⟨y, hy⟩ : ∃ y, y = 2 * v + b := ⟨_, rfl⟩
          have ey : 2 * (v : Int) + (b : Int) = (y : Int) := by omega
          rw [ey]
          have hep : endN l (n + 1) = 2 * endN l n + (syms l (n + 1)).length := by rw [syms_length]; rfl
          have heb := endN_bd l hro (n + 1) (by omega)
          have HYB : Hid (y < 2 ^ (n + 1)) := Lib.hid (by have := HV.out; rw [Nat.pow_succ]; omega)
          have HYE : Hid (y = 2 * v + (f n).toNat) := Lib.hid (by rw [hy, HBE.out])
          have hyl : y ≤ 131072 := by omega
          have HHIT := Lib.hid (nextFrom_hit (l := l) (f := f) (av := av) (n := n) (v := v) (r := r) (y := y) hend HYE.out)
          have HGO := Lib.hid (nextFrom_go (l := l) (f := f) (av := av) (n := n) (v := v) (r := r) (y := y) hend HYE.out)
          have HNO := Lib.hid (nextFrom_no (l := l) (f := f) (av := av) (n := n) (v := v) (r := r) (y := y) hend HYE.out)
          rw [hep] at HHIT HGO HNO heb
          clear hep hy ey
          have HTX := Lib.hid hTx; clear hTx
          have HRX := Lib.hid hRx; clear hRx
          have HZX := Lib.hid hZx; clear hZx
          have HBX := Lib.hid hBx; clear hBx
          generalize 2 * endN l n = F at *
          generalize syms l (n + 1) = L at *
          have s1 : IntKind.i64.wrap ((F : Int) + (L.length : Int)) = (F : Int) + (L.length : Int) := IntWalk.i64_in _ (by omega)
          by_cases h1 : F ≤ y
          · have c1 : decide (F ≤ y) = true := by simpa using h1
            by_cases h2 : y < F + L.length
            · have c2 : decide ((y : Int) < (F : Int) + (L.length : Int)) = true := by simp; omega
              go_quiet (fail)
              have HTQ : Hid (Blk (wx.drewN nq) w.heap.size 63 cs.toArray) := Lib.hid HTX.out
              have HRQ : Hid (Blk (wx.drewN nq) (w.heap.size + 1) 51 #[.slice A bs.length c, .bool high, .int .i64 ((p : Int) + 1)]) := Lib.hid HRX.out
              have HZQ : Hid (Blk (wx.drewN nq) (w.heap.size + 1 + 1) 51 #[x0, x1, x2]) := Lib.hid HZX.out
              have HBQ := Lib.hid (below_drewN HBX.out nq)
              have HBSx := Lib.hid (Is.at_ (k := y - F) (Vs.below HIX.out (below_drewN (Below.refl w.heap.size wx) nq)) (by rw [natsI_length]; omega))
              have HH2 := Lib.hid (HHIT.out h1 h2)
              have hcrq : (wx.drewN nq).cell? ⟨w.heap.size, 18 + (n + 1), none⟩ = some (.slice Ar L.length cr) := hcr
              have hcfq : (wx.drewN nq).cell? ⟨w.heap.size, n + 1, none⟩ = some (.int .i64 (F : Int)) := hcf
              have t1 : 0 ≤ (n : Int) + 1 := by omega
              have t2 : (n : Int) + 1 < 18 := by omega
              clear HTX HRX HZX HBX HGO HNO HHIT hcr hcf
              generalize wx.drewN nq = wq at *
              obtain ⟨ar, rfl, harb, hsy⟩ := HBSx.out
              rw [natsI_get L (y - F) (by omega)] at hsy
              have hgd : L.getD (y - F) 0 = L[y - F]'(by omega) := by rw [List.getD, List.getElem?_eq_getElem (by omega)]; rfl
              have HGD := Lib.hid hgd; clear hgd
              generalize L[y - F]'(by omega) = sy at *
              have e0 : wq.cell? ⟨w.heap.size + 1, 0, none⟩ = some (.slice A bs.length c) := by rw [HRQ.out.cell]; rfl
              have e1 : wq.cell? ⟨w.heap.size + 1, 1, none⟩ = some (.bool high) := by rw [HRQ.out.cell]; rfl
              have e2 : wq.cell? ⟨w.heap.size + 1, 2, none⟩ = some (.int .i64 ((p : Int) + 1)) := by rw [HRQ.out.cell]; rfl
              have z0 : wq.cell? ⟨w.heap.size + 1 + 1, 0, none⟩ = some x0 := by rw [HZQ.out.cell]; rfl
              have z1 : wq.cell? ⟨w.heap.size + 1 + 1, 1, none⟩ = some x1 := by rw [HZQ.out.cell]; rfl
              have z2 : wq.cell? ⟨w.heap.size + 1 + 1, 2, none⟩ = some x2 := by rw [HZQ.out.cell]; rfl
              have y0 := HZQ.out.frozen 0
              have y1 := HZQ.out.frozen 1
              have y2 := HZQ.out.frozen 2
              have hsy2 : (((wq.setCell ⟨w.heap.size + 1 + 1, 0, none⟩ (.slice A bs.length c)).setCell ⟨w.heap.size + 1 + 1, 1, none⟩ (.bool high)).setCell ⟨w.heap.size + 1 + 1, 2, none⟩ (.int .i64 ((p : Int) + 1))).cell? (ar.add (y - F)) = some (.int .i64 (sy : Int)) := by
                have hne : ∀ k, ar.add (y - F) ≠ ⟨w.heap.size + 1 + 1, k, none⟩ := fun k e => by
                  have h := block_of_add ar (y - F)
                  rw [e] at h
                  simp at h
                  omega
                rw [World.cell?_setCell_other _ _ _ _ (fun e => hne 2 e.symm), World.cell?_setCell_other _ _ _ _ (fun e => hne 1 e.symm), World.cell?_setCell_other _ _ _ _ (fun e => hne 0 e.symm)]
                exact hsy
              have s2 : IntKind.i64.wrap ((y : Int) - (F : Int)) = (y : Int) - (F : Int) := IntWalk.i64_in _ (by omega)
              have s3 : ((y : Int) - (F : Int)).toNat = y - F := by omega
              have s4 : 0 ≤ (y : Int) - (F : Int) := by omega
              have s5 : (y : Int) - (F : Int) < (L.length : Int) := by omega
              have s6 : y - F < L.length := by omega
              have HRD : Hid (rdV A c bs high ((at_ + (n + 1) : Nat) : Int) = .agg #[.slice A bs.length c, .bool high, .int .i64 ((p : Int) + 1)]) := Lib.hid (by have h := HP.out; unfold rdV; rw [show (((at_ + (n + 1) : Nat)) : Int) = (p : Int) + 1 from by omega])
              have HE2 : Hid (nextFrom l f av 0 0 16 = (n + 1, sy, 0)) := Lib.hid (by rw [← HNF.out, HR.out, HH2.out, HGD.out])
              clear HBSx
              go_wp2_with fail
              go_region
              clear s1 s2 s3 s4 s5 s6
              go_wp2_with fail
              refine bodyPost_ret (results_cell2 rfl _ _ (w.heap.size + 1 + 1) 51 #[.slice A bs.length c, .bool high, .int .i64 ((p : Int) + 1)] _ _ _ rfl rfl rfl (Blk.upd (res_set HZQ.out) (Upd.drew (Upd.refl No _)) id) Try.underlying51 rfl rdr_info) rfl ⟨by rw [HE2.out]; exact congrArg (fun z => Ending.returned (.tuple #[z, .int .i64 (sy : Int), .int .i64 0])) HRD.out.symm, (below_res3 HBQ.out _ _ _).drew⟩
            · have c2 : decide ((y : Int) < (F : Int) + (L.length : Int)) = false := by simp; omega
              go_quiet (fail)
              have hnh : ¬ (F ≤ y ∧ y < F + L.length) := by omega
              have HG2 := Lib.hid (HGO.out hnh)
              have HN2 := Lib.hid (HNO.out hnh)
              have HTQ : Hid (Blk (wx.drewN nq) w.heap.size 63 cs.toArray) := Lib.hid HTX.out
              have HRQ : Hid (Blk (wx.drewN nq) (w.heap.size + 1) 51 #[.slice A bs.length c, .bool high, .int .i64 ((p : Int) + 1)]) := Lib.hid HRX.out
              have HZQ : Hid (Blk (wx.drewN nq) (w.heap.size + 1 + 1) 51 #[x0, x1, x2]) := Lib.hid HZX.out
              have HBQ := Lib.hid (below_drewN HBX.out nq)
              clear HTX HRX HZX HBX HGO HNO HHIT hnh
              generalize wx.drewN nq = wq at *
              have hmo := refMore_any l cs (n + 1) y w.heap.size wq (HT.out.below HBQ.out) (by omega) (by omega) HYB.out hl hro
              rw [show (((n + 1 : Nat)) : Int) = (n : Int) + 1 from by omega] at hmo
              have HMO := Lib.hid hmo; clear hmo
              rcases hmb : moreB l (n + 1) y with _ | _
              · have HN3 := Lib.hid (HN2.out hmb)
                rw [hmb] at HMO
                clear hmb s1
                go_wp2_with (refine wpList_load_row rfl 63 (.tmp 2) rfl w.heap.size rfl 63 cs.toArray (0, 0) _ HTQ.out Try.underlying63 rfl hsz ?_)
                refine HMO.out.mono ?_
                rintro e w3 ⟨rfl, hb3⟩
                have hR3 := HRQ.out.upd (Upd.of_fresh hb3) id
                have hZ3 := HZQ.out.upd (Upd.of_fresh hb3) id
                have HB3 := Lib.hid (HBQ.out.trans (hb3.mono HBQ.out.size))
                have e0 : w3.cell? ⟨w.heap.size + 1, 0, none⟩ = some (.slice A bs.length c) := by rw [hR3.cell]; rfl
                have e1 : w3.cell? ⟨w.heap.size + 1, 1, none⟩ = some (.bool high) := by rw [hR3.cell]; rfl
                have e2 : w3.cell? ⟨w.heap.size + 1, 2, none⟩ = some (.int .i64 ((p : Int) + 1)) := by rw [hR3.cell]; rfl
                have z0 : w3.cell? ⟨w.heap.size + 1 + 1, 0, none⟩ = some x0 := by rw [hZ3.cell]; rfl
                have z1 : w3.cell? ⟨w.heap.size + 1 + 1, 1, none⟩ = some x1 := by rw [hZ3.cell]; rfl
                have z2 : w3.cell? ⟨w.heap.size + 1 + 1, 2, none⟩ = some x2 := by rw [hZ3.cell]; rfl
                have y0 := hZ3.frozen 0
                have y1 := hZ3.frozen 1
                have y2 := hZ3.frozen 2
                have HZ3 := Lib.hid hZ3; clear hZ3 hR3 hb3
                have HE2 : Hid (nextFrom l f av 0 0 16 = (n + 1, 0, 32)) := Lib.hid (by rw [← HNF.out, HR.out, HN3.out])
                have HRD : Hid (rdV A c bs high ((at_ + (n + 1) : Nat) : Int) = .agg #[.slice A bs.length c, .bool high, .int .i64 ((p : Int) + 1)]) := Lib.hid (by have h := HP.out; unfold rdV; rw [show (((at_ + (n + 1) : Nat)) : Int) = (p : Int) + 1 from by omega])
                go_wp2_with fail
                refine bodyPost_ret (results_cell2 rfl _ _ (w.heap.size + 1 + 1) 51 #[.slice A bs.length c, .bool high, .int .i64 ((p : Int) + 1)] _ _ _ rfl rfl rfl (res_set HZ3.out) Try.underlying51 rfl rdr_info) rfl ⟨by rw [HE2.out]; exact congrArg (fun z => Ending.returned (.tuple #[z, .int .i64 0, .int .i64 32])) HRD.out.symm, below_res3 HB3.out _ _ _⟩
              · have HN3 := Lib.hid (HG2.out hmb)
                rw [hmb] at HMO
                clear hmb s1
                go_wp2_with (refine wpList_load_row rfl 63 (.tmp 2) rfl w.heap.size rfl 63 cs.toArray (0, 0) _ HTQ.out Try.underlying63 rfl hsz ?_)
                refine HMO.out.mono ?_
                rintro e w3 ⟨rfl, hb3⟩
                have HNA3 : Hid (NextAt w cs A c bs high (p + 1) w3) := Lib.hid ⟨HTQ.out.upd (Upd.of_fresh hb3) id, HRQ.out.upd (Upd.of_fresh hb3) id, ⟨x0, x1, x2, HZQ.out.upd (Upd.of_fresh hb3) id⟩, HBQ.out.trans (hb3.mono HBQ.out.size)⟩
                clear hb3
                go_wp2_with fail
                go_roundw
                case rel => exact ⟨n + 1, y, p + 1, by omega, by go_num, rfl, HYB, by omega, Lib.hid (by have h := HP.out; omega), HNA3.out, Lib.hid (by rw [← HNF.out, HR.out, HN3.out, show 16 - (n + 1) = r from by have h := HR.out; omega])⟩
                case measure => simp [intOf]; omega
          · have c1 : decide (F ≤ y) = false := by simpa using h1
            go_quiet (fail)
            have hnh : ¬ (F ≤ y ∧ y < F + L.length) := by omega
            have HG2 := Lib.hid (HGO.out hnh)
            have HN2 := Lib.hid (HNO.out hnh)
            have HTQ : Hid (Blk (wx.drewN nq) w.heap.size 63 cs.toArray) := Lib.hid HTX.out
            have HRQ : Hid (Blk (wx.drewN nq) (w.heap.size + 1) 51 #[.slice A bs.length c, .bool high, .int .i64 ((p : Int) + 1)]) := Lib.hid HRX.out
            have HZQ : Hid (Blk (wx.drewN nq) (w.heap.size + 1 + 1) 51 #[x0, x1, x2]) := Lib.hid HZX.out
            have HBQ := Lib.hid (below_drewN HBX.out nq)
            clear HTX HRX HZX HBX HGO HNO HHIT hnh
            generalize wx.drewN nq = wq at *
            have hmo := refMore_any l cs (n + 1) y w.heap.size wq (HT.out.below HBQ.out) (by omega) (by omega) HYB.out hl hro
            rw [show (((n + 1 : Nat)) : Int) = (n : Int) + 1 from by omega] at hmo
            have HMO := Lib.hid hmo; clear hmo
            rcases hmb : moreB l (n + 1) y with _ | _
            · have HN3 := Lib.hid (HN2.out hmb)
              rw [hmb] at HMO
              clear hmb s1
              go_wp2_with (refine wpList_load_row rfl 63 (.tmp 2) rfl w.heap.size rfl 63 cs.toArray (0, 0) _ HTQ.out Try.underlying63 rfl hsz ?_)
              refine HMO.out.mono ?_
              rintro e w3 ⟨rfl, hb3⟩
              have hR3 := HRQ.out.upd (Upd.of_fresh hb3) id
              have hZ3 := HZQ.out.upd (Upd.of_fresh hb3) id
              have HB3 := Lib.hid (HBQ.out.trans (hb3.mono HBQ.out.size))
              have e0 : w3.cell? ⟨w.heap.size + 1, 0, none⟩ = some (.slice A bs.length c) := by rw [hR3.cell]; rfl
              have e1 : w3.cell? ⟨w.heap.size + 1, 1, none⟩ = some (.bool high) := by rw [hR3.cell]; rfl
              have e2 : w3.cell? ⟨w.heap.size + 1, 2, none⟩ = some (.int .i64 ((p : Int) + 1)) := by rw [hR3.cell]; rfl
              have z0 : w3.cell? ⟨w.heap.size + 1 + 1, 0, none⟩ = some x0 := by rw [hZ3.cell]; rfl
              have z1 : w3.cell? ⟨w.heap.size + 1 + 1, 1, none⟩ = some x1 := by rw [hZ3.cell]; rfl
              have z2 : w3.cell? ⟨w.heap.size + 1 + 1, 2, none⟩ = some x2 := by rw [hZ3.cell]; rfl
              have y0 := hZ3.frozen 0
              have y1 := hZ3.frozen 1
              have y2 := hZ3.frozen 2
              have HZ3 := Lib.hid hZ3; clear hZ3 hR3 hb3
              have HE2 : Hid (nextFrom l f av 0 0 16 = (n + 1, 0, 32)) := Lib.hid (by rw [← HNF.out, HR.out, HN3.out])
              have HRD : Hid (rdV A c bs high ((at_ + (n + 1) : Nat) : Int) = .agg #[.slice A bs.length c, .bool high, .int .i64 ((p : Int) + 1)]) := Lib.hid (by have h := HP.out; unfold rdV; rw [show (((at_ + (n + 1) : Nat)) : Int) = (p : Int) + 1 from by omega])
              go_wp2_with fail
              refine bodyPost_ret (results_cell2 rfl _ _ (w.heap.size + 1 + 1) 51 #[.slice A bs.length c, .bool high, .int .i64 ((p : Int) + 1)] _ _ _ rfl rfl rfl (res_set HZ3.out) Try.underlying51 rfl rdr_info) rfl ⟨by rw [HE2.out]; exact congrArg (fun z => Ending.returned (.tuple #[z, .int .i64 0, .int .i64 32])) HRD.out.symm, below_res3 HB3.out _ _ _⟩
            · have HN3 := Lib.hid (HG2.out hmb)
              rw [hmb] at HMO
              clear hmb s1
              go_wp2_with (refine wpList_load_row rfl 63 (.tmp 2) rfl w.heap.size rfl 63 cs.toArray (0, 0) _ HTQ.out Try.underlying63 rfl hsz ?_)
              refine HMO.out.mono ?_
              rintro e w3 ⟨rfl, hb3⟩
              have HNA3 : Hid (NextAt w cs A c bs high (p + 1) w3) := Lib.hid ⟨HTQ.out.upd (Upd.of_fresh hb3) id, HRQ.out.upd (Upd.of_fresh hb3) id, ⟨x0, x1, x2, HZQ.out.upd (Upd.of_fresh hb3) id⟩, HBQ.out.trans (hb3.mono HBQ.out.size)⟩
              clear hb3
              go_wp2_with fail
              go_roundw
              case rel => exact ⟨n + 1, y, p + 1, by omega, by go_num, rfl, HYB, by omega, Lib.hid (by have h := HP.out; omega), HNA3.out, Lib.hid (by rw [← HNF.out, HR.out, HN3.out, show 16 - (n + 1) = r from by have h := HR.out; omega])⟩
              case measure => simp [intOf]; omega
      · obtain rfl : n = 16 := by omega
        have d0 : decide (((16 : Nat) : Int) + 1 ≤ 16) = false := by simp
        have z0 : wr.cell? ⟨w.heap.size + 1 + 1, 0, none⟩ = some x0 := by rw [HZ.out.cell]; rfl
        have z1 : wr.cell? ⟨w.heap.size + 1 + 1, 1, none⟩ = some x1 := by rw [HZ.out.cell]; rfl
        have z2 : wr.cell? ⟨w.heap.size + 1 + 1, 2, none⟩ = some x2 := by rw [HZ.out.cell]; rfl
        have y0 := HZ.out.frozen 0
        have y1 := HZ.out.frozen 1
        have y2 := HZ.out.frozen 2
        have HE2 : Hid (nextFrom l f av 0 0 16 = (16, 0, 32)) := Lib.hid (by rw [← HNF.out]; rfl)
        have HRD : Hid (rdV A c bs high ((at_ + 16 : Nat) : Int) = .agg #[.slice A bs.length c, .bool high, .int .i64 (p : Int)]) := Lib.hid (by rw [← HP.out]; rfl)
        have HB3 := Lib.hid HNA.out.2.2.2
        clear hp hav2
        go_wp2_with fail
        refine bodyPost_ret (results_cell2 rfl _ _ (w.heap.size + 1 + 1) 51 #[.slice A bs.length c, .bool high, .int .i64 (p : Int)] _ _ _ rfl rfl rfl (res_set HZ.out) Try.underlying51 rfl rdr_info) rfl ⟨by rw [HE2.out]; exact congrArg (fun z => Ending.returned (.tuple #[z, .int .i64 0, .int .i64 32])) HRD.out.symm, below_res3 HB3.out _ _ _⟩
end Go.Proofs.Ythbdhpciibjnmaa
