/- TiffPack. The document's Unpack of runs. -/
import Derived.Test.YthnfnfaiicfenaaUa
import Derived.Test.YthnfnfaiicfenaaPe
namespace Go.Proofs.Ythnfnfaiicfenaa
open Go.ChangeShapes Go.WideShapes Go.ChangeAt Go.RowKit

set_option maxHeartbeats 4000000 in
theorem tiffPack_any (w : World) (A : Option Addr) (c n : Nat) (b : List UInt8) (hn : b.length = n) (h : Bs w w.heap.size A b) (hc : n ≤ c) (hb : n ≤ 1048576) :
    Calls Try.prog 19 #[.slice A n c] w fun e w' => ∃ l A' c', Packed true (packM 8 true 1 b) l ∧ e = .returned (.slice A' l.length c') ∧ w'.ownsRow w.heap.size 5 1 (.slice A' l.length c') l.length (bytesV l) ∧ Below w.heap.size w w' := by
  subst hn
  have HB := Lib.hid h
  clear h
  go_enter Try.func19, Try.ntmps19
  go_wp2_with fail
  refine (tiff_any _).mono ?_
  rintro e w1 ⟨rfl, hb1⟩
  have HP := Lib.hid (pack_any w1 A c b 8 true 1 ((HB.out.below hb1).more hb1.size) hc hb (by omega) (by omega) (by omega))
  have HB1 := Lib.hid hb1
  clear hb1
  go_wp2_with fail
  refine HP.out.mono ?_
  rintro e w2 ⟨l, A', c', hp, rfl, ho, hb2⟩
  have HF : Hid (Packed true (packM 8 true 1 b) l ∧ w2.ownsRow w.heap.size 5 1 (.slice A' l.length c') l.length (bytesV l) ∧ Below w.heap.size w w2) := Lib.hid ⟨hp, own_mono ho HB1.out.size, HB1.out.trans (hb2.mono HB1.out.size)⟩
  clear hp ho hb2 HP
  go_wp2_with fail
  go_ret
  exact ⟨l, A', c', HF.out.1, rfl, HF.out.2.1, HF.out.2.2⟩
end Go.Proofs.Ythnfnfaiicfenaa
