/- cons: root. -/
import Derived.Test.YtihkfomldbjpoaaDoorJ7
namespace Go.Proofs.YtihkfomldbjpoaaDoor.CoW
open Go.RowKit TreeW TrW
open ShaW Sha
theorem croot_any (A : Option Addr) (l c : Nat) (ss : List ByteArray) (w : World) (hT : Tab w) (hl : ss.length = l) (hs : Sl w A (scells ss)) (hlc : l ≤ c) (hl40 : l ≤ 1099511627776) (hd : Digs ss) :
    Calls Tryd.prog 93 #[.slice A l c] w fun e w' => e = .returned (.string (rt ss)) ∧ Below w.heap.size w w' := by
  have HL := Lib.hid hl
  have HD := Lib.hid hd
  clear hl hd
  go_enter Tryd.func93, Tryd.ntmps93
  go_wp2_with fail
  refine (Root_ok A l c ss _ hT HL.out hs hlc hl40 HD.out).mono ?_
  rintro e w1 ⟨rfl, hb1⟩
  go_wp2_with fail
  go_ret
  exact ⟨rfl, hb1⟩
end Go.Proofs.YtihkfomldbjpoaaDoor.CoW
