/- seal: Node. -/
import Derived.Test.YtmebogaenbjmnaaDoorSbNode
import Derived.Test.YtmebogaenbjmnaaDoorE2
namespace Go.Proofs.YtmebogaenbjmnaaDoor.SealW
open Go.RowKit
open ShaW Sha
set_option maxHeartbeats 1000000 in
theorem node_any (l r : ByteArray) (w : World) (hT : Tab w) (h1 : l.size = 32) (h2 : r.size = 32) :
    Calls Tryd.prog 25 #[.string l, .string r] w fun e w' => e = .returned (.tuple #[.string ⟨(sha (1 :: (l.data.toList ++ r.data.toList))).toArray⟩, .int .i64 0]) ∧ Below w.heap.size w w' := by
  have HF : Hid ((1 :: (l.data.toList ++ r.data.toList) : List UInt8).length = l.size + r.size + 1) := by show _ = _; simp
  have H1 : Hid (l.size = 32) := h1
  have H2 : Hid (r.size = 32) := h2
  have e1 : ((l.size : Nat) : Int) = 32 := by omega
  have e2 : ((r.size : Nat) : Int) = 32 := by omega
  have hpos := hT.pos
  clear h1 h2
  go_enter Tryd.func25, Tryd.ntmps25
  go_wp2_with fail
  refine (nodeBytes_any l r _ (by rw [H1.out]; omega) (by rw [H2.out]; omega)).mono ?_
  rintro e w1 ⟨A', c', rfl, hs1, hc1, hm1, hb1⟩
  go_wp2_with fail
  refine (sum_wide A' (l.size + r.size + 1) c' _ _ (hT.below hb1 hpos) HF.out hs1 (by rw [H1.out, H2.out]; omega) hc1 (by unfold maxLen at hm1; omega)).mono ?_
  rintro e w2 ⟨rfl, hb2⟩
  have hbel := hb1.trans (hb2.mono hb1.size)
  go_wp2_with fail
  go_ret2
  exact ⟨rfl, hbel⟩
theorem node_bad (l r : ByteArray) (w : World) (h : l.size ≠ 32 ∨ r.size ≠ 32) :
    Calls Tryd.prog 25 #[.string l, .string r] w fun e w' => e = .returned (.tuple #[.string ⟨#[]⟩, .int .i64 1]) ∧ w = w' := by
  by_cases h1 : l.size = 32
  · have h2 : r.size ≠ 32 := by omega
    have e1 : ((l.size : Nat) : Int) = 32 := by omega
    have e2 : ¬ ((r.size : Nat) : Int) = 32 := by omega
    clear h h1 h2
    go_enter Tryd.func25, Tryd.ntmps25
    go_wp2_with fail
    go_ret2
    exact ⟨rfl, rfl⟩
  · have e1 : ¬ ((l.size : Nat) : Int) = 32 := by omega
    clear h h1
    go_enter Tryd.func25, Tryd.ntmps25
    go_wp2_with fail
    go_ret2
    exact ⟨rfl, rfl⟩
end Go.Proofs.YtmebogaenbjmnaaDoor.SealW
