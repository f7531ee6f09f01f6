/- seal: Leaf. -/
import Derived.Test.YtmebogaenbjmnaaDoorSbLeaf
import Derived.Test.YtmebogaenbjmnaaDoorE2
namespace Go.Proofs.YtmebogaenbjmnaaDoor.SealW
open Go.RowKit
open ShaW Sha
set_option maxHeartbeats 1000000 in
theorem leaf_any (B : Option Addr) (l d : Nat) (bs : List UInt8) (w : World) (hT : Tab w) (hl : bs.length = l) (hb : Sl w B (bcells bs)) (h40 : l ≤ 1000000000000) :
    Calls Tryd.prog 44 #[.slice B l d] w fun e w' => e = .returned (.string ⟨(sha (0 :: bs)).toArray⟩) ∧ Below w.heap.size w w' := by
  have HL : Hid (bs.length = l) := hl
  have HF : Hid ((0 :: bs : List UInt8).length = l + 1) := by show _ = _; simp [hl]
  have hpos := hT.pos
  clear hl
  go_enter Tryd.func44, Tryd.ntmps44
  go_wp2_with fail
  refine (leafBytes_any B l d bs _ HL.out hb (by omega)).mono ?_
  rintro e w1 ⟨A', c', rfl, hs1, hc1, hm1, hb1⟩
  go_wp2_with fail
  refine (sum_wide A' (l + 1) c' (0 :: bs) _ (hT.below hb1 hpos) HF.out hs1 (by omega) hc1 (by unfold maxLen at hm1; omega)).mono ?_
  rintro e w2 ⟨rfl, hb2⟩
  have hbel := hb1.trans (hb2.mono hb1.size)
  go_wp2_with fail
  go_ret
  exact ⟨rfl, hbel⟩
end Go.Proofs.YtmebogaenbjmnaaDoor.SealW
