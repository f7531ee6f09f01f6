/- rubrickref03: Node. -/
import Derived.Test.YtmebogaenbjmnaaDoorRsOf
import Derived.Test.YtmebogaenbjmnaaDoorConv
namespace Go.Proofs.YtmebogaenbjmnaaDoor.SealW
open Go.RowKit
open ShaW Sha
set_option maxHeartbeats 1000000 in
theorem refNode_any (l r : ByteArray) (w : World) (hs : l.size + r.size ≤ 1000000000000) :
    Calls Tryd.prog 34 #[.string l, .string r] w fun e w' => e = .returned (.string ⟨(sha (1 :: (l.data.toList ++ r.data.toList))).toArray⟩) ∧ Below w.heap.size w w' := by
  have hsum : ¬ 9223372036854775807 < l.size + r.size := by omega
  obtain ⟨t, ht⟩ : ∃ t, l ++ r = t := ⟨_, rfl⟩
  have HT : Hid (t.data.toList = l.data.toList ++ r.data.toList) := by show _ = _; rw [← ht]; simp
  have HZ : Hid (t.size = l.size + r.size) := by show _ = _; rw [← ht]; simp
  have HZ2 : Hid (t.data.toList.length = t.size) := bsize t
  go_enter Tryd.func34, Tryd.ntmps34
  go_wp2_with (refine wpList_toBytes rfl 9 49 5 (.tmp 7) rfl underStr underBytes underU8 t rfl (by unfold maxLen; rw [HZ.out]; omega) ?_; intro A1 c1 w1 b1 s1 k1 m1 a1)
  refine (refOf_any 1 A1 t.size c1 t.data.toList _ HZ2.out s1 (by rw [HZ.out]; omega)).mono ?_
  rintro e w2 ⟨rfl, hb2⟩
  have hbel := b1.trans (hb2.mono b1.size)
  rw [HT.out]
  go_wp2_with fail
  go_ret
  exact ⟨rfl, hbel⟩
end Go.Proofs.YtmebogaenbjmnaaDoor.SealW
