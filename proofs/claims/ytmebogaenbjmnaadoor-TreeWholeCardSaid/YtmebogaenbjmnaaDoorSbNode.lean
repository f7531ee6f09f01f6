/- seal: NodeBytes. -/
import Derived.Test.YtmebogaenbjmnaaDoorSa
import Derived.Test.YtmebogaenbjmnaaDoorConv
namespace Go.Proofs.YtmebogaenbjmnaaDoor.SealW
open Go.RowKit
set_option maxHeartbeats 1000000 in
theorem nodeBytes_any (l r : ByteArray) (w : World) (h1 : l.size ≤ 1099511627776) (h2 : r.size ≤ 1099511627776) :
    Calls Tryd.prog 39 #[.string l, .string r] w fun e w' => ∃ A' c', e = .returned (.slice A' (l.size + r.size + 1) c') ∧ Sl w' A' (bcells (1 :: (l.data.toList ++ r.data.toList))) ∧ l.size + r.size + 1 ≤ c' ∧ c' ≤ maxLen ∧ Below w.heap.size w w' := by
  have HL : Hid (l.data.toList.length = l.size) := bsize l
  have HR : Hid (r.data.toList.length = r.size) := bsize r
  have HF : Hid ((1 :: [l.data.toList, r.data.toList].flatten).length = l.size + r.size + 1) := by show _ = _; simp
  have HM : Hid (([l.data.toList, r.data.toList] : List (List UInt8)).flatten.length = l.size + r.size) := by show _ = _; simp
  go_enter Tryd.func39, Tryd.ntmps39
  go_wp2_with (first
    | (refine wpList_toBytes rfl 9 49 5 (.tmp 5) rfl underStr underBytes underU8 l rfl (by unfold maxLen; omega) ?_; intro A1 c1 w1 b1 s1 k1 m1 a1)
    | (refine wpList_toBytes rfl 9 49 5 (.tmp 7) rfl underStr underBytes underU8 r rfl (by unfold maxLen; omega) ?_; intro A2 c2 w2 b2 s2 k2 m2 a2))
  have h0 : Below w2.heap.size w2 (w2.alloc (.cells #[.slice A1 l.size c1, .slice A2 r.size c2] 49)) := (Below.refl _ _).alloc (Nat.le_refl _) _
  have hs : Sl (w2.alloc (.cells #[.slice A1 l.size c1, .slice A2 r.size c2] 49)) (some ⟨w2.heap.size, 0, none⟩) [.slice A1 l.size c1, .slice A2 r.size c2] := Sl.of_at_all (At.new_ w2 _ 49 [.slice A1 l.size c1, .slice A2 r.size c2] rfl)
  refine (marked_any 1 (some ⟨w2.heap.size, 0, none⟩) 2 2 [.slice A1 l.size c1, .slice A2 r.size c2] [l.data.toList, r.data.toList] _ rfl rfl hs (Parts.two HL.out ((s1.below b2).below h0) HR.out (s2.below h0)) (by omega) (by rw [HM.out]; omega)).mono ?_
  rintro e w3 ⟨A', c', rfl, hs1, hc1, hm1, hb1⟩
  rw [HF.out] at hc1 ⊢
  have q2 := b1.trans (b2.mono b1.size)
  have q3 := q2.trans (h0.mono q2.size)
  have hbel := q3.trans (hb1.mono q3.size)
  go_wp2_with fail
  go_ret
  exact ⟨A', c', rfl, by simpa using hs1, hc1, hm1, hbel⟩
end Go.Proofs.YtmebogaenbjmnaaDoor.SealW
