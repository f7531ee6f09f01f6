/- seal: LeafBytes. -/
import Derived.Test.YtmebogaenbjmnaaDoorSa
namespace Go.Proofs.YtmebogaenbjmnaaDoor.SealW
open Go.RowKit
set_option maxHeartbeats 1000000 in
theorem leafBytes_any (B : Option Addr) (l d : Nat) (bs : List UInt8) (w : World) (hl : bs.length = l) (hb : Sl w B (bcells bs)) (h45 : l ≤ 35184372088832) :
    Calls Tryd.prog 55 #[.slice B l d] w fun e w' => ∃ A' c', e = .returned (.slice A' (l + 1) c') ∧ Sl w' A' (bcells (0 :: bs)) ∧ l + 1 ≤ c' ∧ c' ≤ maxLen ∧ Below w.heap.size w w' := by
  have HL : Hid (bs.length = l) := hl
  have HF : Hid ((0 :: [bs].flatten).length = l + 1) := by show _ = _; simp [hl]
  have h0 : Below w.heap.size w (w.alloc (.cells #[.slice B l d] 49)) := (Below.refl _ _).alloc (Nat.le_refl _) _
  have hs : Sl (w.alloc (.cells #[.slice B l d] 49)) (some ⟨w.heap.size, 0, none⟩) [.slice B l d] := Sl.of_at_all (At.new_ w _ 49 [.slice B l d] rfl)
  clear hl
  go_enter Tryd.func55, Tryd.ntmps55
  go_wp2_with fail
  refine (marked_any 0 (some ⟨w.heap.size, 0, none⟩) 1 1 [.slice B l d] [bs] _ rfl rfl hs (Parts.one HL.out (hb.below h0)) (by omega) (by simp [HL.out]; omega)).mono ?_
  rintro e w1 ⟨A', c', rfl, hs1, hc1, hm1, hb1⟩
  rw [HF.out] at hc1 ⊢
  have hbel := h0.trans (hb1.mono h0.size)
  go_wp2_with fail
  go_ret
  exact ⟨A', c', rfl, by simpa using hs1, hc1, hm1, hbel⟩
end Go.Proofs.YtmebogaenbjmnaaDoor.SealW
