/- rubrickref03: Of. -/
import Derived.Test.YtmebogaenbjmnaaDoorRsBytes
import Derived.Test.YtmebogaenbjmnaaDoorD5
namespace Go.Proofs.YtmebogaenbjmnaaDoor.SealW
open Go.RowKit
open ShaW Sha
set_option maxHeartbeats 1000000 in
theorem refOf_any (k : UInt8) (B : Option Addr) (l d : Nat) (bs : List UInt8) (w : World) (hl : bs.length = l) (hb : Sl w B (bcells bs)) (h40 : l ≤ 1000000000000) :
    Calls Tryd.prog 50 #[.int .i64 (ub k), .slice B l d] w fun e w' => e = .returned (.string ⟨(sha (k :: bs)).toArray⟩) ∧ Below w.heap.size w w' := by
  have HL : Hid (bs.length = l) := hl
  have HF : Hid ((k :: bs : List UInt8).length = l + 1) := by show _ = _; simp [hl]
  clear hl
  go_enter Tryd.func50, Tryd.ntmps50
  go_wp2_with fail
  refine (refBytes_any k B l d bs _ HL.out hb (by omega)).mono ?_
  rintro e w1 ⟨A', c', rfl, hs1, hc1, hm1, hb1⟩
  go_wp2_with fail
  refine (refSum_any A' (l + 1) c' (k :: bs) _ HF.out hs1 (by omega)).mono ?_
  rintro e w2 ⟨rfl, hb2⟩
  have hbel := hb1.trans (hb2.mono hb1.size)
  go_wp2_with fail
  go_ret
  exact ⟨rfl, hbel⟩
end Go.Proofs.YtmebogaenbjmnaaDoor.SealW
