import Derived.Test.YtmebogaenbjmnaaDoorRefS
import Derived.Test.YtmebogaenbjmnaaDoorAb
namespace Go.Proofs.YtmebogaenbjmnaaDoor.ShaW
open Go.RowKit
open Sha
set_option maxHeartbeats 1000000 in
theorem right_q (x : UInt32) (z : Int) (w : World) (h : 0 < z ∧ z < 32) :
    Calls Tryd.prog 58 #[.int .u32 (un x), .int .i64 z] w fun e w' => e = .returned (.int .u32 (un (rotr x z.toNat))) ∧ ∃ m, w' = w.drewN m := by
  obtain ⟨n, rfl⟩ := Int.eq_ofNat_of_zero_le (by omega : 0 ≤ z)
  obtain ⟨h1, h2⟩ := h
  have hsum := rotr_sum x n (by omega)
  have e2 : IntKind.i64.wrap (32 - (n : Int)) = 32 - (n : Int) := IntWalk.i64_in _ (by omega)
  have e3 : Op.shift .shr .u32 (un x) .i64 (n : Int) = pure (.int .u32 (un x / 2 ^ n)) := by
    rw [shift_shr_any _ _ _ _ (by omega), show min (n : Int).toNat IntKind.u32.bits = n by simp only [IntKind.bits]; omega]
  have e4 : Op.shift .shl .u32 (un x) .i64 (32 - (n : Int)) = pure (.int .u32 (un x * 2 ^ (32 - n) % 4294967296)) := by
    rw [shift_shl_any _ _ _ _ (by omega), show min (32 - (n : Int)).toNat IntKind.u32.bits = 32 - n by simp only [IntKind.bits]; omega, IntKind.wrap_u32]
  have e5 : IntKind.u32.wrap (un x / 2 ^ n + un x * 2 ^ (32 - n) % 4294967296) = un (rotr x n) := by rw [IntKind.wrap_u32, hsum]
  clear hsum
  go_enter Tryd.func58, Tryd.ntmps58
  go_wp2_with fail
  go_quiet (fail)
  go_wp2_with fail
  go_ret
  refine ⟨ret_int ?_, _, rfl⟩
  rfl
set_option maxRecDepth 100000 in
set_option maxHeartbeats 1000000 in
theorem const_any (w : World) : Calls Tryd.prog 57 #[] w fun e w' => ∃ g, e = .returned (.slice (some ⟨g, 0, none⟩) 64 64) ∧ At w' g 62 (wcells K) ∧ Below w.heap.size w w' := by
  go_enter Tryd.func57, Tryd.ntmps57
  go_wp2_with fail
  go_ret
  exact ⟨_, rfl, At.new_ w _ 62 (wcells K) rfl, (Below.refl _ _).alloc (Nat.le_refl _) _⟩
end Go.Proofs.YtmebogaenbjmnaaDoor.ShaW
