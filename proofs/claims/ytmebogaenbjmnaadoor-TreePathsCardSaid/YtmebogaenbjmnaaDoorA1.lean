import Derived.Test.YtmebogaenbjmnaaDoorRows
import Derived.Test.YtmebogaenbjmnaaDoorSpec
import Derived.WalkKit
namespace Go.Proofs.YtmebogaenbjmnaaDoor.ShaW
open Go.RowKit
open Sha
theorem ret_int {k : IntKind} {a b : Int} (h : a = b) : Ending.returned (.int k a) = .returned (.int k b) := by rw [h]
set_option maxHeartbeats 400000 in
theorem rotl_any (x : UInt32) (n : Nat) (w : World) (h : 0 < n) (h' : n < 32) :
    Calls Tryd.prog 62 #[.int .u32 (un x), .int .i64 (-(n : Int))] w fun e w' => e = .returned (.int .u32 (un (rotr x n))) ∧ w = w' := by
  have e1 := rot_mask n h h'
  have e2 : IntKind.u64.wrap (32 - (32 - (n : Int))) = (n : Int) := by
    rw [IntWalk.u64_in] <;> omega
  have e3 : 0 ≤ (32 - (n : Int)) := by omega
  have e4 : 0 ≤ (n : Int) := by omega
  have hx := un_lt x
  have hx' := un_nn x
  go_enter Tryd.func62, Tryd.ntmps62
  go_wp2
  go_ret
  exact ⟨ret_int (rotr_int x n), rfl⟩
attribute [local go_sem] xor_u and_u or_u add_u add_u'
set_option maxHeartbeats 400000 in
theorem turned_any (x : UInt32) (i j k : Nat) (w : World) (hi : 0 < i) (hi' : i < 32) (hj : 0 < j) (hj' : j < 32) (hk : 0 < k) (hk' : k < 32) :
    Calls Tryd.prog 61 #[.int .u32 (un x), .int .i64 i, .int .i64 j, .int .i64 k] w fun e w' => e = .returned (.int .u32 (un (rotr x i ^^^ rotr x j ^^^ rotr x k))) ∧ w = w' := by
  go_enter Tryd.func61, Tryd.ntmps61
  go_wp2_with fail
  refine (rotl_any _ _ _ hi hi').mono ?_
  rintro e w' ⟨rfl, rfl⟩
  go_wp2_with fail
  refine (rotl_any _ _ _ hj hj').mono ?_
  rintro e w' ⟨rfl, rfl⟩
  go_wp2_with fail
  refine (rotl_any _ _ _ hk hk').mono ?_
  rintro e w' ⟨rfl, rfl⟩
  go_wp2_with fail
  go_ret
  exact ⟨rfl, rfl⟩
theorem turned_q (x : UInt32) (i j k : Nat) (w : World) (hi : 0 < i ∧ i < 32) (hj : 0 < j ∧ j < 32) (hk : 0 < k ∧ k < 32) :
    Calls Tryd.prog 61 #[.int .u32 (un x), .int .i64 i, .int .i64 j, .int .i64 k] w fun e w' => e = .returned (.int .u32 (un (rotr x i ^^^ rotr x j ^^^ rotr x k))) ∧ w' = w :=
  (turned_any x i j k w hi.1 hi.2 hj.1 hj.2 hk.1 hk.2).mono fun _ _ ⟨h, h'⟩ => ⟨h, h'.symm⟩
end Go.Proofs.YtmebogaenbjmnaaDoor.ShaW
