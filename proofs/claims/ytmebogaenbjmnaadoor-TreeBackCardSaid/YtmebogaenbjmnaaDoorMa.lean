/- tree: Split. -/
import Derived.Test.YtmebogaenbjmnaaDoorMl
import Derived.Test.YtmebogaenbjmnaaDoorMr
import Derived.Test.YtmebogaenbjmnaaDoorMt
import Derived.Lib.BitFns
namespace Go.Proofs.YtmebogaenbjmnaaDoor.TrW
open Go.RowKit TreeW
theorem bitLen_bounds : ∀ (m : Nat), 1 ≤ m → m < 2 ^ 64 → 1 ≤ Lib.bitLen m ∧ 2 ^ (Lib.bitLen m - 1) ≤ m ∧ m < 2 ^ Lib.bitLen m := by
  intro m
  induction m using Nat.strongRecOn with
  | _ m ih =>
    intro h1 h2
    rw [Lib.bitLen_half m (by omega) h2]
    by_cases h : m = 1
    · subst h; decide
    · obtain ⟨a, b, c⟩ := ih (m / 2) (by omega) (by omega) (by omega)
      refine ⟨by omega, ?_, ?_⟩
      · have : 1 + Lib.bitLen (m / 2) - 1 = (Lib.bitLen (m / 2) - 1) + 1 := by omega
        rw [this, Nat.pow_succ]; omega
      · rw [Nat.add_comm, Nat.pow_succ]; omega
theorem split_len {n : Nat} (h : 2 ≤ n) (h2 : n ≤ 1099511627776) : ∃ L, Lib.bitLen (n - 1) = L + 1 ∧ L < 40 ∧ 2 ^ L = split n := by
  obtain ⟨a, b, c⟩ := bitLen_bounds (n - 1) (by omega) (by omega)
  obtain ⟨L, hL⟩ : ∃ L, Lib.bitLen (n - 1) = L + 1 := ⟨Lib.bitLen (n - 1) - 1, by omega⟩
  rw [hL] at b c
  rw [Nat.add_sub_cancel] at b
  refine ⟨L, hL, ?_, (split_uniq rfl (by omega) (by rw [Nat.pow_succ] at c; omega)).symm⟩
  rcases Nat.lt_or_ge L 40 with h | h
  · exact h
  · have : 2 ^ 40 ≤ 2 ^ L := Nat.pow_le_pow_right (by omega) h
    omega
theorem len_any (x : Int) (w : World) (h0 : 0 ≤ x) (h1 : x ≤ 18446744073709551615) : Calls Tryd.prog 32 #[.int .u64 x] w fun e w' => e = .returned (.int .i64 (Lib.bitLen x.toNat)) ∧ w' = w :=
  Any.bits_Len Tryd.lenS x w h0 h1
set_option maxRecDepth 100000 in
set_option maxHeartbeats 1000000 in
theorem split_in (n : Nat) (w : World) (h : 2 ≤ n) (h2 : n ≤ 1099511627776) : Calls Tryd.prog 14 #[.int .i64 (n : Int)] w fun e w' => e = .returned (.int .i64 ((split n : Nat) : Int)) ∧ w = w' := by
  obtain ⟨L, hL, hL40, hS⟩ := split_len h h2
  have HL : Hid (Lib.bitLen ((n : Int) - 1).toNat = L + 1) := by show _ = _; rw [show ((n : Int) - 1).toNat = n - 1 by omega]; exact hL
  have HS := Lib.hid hS
  have k1 : ¬ (n : Int) < 2 := by omega
  have k2 : ¬ (n : Int) > 1099511627776 := by omega
  clear hL hS
  go_enter Tryd.func14, Tryd.ntmps14
  go_wp2_with fail
  refine (len_any ((n : Int) - 1) _ (by omega) (by omega)).mono ?_
  rintro e w1 ⟨rfl, rfl⟩
  rw [HL.out]
  go_wp2_with fail
  go_ret
  refine ⟨?_, rfl⟩
  have hlt := (split_spec h).2.1
  have e1 : (2 : Int) ^ L = ((2 ^ L : Nat) : Int) := by simp
  rw [e1, HS.out]
  have e2 : wrap64 ((split n : Nat) : Int) = ((split n : Nat) : Int) := by unfold wrap64; omega
  rw [e2]; rfl
theorem split_out (n : Int) (w : World) (h : n < 2 ∨ 1099511627776 < n) : Calls Tryd.prog 14 #[.int .i64 n] w fun e w' => e = .returned (.int .i64 0) ∧ w = w' := by
  by_cases h1 : n < 2
  · clear h
    go_enter Tryd.func14, Tryd.ntmps14
    go_wp2_with fail
    go_ret
    exact ⟨rfl, rfl⟩
  · have h2 : n > 1099511627776 := by omega
    clear h
    go_enter Tryd.func14, Tryd.ntmps14
    go_wp2_with fail
    go_ret
    exact ⟨rfl, rfl⟩
/-- The reference's Split. -/
theorem refSplit_out (n : Int) (w : World) (h : n < 2 ∨ 1099511627776 < n) : Calls Tryd.prog 15 #[.int .i64 n] w fun e w' => e = .returned (.int .i64 0) ∧ w = w' := by
  by_cases h1 : n < 2
  · clear h
    go_enter Tryd.func15, Tryd.ntmps15
    go_wp2_with fail
    go_ret
    exact ⟨rfl, rfl⟩
  · have h2 : n > 1099511627776 := by omega
    clear h
    go_enter Tryd.func15, Tryd.ntmps15
    go_wp2_with fail
    go_ret
    exact ⟨rfl, rfl⟩
set_option maxRecDepth 100000 in
set_option maxHeartbeats 1000000 in
theorem refSplit_in (n : Nat) (w : World) (h : 2 ≤ n) (h2 : n ≤ 1099511627776) : Calls Tryd.prog 15 #[.int .i64 (n : Int)] w fun e w' => e = .returned (.int .i64 ((split n : Nat) : Int)) ∧ w = w' := by
  have k1 : ¬ (n : Int) < 2 := by omega
  have k2 : ¬ (n : Int) > 1099511627776 := by omega
  go_enter Tryd.func15, Tryd.ntmps15
  go_wp2_with fail
  go_loop [3] (fun i => ∃ k : Nat, 1 ≤ k ∧ k < n ∧ i = .int .i64 (k : Int) ∧ Hid (∃ j, k = 2 ^ j)) (fun i => n - (intOf i).toNat)
  case atStart => exact ⟨1, by omega, by omega, rfl, ⟨0, rfl⟩⟩
  case round =>
    obtain ⟨k, hk1, hkn, rfl, HK⟩ := hrel
    by_cases hlt : 2 * k < n
    · have h3 : (2 : Int) * (k : Int) < (n : Int) := by omega
      go_wp2_with fail
      go_round
      case rel => exact ⟨2 * k, by omega, hlt, by go_num, by obtain ⟨j, hj⟩ := HK.out; exact ⟨j + 1, by rw [Nat.pow_succ, ← hj]; omega⟩⟩
      case measure => simp [intOf]; omega
    · have h3 : ¬ (2 : Int) * (k : Int) < (n : Int) := by omega
      have HS : Hid (split n = k) := by
        obtain ⟨j, hj⟩ := HK.out
        exact split_uniq hj hkn (by omega)
      go_wp2_with fail
      go_ret
      exact ⟨by rw [HS.out]; rfl, rfl⟩
end Go.Proofs.YtmebogaenbjmnaaDoor.TrW
