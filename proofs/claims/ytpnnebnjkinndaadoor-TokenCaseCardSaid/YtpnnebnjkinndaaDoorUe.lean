/- utf: following. -/
import Derived.Test.YtpnnebnjkinndaaDoorUd
import Derived.StillTailTactics
namespace Go.Proofs.YtpnnebnjkinndaaDoor.UtfW
open Go.RowKit
/-- How many bytes stand behind the first. -/
def fol (c : Nat) : Nat := if c < 128 then 0 else if c < 2048 then 1 else if c < 65536 then 2 else 3
theorem fol1 {c : Nat} (h : c < 128) : fol c = 0 := by unfold fol; rw [if_pos h]
theorem fol2 {c : Nat} (h : 128 ≤ c) (h' : c < 2048) : fol c = 1 := by unfold fol; rw [if_neg (by omega), if_pos h']
theorem fol3 {c : Nat} (h : 2048 ≤ c) (h' : c < 65536) : fol c = 2 := by unfold fol; rw [if_neg (by omega), if_neg (by omega), if_pos h']
theorem fol4 {c : Nat} (h : 65536 ≤ c) : fol c = 3 := by unfold fol; rw [if_neg (by omega), if_neg (by omega), if_neg (by omega)]
set_option maxRecDepth 1000000 in
set_option maxHeartbeats 1000000 in
theorem following_any (c : Nat) (w : World) (hT : Tabs w) : Calls Tryd.prog 58 #[.int .i64 (c : Int)] w fun e w' => e = .returned (.int .i64 (fol c : Nat)) ∧ w = w' := by
  have c3 : w.cell? ⟨0, 3, none⟩ = some (.int .i64 128) := hT.shp 1 0 _ (by decide) (by decide) rfl
  have c6 : w.cell? ⟨0, 6, none⟩ = some (.int .i64 2048) := hT.shp 2 0 _ (by decide) (by decide) rfl
  have c9 : w.cell? ⟨0, 9, none⟩ = some (.int .i64 65536) := hT.shp 3 0 _ (by decide) (by decide) rfl
  clear hT
  rcases sizes c with h | ⟨h, h'⟩ | ⟨h, h'⟩ | h
  · have HF := Lib.hid (fol1 h)
    go_enter Tryd.func58, Tryd.ntmps58
    go_wp2_with fail
    go_loop [3] (fun i => ∃ k : Nat, k ≤ 0 ∧ i = .int .i64 k) (fun i => 0 - (intOf i).toNat)
    case atStart => exact ⟨0, by omega, rfl⟩
    case round =>
      obtain ⟨k, hk, rfl⟩ := hrel
      obtain rfl : k = 0 := by omega
      go_wp2_with fail
      go_ret
      exact ⟨by rw [HF.out]; rfl, rfl⟩
  · have HF := Lib.hid (fol2 h h')
    go_enter Tryd.func58, Tryd.ntmps58
    go_wp2_with fail
    go_loop [3] (fun i => ∃ k : Nat, k ≤ 1 ∧ i = .int .i64 k) (fun i => 1 - (intOf i).toNat)
    case atStart => exact ⟨0, by omega, rfl⟩
    case round =>
      obtain ⟨k, hk, rfl⟩ := hrel
      by_cases hk0 : k = 0
      · subst hk0
        go_wp2_with fail
        go_round
        case rel => exact ⟨1, by omega, by go_num⟩
        case measure => simp [intOf]
      obtain rfl : k = 1 := by omega
      go_wp2_with fail
      go_ret
      exact ⟨by rw [HF.out]; rfl, rfl⟩
  · have HF := Lib.hid (fol3 h h')
    go_enter Tryd.func58, Tryd.ntmps58
    go_wp2_with fail
    go_loop [3] (fun i => ∃ k : Nat, k ≤ 2 ∧ i = .int .i64 k) (fun i => 2 - (intOf i).toNat)
    case atStart => exact ⟨0, by omega, rfl⟩
    case round =>
      obtain ⟨k, hk, rfl⟩ := hrel
      by_cases hk0 : k = 0
      · subst hk0
        go_wp2_with fail
        go_round
        case rel => exact ⟨1, by omega, by go_num⟩
        case measure => simp [intOf]
      by_cases hk1 : k = 1
      · subst hk1
        go_wp2_with fail
        go_round
        case rel => exact ⟨2, by omega, by go_num⟩
        case measure => simp [intOf]
      obtain rfl : k = 2 := by omega
      go_wp2_with fail
      go_ret
      exact ⟨by rw [HF.out]; rfl, rfl⟩
  · have HF := Lib.hid (fol4 h)
    go_enter Tryd.func58, Tryd.ntmps58
    go_wp2_with fail
    go_loop [3] (fun i => ∃ k : Nat, k ≤ 3 ∧ i = .int .i64 k) (fun i => 3 - (intOf i).toNat)
    case atStart => exact ⟨0, by omega, rfl⟩
    case round =>
      obtain ⟨k, hk, rfl⟩ := hrel
      by_cases hk0 : k = 0
      · subst hk0
        go_wp2_with fail
        go_round
        case rel => exact ⟨1, by omega, by go_num⟩
        case measure => simp [intOf]
      by_cases hk1 : k = 1
      · subst hk1
        go_wp2_with fail
        go_round
        case rel => exact ⟨2, by omega, by go_num⟩
        case measure => simp [intOf]
      by_cases hk2 : k = 2
      · subst hk2
        go_wp2_with fail
        go_round
        case rel => exact ⟨3, by omega, by go_num⟩
        case measure => simp [intOf]
      obtain rfl : k = 3 := by omega
      go_wp2_with fail
      go_ret
      exact ⟨by rw [HF.out]; rfl, rfl⟩
end Go.Proofs.YtpnnebnjkinndaaDoor.UtfW
