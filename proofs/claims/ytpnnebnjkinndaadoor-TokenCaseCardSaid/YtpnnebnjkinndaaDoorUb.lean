/- utf: Letter, Digit, Small, Right. -/
import Derived.Test.YtpnnebnjkinndaaDoorUa
namespace Go.Proofs.YtpnnebnjkinndaaDoor.UtfW
open Go.RowKit
set_option maxHeartbeats 400000 in
theorem letter_any (c : Int) (w : World) (hT : Tabs w) : Calls Tryd.prog 36 #[.int .i64 c] w fun e w' => e = .returned (.bool (letterU c)) ∧ Below w.heap.size w w' := by
  go_enter Tryd.func36, Tryd.ntmps36
  go_wp2_with fail
  refine (isOf_any c 1 _ hT).mono ?_
  rintro e w1 ⟨rfl, hb⟩
  rw [cls_letter]
  go_wp2_with fail
  go_ret
  exact ⟨rfl, hb⟩
set_option maxHeartbeats 400000 in
theorem digit_any (c : Int) (w : World) (hT : Tabs w) : Calls Tryd.prog 37 #[.int .i64 c] w fun e w' => e = .returned (.bool (inR c 48 57)) ∧ Below w.heap.size w w' := by
  go_enter Tryd.func37, Tryd.ntmps37
  go_wp2_with fail
  refine (isOf_any c 2 _ hT).mono ?_
  rintro e w1 ⟨rfl, hb⟩
  rw [cls_digit, show (decide (48 ≤ c) && decide (c ≤ 57)) = inR c 48 57 from rfl]
  go_wp2_with fail
  go_ret
  exact ⟨rfl, hb⟩
theorem cap_bound : ∀ k, k < 7 → 65 ≤ (row3 capT k).1 ∧ (row3 capT k).2.1 ≤ 1071 ∧ 0 ≤ (row3 capT k).2.2 ∧ (row3 capT k).2.2 ≤ 80 := by decide
set_option maxRecDepth 100000 in
set_option maxHeartbeats 1000000 in
theorem small_any (c : Int) (w : World) (hT : Tabs w) : Calls Tryd.prog 39 #[.int .i64 c] w fun e w' => e = .returned (.int .i64 (smallU c)) ∧ Below w.heap.size w w' := by
  have HT : Hid (Tri w 1 capT) := hT.cap
  have HS : Hid (capOf c = smallU c) := cap_small c
  clear hT
  go_enter Tryd.func39, Tryd.ntmps39
  go_wp2_with (refine wpList_loadT rfl 74 (.global 1) rfl tyCaps 1 rfl capT HT.out rfl ?_)
  go_loopw [6] (fun i wr => ∃ k : Nat, k ≤ 7 ∧ i = .int .i64 k ∧ Hid (hit capT c = hit (capT.drop k) c) ∧ Below w.heap.size w wr) (fun i _ => 7 - (intOf i).toNat)
  case atStart => exact ⟨0, by omega, rfl, rfl, Below.refl _ _⟩
  case round =>
    obtain ⟨k, hk, rfl, HK, hbel⟩ := hrel
    by_cases hlt : k < 7
    · have hs := hbel.size
      have hbd := cap_bound k hlt
      obtain ⟨z, hz⟩ : ∃ z, z = row3 capT k := ⟨_, rfl⟩
      have HZ : Hid (z = row3 capT k) := hz
      rw [← hz] at hbd
      clear hz
      obtain ⟨d1, d2, d3, d4⟩ := hbd
      have k1 : At (wr.alloc (.cells (t3 (0, 0, 0)).toArray 73)) wr.heap.size 73 (t3 (0, 0, 0)) := At.new_ wr _ _ _ rfl
      have l1 : Below w.heap.size w (wr.alloc (.cells (t3 (0, 0, 0)).toArray 73)) := hbel.alloc hs _
      have YES : Hid (z.1 ≤ c → c ≤ z.2.1 → smallU c = c + z.2.2) := by
        intro h1 h2
        rw [← HS.out]
        unfold capOf
        rw [HK.out, hit_yes capT k c hlt (by rw [← HZ.out]; exact h1) (by rw [← HZ.out]; exact h2), ← HZ.out]
      have NO : Hid (¬ (z.1 ≤ c ∧ c ≤ z.2.1) → hit capT c = hit (capT.drop (k + 1)) c) := by
        intro h1
        rw [HK.out, hit_no capT k c hlt (by rw [← HZ.out]; exact h1)]
      by_cases h1 : z.1 ≤ c
      · by_cases h2 : c ≤ z.2.1
        · have HY := Lib.hid (YES.out h1 h2)
          clear YES NO
          go_wp2_with (first
            | (refine wpList_idxT rfl 74 73 (.tmp 5) (.tmp 6) rfl 7 undCaps tyCap capT rfl .i64 k rfl hlt rfl ?_; rw [← HZ.out])
            | (refine wpList_storeB rfl rfl 73 (.tmp 4) (.tmp 8) rfl tyCap wr.heap.size rfl (t3 z) rfl 73 _ k1 rfl rfl (t3_one _) ?_; intro x1 kx1 ox1; have q1 := ox1.below _ _ l1 hs; obtain ⟨c0, c1, c2⟩ := rec_cells kx1))
          go_ret
          exact ⟨by rw [HY.out]; rfl, q1⟩
        · have HN := Lib.hid (NO.out (by omega))
          clear YES NO
          go_wp2_with (first
            | (refine wpList_idxT rfl 74 73 (.tmp 5) (.tmp 6) rfl 7 undCaps tyCap capT rfl .i64 k rfl hlt rfl ?_; rw [← HZ.out])
            | (refine wpList_storeB rfl rfl 73 (.tmp 4) (.tmp 8) rfl tyCap wr.heap.size rfl (t3 z) rfl 73 _ k1 rfl rfl (t3_one _) ?_; intro x1 kx1 ox1; have q1 := ox1.below _ _ l1 hs; obtain ⟨c0, c1, c2⟩ := rec_cells kx1))
          go_roundw
          case rel => exact ⟨k + 1, by omega, by go_num, HN, q1⟩
          case measure => simp [intOf]; omega
      · have HN := Lib.hid (NO.out (by omega))
        clear YES NO
        go_wp2_with (first
          | (refine wpList_idxT rfl 74 73 (.tmp 5) (.tmp 6) rfl 7 undCaps tyCap capT rfl .i64 k rfl hlt rfl ?_; rw [← HZ.out])
          | (refine wpList_storeB rfl rfl 73 (.tmp 4) (.tmp 8) rfl tyCap wr.heap.size rfl (t3 z) rfl 73 _ k1 rfl rfl (t3_one _) ?_; intro x1 kx1 ox1; have q1 := ox1.below _ _ l1 hs; obtain ⟨c0, c1, c2⟩ := rec_cells kx1))
        go_roundw
        case rel => exact ⟨k + 1, by omega, by go_num, HN, q1⟩
        case measure => simp [intOf]; omega
    · have HN : Hid (smallU c = c) := by
        show _ = _
        rw [← HS.out]; unfold capOf
        rw [HK.out, show k = 7 by omega]; rfl
      go_wp2_with fail
      go_ret
      exact ⟨by rw [HN.out]; rfl, hbel⟩
theorem right_ways (c : Int) : (c < 0 ∧ decide (rightC c) = false) ∨ (0 ≤ c ∧ c < 55296 ∧ decide (rightC c) = true) ∨ (55296 ≤ c ∧ c ≤ 57343 ∧ decide (rightC c) = false) ∨ (57343 < c ∧ c < 1114112 ∧ decide (rightC c) = true) ∨ (1114112 ≤ c ∧ decide (rightC c) = false) := by
  simp only [decide_eq_true_eq, decide_eq_false_iff_not]
  unfold rightC
  omega

set_option maxHeartbeats 400000 in
theorem right_any (c : Int) (w : World) : Calls Tryd.prog 56 #[.int .i64 c] w fun e w' => e = .returned (.bool (decide (rightC c))) ∧ w = w' := by
  rcases right_ways c with ⟨h1, h⟩ | ⟨h1, h2, h⟩ | ⟨h1, h2, h⟩ | ⟨h1, h2, h⟩ | ⟨h1, h⟩ <;> rw [h] <;> clear h
  · go_enter Tryd.func56, Tryd.ntmps56
    go_wp2_with fail
    go_ret
    exact ⟨ret_bool (by first | rfl | (simp; done) | (simp; omega)), rfl⟩
  · go_enter Tryd.func56, Tryd.ntmps56
    go_wp2_with fail
    go_ret
    exact ⟨ret_bool (by first | rfl | (simp; done) | (simp; omega)), rfl⟩
  · have h3 : 0 ≤ c := by omega
    go_enter Tryd.func56, Tryd.ntmps56
    go_wp2_with fail
    go_ret
    exact ⟨ret_bool (by first | rfl | (simp; done) | (simp; omega)), rfl⟩
  · have h3 : 0 ≤ c := by omega
    have h4 : ¬ c < 55296 := by omega
    go_enter Tryd.func56, Tryd.ntmps56
    go_wp2_with fail
    go_ret
    exact ⟨ret_bool (by first | rfl | (simp; done) | (simp; omega)), rfl⟩
  · have h3 : 0 ≤ c := by omega
    have h4 : ¬ c < 55296 := by omega
    have h5 : 57343 < c := by omega
    have h6 : ¬ c < 1114112 := by omega
    go_enter Tryd.func56, Tryd.ntmps56
    go_wp2_with fail
    go_ret
    exact ⟨ret_bool (by first | rfl | (simp; done) | (simp; omega)), rfl⟩
set_option maxHeartbeats 400000 in
theorem refRight (c : Int) (w : World) : Calls Tryd.prog 41 #[.int .i64 c] w fun e w' => e = .returned (.bool (decide (rightC c))) ∧ w = w' := by
  rcases right_ways c with ⟨h1, h⟩ | ⟨h1, h2, h⟩ | ⟨h1, h2, h⟩ | ⟨h1, h2, h⟩ | ⟨h1, h⟩ <;> rw [h] <;> clear h
  · go_enter Tryd.func41, Tryd.ntmps41
    go_wp2_with fail
    go_ret
    exact ⟨ret_bool (by first | rfl | (simp; done) | (simp; omega)), rfl⟩
  · go_enter Tryd.func41, Tryd.ntmps41
    go_wp2_with fail
    go_ret
    exact ⟨ret_bool (by first | rfl | (simp; done) | (simp; omega)), rfl⟩
  · have h3 : 0 ≤ c := by omega
    go_enter Tryd.func41, Tryd.ntmps41
    go_wp2_with fail
    go_ret
    exact ⟨ret_bool (by first | rfl | (simp; done) | (simp; omega)), rfl⟩
  · have h3 : 0 ≤ c := by omega
    have h4 : ¬ c < 55296 := by omega
    go_enter Tryd.func41, Tryd.ntmps41
    go_wp2_with fail
    go_ret
    exact ⟨ret_bool (by first | rfl | (simp; done) | (simp; omega)), rfl⟩
  · have h3 : 0 ≤ c := by omega
    have h4 : ¬ c < 55296 := by omega
    have h5 : 57343 < c := by omega
    have h6 : ¬ c < 1114112 := by omega
    go_enter Tryd.func41, Tryd.ntmps41
    go_wp2_with fail
    go_ret
    exact ⟨ret_bool (by first | rfl | (simp; done) | (simp; omega)), rfl⟩
end Go.Proofs.YtpnnebnjkinndaaDoor.UtfW
