/- The reference's in, Letter, Small, least. -/
import Derived.Test.YtpnnebnjkinndaaDoorUb
namespace Go.Proofs.YtpnnebnjkinndaaDoor.UtfW
open Go.RowKit
set_option maxHeartbeats 400000 in
theorem in_any (c a b : Int) (w : World) : Calls Tryd.prog 54 #[.int .i64 c, .int .i64 a, .int .i64 b] w fun e w' => e = .returned (.bool (inR c a b)) ∧ w = w' := by
  by_cases h1 : a ≤ c
  · by_cases h2 : c ≤ b
    · rw [show inR c a b = true by simp [inR, h1, h2]]
      go_enter Tryd.func54, Tryd.ntmps54
      go_wp2_with fail
      go_ret
      exact ⟨ret_bool (by first | rfl | (simp; done) | (simp; omega)), rfl⟩
    · rw [show inR c a b = false by simp [inR]; omega]
      go_enter Tryd.func54, Tryd.ntmps54
      go_wp2_with fail
      go_ret
      exact ⟨ret_bool (by first | rfl | (simp; done) | (simp; omega)), rfl⟩
  · rw [show inR c a b = false by simp [inR]; omega]
    go_enter Tryd.func54, Tryd.ntmps54
    go_wp2_with fail
    go_ret
    exact ⟨ret_bool (by first | rfl | (simp; done) | (simp; omega)), rfl⟩
set_option maxHeartbeats 400000 in
theorem least_any (a b : Int) (w : World) : Calls Tryd.prog 43 #[.int .i64 a, .int .i64 b] w fun e w' => e = .returned (.int .i64 (if a < b then a else b)) ∧ w = w' := by
  by_cases h : a < b
  · rw [if_pos h]
    go_enter Tryd.func43, Tryd.ntmps43
    go_wp2_with fail
    go_ret
    exact ⟨rfl, rfl⟩
  · rw [if_neg h]
    go_enter Tryd.func43, Tryd.ntmps43
    go_wp2_with fail
    go_ret
    exact ⟨rfl, rfl⟩
set_option maxHeartbeats 1000000 in
theorem refLetter (c : Int) (w : World) : Calls Tryd.prog 34 #[.int .i64 c] w fun e w' => e = .returned (.bool (letterU c)) ∧ w = w' := by
  cases e0 : inR c 65 90
  case true =>
    rw [show letterU c = true by simp only [letterU, e0]; rfl]
    go_enter Tryd.func34, Tryd.ntmps34
    go_wp2_with fail
    refine (in_any c 65 90 _).mono ?_
    rintro e w1 ⟨rfl, rfl⟩
    rw [e0]
    go_wp2_with fail
    go_ret
    exact ⟨rfl, rfl⟩
  cases e1 : inR c 97 122
  case true =>
    rw [show letterU c = true by simp only [letterU, e0, e1]; rfl]
    go_enter Tryd.func34, Tryd.ntmps34
    go_wp2_with fail
    refine (in_any c 65 90 _).mono ?_
    rintro e w1 ⟨rfl, rfl⟩
    rw [e0]
    go_wp2_with fail
    refine (in_any c 97 122 _).mono ?_
    rintro e w1 ⟨rfl, rfl⟩
    rw [e1]
    go_wp2_with fail
    go_ret
    exact ⟨rfl, rfl⟩
  cases e2 : inR c 192 214
  case true =>
    rw [show letterU c = true by simp only [letterU, e0, e1, e2]; rfl]
    go_enter Tryd.func34, Tryd.ntmps34
    go_wp2_with fail
    refine (in_any c 65 90 _).mono ?_
    rintro e w1 ⟨rfl, rfl⟩
    rw [e0]
    go_wp2_with fail
    refine (in_any c 97 122 _).mono ?_
    rintro e w1 ⟨rfl, rfl⟩
    rw [e1]
    go_wp2_with fail
    refine (in_any c 192 214 _).mono ?_
    rintro e w1 ⟨rfl, rfl⟩
    rw [e2]
    go_wp2_with fail
    go_ret
    exact ⟨rfl, rfl⟩
  cases e3 : inR c 216 246
  case true =>
    rw [show letterU c = true by simp only [letterU, e0, e1, e2, e3]; rfl]
    go_enter Tryd.func34, Tryd.ntmps34
    go_wp2_with fail
    refine (in_any c 65 90 _).mono ?_
    rintro e w1 ⟨rfl, rfl⟩
    rw [e0]
    go_wp2_with fail
    refine (in_any c 97 122 _).mono ?_
    rintro e w1 ⟨rfl, rfl⟩
    rw [e1]
    go_wp2_with fail
    refine (in_any c 192 214 _).mono ?_
    rintro e w1 ⟨rfl, rfl⟩
    rw [e2]
    go_wp2_with fail
    refine (in_any c 216 246 _).mono ?_
    rintro e w1 ⟨rfl, rfl⟩
    rw [e3]
    go_wp2_with fail
    go_ret
    exact ⟨rfl, rfl⟩
  cases e4 : inR c 248 255
  case true =>
    rw [show letterU c = true by simp only [letterU, e0, e1, e2, e3, e4]; rfl]
    go_enter Tryd.func34, Tryd.ntmps34
    go_wp2_with fail
    refine (in_any c 65 90 _).mono ?_
    rintro e w1 ⟨rfl, rfl⟩
    rw [e0]
    go_wp2_with fail
    refine (in_any c 97 122 _).mono ?_
    rintro e w1 ⟨rfl, rfl⟩
    rw [e1]
    go_wp2_with fail
    refine (in_any c 192 214 _).mono ?_
    rintro e w1 ⟨rfl, rfl⟩
    rw [e2]
    go_wp2_with fail
    refine (in_any c 216 246 _).mono ?_
    rintro e w1 ⟨rfl, rfl⟩
    rw [e3]
    go_wp2_with fail
    refine (in_any c 248 255 _).mono ?_
    rintro e w1 ⟨rfl, rfl⟩
    rw [e4]
    go_wp2_with fail
    go_ret
    exact ⟨rfl, rfl⟩
  cases e5 : inR c 913 929
  case true =>
    rw [show letterU c = true by simp only [letterU, e0, e1, e2, e3, e4, e5]; rfl]
    go_enter Tryd.func34, Tryd.ntmps34
    go_wp2_with fail
    refine (in_any c 65 90 _).mono ?_
    rintro e w1 ⟨rfl, rfl⟩
    rw [e0]
    go_wp2_with fail
    refine (in_any c 97 122 _).mono ?_
    rintro e w1 ⟨rfl, rfl⟩
    rw [e1]
    go_wp2_with fail
    refine (in_any c 192 214 _).mono ?_
    rintro e w1 ⟨rfl, rfl⟩
    rw [e2]
    go_wp2_with fail
    refine (in_any c 216 246 _).mono ?_
    rintro e w1 ⟨rfl, rfl⟩
    rw [e3]
    go_wp2_with fail
    refine (in_any c 248 255 _).mono ?_
    rintro e w1 ⟨rfl, rfl⟩
    rw [e4]
    go_wp2_with fail
    refine (in_any c 913 929 _).mono ?_
    rintro e w1 ⟨rfl, rfl⟩
    rw [e5]
    go_wp2_with fail
    go_ret
    exact ⟨rfl, rfl⟩
  cases e6 : inR c 931 937
  case true =>
    rw [show letterU c = true by simp only [letterU, e0, e1, e2, e3, e4, e5, e6]; rfl]
    go_enter Tryd.func34, Tryd.ntmps34
    go_wp2_with fail
    refine (in_any c 65 90 _).mono ?_
    rintro e w1 ⟨rfl, rfl⟩
    rw [e0]
    go_wp2_with fail
    refine (in_any c 97 122 _).mono ?_
    rintro e w1 ⟨rfl, rfl⟩
    rw [e1]
    go_wp2_with fail
    refine (in_any c 192 214 _).mono ?_
    rintro e w1 ⟨rfl, rfl⟩
    rw [e2]
    go_wp2_with fail
    refine (in_any c 216 246 _).mono ?_
    rintro e w1 ⟨rfl, rfl⟩
    rw [e3]
    go_wp2_with fail
    refine (in_any c 248 255 _).mono ?_
    rintro e w1 ⟨rfl, rfl⟩
    rw [e4]
    go_wp2_with fail
    refine (in_any c 913 929 _).mono ?_
    rintro e w1 ⟨rfl, rfl⟩
    rw [e5]
    go_wp2_with fail
    refine (in_any c 931 937 _).mono ?_
    rintro e w1 ⟨rfl, rfl⟩
    rw [e6]
    go_wp2_with fail
    go_ret
    exact ⟨rfl, rfl⟩
  cases e7 : inR c 945 969
  case true =>
    rw [show letterU c = true by simp only [letterU, e0, e1, e2, e3, e4, e5, e6, e7]; rfl]
    go_enter Tryd.func34, Tryd.ntmps34
    go_wp2_with fail
    refine (in_any c 65 90 _).mono ?_
    rintro e w1 ⟨rfl, rfl⟩
    rw [e0]
    go_wp2_with fail
    refine (in_any c 97 122 _).mono ?_
    rintro e w1 ⟨rfl, rfl⟩
    rw [e1]
    go_wp2_with fail
    refine (in_any c 192 214 _).mono ?_
    rintro e w1 ⟨rfl, rfl⟩
    rw [e2]
    go_wp2_with fail
    refine (in_any c 216 246 _).mono ?_
    rintro e w1 ⟨rfl, rfl⟩
    rw [e3]
    go_wp2_with fail
    refine (in_any c 248 255 _).mono ?_
    rintro e w1 ⟨rfl, rfl⟩
    rw [e4]
    go_wp2_with fail
    refine (in_any c 913 929 _).mono ?_
    rintro e w1 ⟨rfl, rfl⟩
    rw [e5]
    go_wp2_with fail
    refine (in_any c 931 937 _).mono ?_
    rintro e w1 ⟨rfl, rfl⟩
    rw [e6]
    go_wp2_with fail
    refine (in_any c 945 969 _).mono ?_
    rintro e w1 ⟨rfl, rfl⟩
    rw [e7]
    go_wp2_with fail
    go_ret
    exact ⟨rfl, rfl⟩
  cases e8 : inR c 1024 1119
  case true =>
    rw [show letterU c = true by simp only [letterU, e0, e1, e2, e3, e4, e5, e6, e7, e8]; rfl]
    go_enter Tryd.func34, Tryd.ntmps34
    go_wp2_with fail
    refine (in_any c 65 90 _).mono ?_
    rintro e w1 ⟨rfl, rfl⟩
    rw [e0]
    go_wp2_with fail
    refine (in_any c 97 122 _).mono ?_
    rintro e w1 ⟨rfl, rfl⟩
    rw [e1]
    go_wp2_with fail
    refine (in_any c 192 214 _).mono ?_
    rintro e w1 ⟨rfl, rfl⟩
    rw [e2]
    go_wp2_with fail
    refine (in_any c 216 246 _).mono ?_
    rintro e w1 ⟨rfl, rfl⟩
    rw [e3]
    go_wp2_with fail
    refine (in_any c 248 255 _).mono ?_
    rintro e w1 ⟨rfl, rfl⟩
    rw [e4]
    go_wp2_with fail
    refine (in_any c 913 929 _).mono ?_
    rintro e w1 ⟨rfl, rfl⟩
    rw [e5]
    go_wp2_with fail
    refine (in_any c 931 937 _).mono ?_
    rintro e w1 ⟨rfl, rfl⟩
    rw [e6]
    go_wp2_with fail
    refine (in_any c 945 969 _).mono ?_
    rintro e w1 ⟨rfl, rfl⟩
    rw [e7]
    go_wp2_with fail
    refine (in_any c 1024 1119 _).mono ?_
    rintro e w1 ⟨rfl, rfl⟩
    rw [e8]
    go_wp2_with fail
    go_ret
    exact ⟨rfl, rfl⟩
  rw [show letterU c = false by simp only [letterU, e0, e1, e2, e3, e4, e5, e6, e7, e8]; rfl]
  go_enter Tryd.func34, Tryd.ntmps34
  go_wp2_with fail
  refine (in_any c 65 90 _).mono ?_
  rintro e w1 ⟨rfl, rfl⟩
  rw [e0]
  go_wp2_with fail
  refine (in_any c 97 122 _).mono ?_
  rintro e w1 ⟨rfl, rfl⟩
  rw [e1]
  go_wp2_with fail
  refine (in_any c 192 214 _).mono ?_
  rintro e w1 ⟨rfl, rfl⟩
  rw [e2]
  go_wp2_with fail
  refine (in_any c 216 246 _).mono ?_
  rintro e w1 ⟨rfl, rfl⟩
  rw [e3]
  go_wp2_with fail
  refine (in_any c 248 255 _).mono ?_
  rintro e w1 ⟨rfl, rfl⟩
  rw [e4]
  go_wp2_with fail
  refine (in_any c 913 929 _).mono ?_
  rintro e w1 ⟨rfl, rfl⟩
  rw [e5]
  go_wp2_with fail
  refine (in_any c 931 937 _).mono ?_
  rintro e w1 ⟨rfl, rfl⟩
  rw [e6]
  go_wp2_with fail
  refine (in_any c 945 969 _).mono ?_
  rintro e w1 ⟨rfl, rfl⟩
  rw [e7]
  go_wp2_with fail
  refine (in_any c 1024 1119 _).mono ?_
  rintro e w1 ⟨rfl, rfl⟩
  rw [e8]
  go_wp2_with fail
  go_ret
  exact ⟨rfl, rfl⟩
set_option maxHeartbeats 1000000 in
theorem refSmall (c : Int) (w : World) : Calls Tryd.prog 33 #[.int .i64 c] w fun e w' => e = .returned (.int .i64 (smallU c)) ∧ w = w' := by
  cases e0 : inR c 1024 1039
  case true =>
    rw [show smallU c = c + 80 by simp only [smallU, e0]; rfl]
    have hr : 1024 ≤ c ∧ c ≤ 1039 := by simpa [inR] using e0
    obtain ⟨hr1, hr2⟩ := hr
    go_enter Tryd.func33, Tryd.ntmps33
    go_wp2_with fail
    refine (in_any c 1024 1039 _).mono ?_
    rintro e w1 ⟨rfl, rfl⟩
    rw [e0]
    go_wp2_with fail
    go_ret
    exact ⟨rfl, rfl⟩
  cases e1 : inR c 65 90
  case true =>
    rw [show smallU c = c + 32 by simp only [smallU, e0, e1]; rfl]
    have hr : 65 ≤ c ∧ c ≤ 90 := by simpa [inR] using e1
    obtain ⟨hr1, hr2⟩ := hr
    go_enter Tryd.func33, Tryd.ntmps33
    go_wp2_with fail
    refine (in_any c 1024 1039 _).mono ?_
    rintro e w1 ⟨rfl, rfl⟩
    rw [e0]
    go_wp2_with fail
    refine (in_any c 65 90 _).mono ?_
    rintro e w1 ⟨rfl, rfl⟩
    rw [e1]
    go_wp2_with fail
    go_ret
    exact ⟨rfl, rfl⟩
  cases e2 : inR c 192 214
  case true =>
    rw [show smallU c = c + 32 by simp only [smallU, e0, e1, e2]; rfl]
    have hr : 192 ≤ c ∧ c ≤ 214 := by simpa [inR] using e2
    obtain ⟨hr1, hr2⟩ := hr
    go_enter Tryd.func33, Tryd.ntmps33
    go_wp2_with fail
    refine (in_any c 1024 1039 _).mono ?_
    rintro e w1 ⟨rfl, rfl⟩
    rw [e0]
    go_wp2_with fail
    refine (in_any c 65 90 _).mono ?_
    rintro e w1 ⟨rfl, rfl⟩
    rw [e1]
    go_wp2_with fail
    refine (in_any c 192 214 _).mono ?_
    rintro e w1 ⟨rfl, rfl⟩
    rw [e2]
    go_wp2_with fail
    go_ret
    exact ⟨rfl, rfl⟩
  cases e3 : inR c 216 222
  case true =>
    rw [show smallU c = c + 32 by simp only [smallU, e0, e1, e2, e3]; rfl]
    have hr : 216 ≤ c ∧ c ≤ 222 := by simpa [inR] using e3
    obtain ⟨hr1, hr2⟩ := hr
    go_enter Tryd.func33, Tryd.ntmps33
    go_wp2_with fail
    refine (in_any c 1024 1039 _).mono ?_
    rintro e w1 ⟨rfl, rfl⟩
    rw [e0]
    go_wp2_with fail
    refine (in_any c 65 90 _).mono ?_
    rintro e w1 ⟨rfl, rfl⟩
    rw [e1]
    go_wp2_with fail
    refine (in_any c 192 214 _).mono ?_
    rintro e w1 ⟨rfl, rfl⟩
    rw [e2]
    go_wp2_with fail
    refine (in_any c 216 222 _).mono ?_
    rintro e w1 ⟨rfl, rfl⟩
    rw [e3]
    go_wp2_with fail
    go_ret
    exact ⟨rfl, rfl⟩
  cases e4 : inR c 913 929
  case true =>
    rw [show smallU c = c + 32 by simp only [smallU, e0, e1, e2, e3, e4]; rfl]
    have hr : 913 ≤ c ∧ c ≤ 929 := by simpa [inR] using e4
    obtain ⟨hr1, hr2⟩ := hr
    go_enter Tryd.func33, Tryd.ntmps33
    go_wp2_with fail
    refine (in_any c 1024 1039 _).mono ?_
    rintro e w1 ⟨rfl, rfl⟩
    rw [e0]
    go_wp2_with fail
    refine (in_any c 65 90 _).mono ?_
    rintro e w1 ⟨rfl, rfl⟩
    rw [e1]
    go_wp2_with fail
    refine (in_any c 192 214 _).mono ?_
    rintro e w1 ⟨rfl, rfl⟩
    rw [e2]
    go_wp2_with fail
    refine (in_any c 216 222 _).mono ?_
    rintro e w1 ⟨rfl, rfl⟩
    rw [e3]
    go_wp2_with fail
    refine (in_any c 913 929 _).mono ?_
    rintro e w1 ⟨rfl, rfl⟩
    rw [e4]
    go_wp2_with fail
    go_ret
    exact ⟨rfl, rfl⟩
  cases e5 : inR c 931 937
  case true =>
    rw [show smallU c = c + 32 by simp only [smallU, e0, e1, e2, e3, e4, e5]; rfl]
    have hr : 931 ≤ c ∧ c ≤ 937 := by simpa [inR] using e5
    obtain ⟨hr1, hr2⟩ := hr
    go_enter Tryd.func33, Tryd.ntmps33
    go_wp2_with fail
    refine (in_any c 1024 1039 _).mono ?_
    rintro e w1 ⟨rfl, rfl⟩
    rw [e0]
    go_wp2_with fail
    refine (in_any c 65 90 _).mono ?_
    rintro e w1 ⟨rfl, rfl⟩
    rw [e1]
    go_wp2_with fail
    refine (in_any c 192 214 _).mono ?_
    rintro e w1 ⟨rfl, rfl⟩
    rw [e2]
    go_wp2_with fail
    refine (in_any c 216 222 _).mono ?_
    rintro e w1 ⟨rfl, rfl⟩
    rw [e3]
    go_wp2_with fail
    refine (in_any c 913 929 _).mono ?_
    rintro e w1 ⟨rfl, rfl⟩
    rw [e4]
    go_wp2_with fail
    refine (in_any c 931 937 _).mono ?_
    rintro e w1 ⟨rfl, rfl⟩
    rw [e5]
    go_wp2_with fail
    go_ret
    exact ⟨rfl, rfl⟩
  cases e6 : inR c 1040 1071
  case true =>
    rw [show smallU c = c + 32 by simp only [smallU, e0, e1, e2, e3, e4, e5, e6]; rfl]
    have hr : 1040 ≤ c ∧ c ≤ 1071 := by simpa [inR] using e6
    obtain ⟨hr1, hr2⟩ := hr
    go_enter Tryd.func33, Tryd.ntmps33
    go_wp2_with fail
    refine (in_any c 1024 1039 _).mono ?_
    rintro e w1 ⟨rfl, rfl⟩
    rw [e0]
    go_wp2_with fail
    refine (in_any c 65 90 _).mono ?_
    rintro e w1 ⟨rfl, rfl⟩
    rw [e1]
    go_wp2_with fail
    refine (in_any c 192 214 _).mono ?_
    rintro e w1 ⟨rfl, rfl⟩
    rw [e2]
    go_wp2_with fail
    refine (in_any c 216 222 _).mono ?_
    rintro e w1 ⟨rfl, rfl⟩
    rw [e3]
    go_wp2_with fail
    refine (in_any c 913 929 _).mono ?_
    rintro e w1 ⟨rfl, rfl⟩
    rw [e4]
    go_wp2_with fail
    refine (in_any c 931 937 _).mono ?_
    rintro e w1 ⟨rfl, rfl⟩
    rw [e5]
    go_wp2_with fail
    refine (in_any c 1040 1071 _).mono ?_
    rintro e w1 ⟨rfl, rfl⟩
    rw [e6]
    go_wp2_with fail
    go_ret
    exact ⟨rfl, rfl⟩
  rw [show smallU c = c by simp only [smallU, e0, e1, e2, e3, e4, e5, e6]; rfl]
  go_enter Tryd.func33, Tryd.ntmps33
  go_wp2_with fail
  refine (in_any c 1024 1039 _).mono ?_
  rintro e w1 ⟨rfl, rfl⟩
  rw [e0]
  go_wp2_with fail
  refine (in_any c 65 90 _).mono ?_
  rintro e w1 ⟨rfl, rfl⟩
  rw [e1]
  go_wp2_with fail
  refine (in_any c 192 214 _).mono ?_
  rintro e w1 ⟨rfl, rfl⟩
  rw [e2]
  go_wp2_with fail
  refine (in_any c 216 222 _).mono ?_
  rintro e w1 ⟨rfl, rfl⟩
  rw [e3]
  go_wp2_with fail
  refine (in_any c 913 929 _).mono ?_
  rintro e w1 ⟨rfl, rfl⟩
  rw [e4]
  go_wp2_with fail
  refine (in_any c 931 937 _).mono ?_
  rintro e w1 ⟨rfl, rfl⟩
  rw [e5]
  go_wp2_with fail
  refine (in_any c 1040 1071 _).mono ?_
  rintro e w1 ⟨rfl, rfl⟩
  rw [e6]
  go_wp2_with fail
  go_ret
  exact ⟨rfl, rfl⟩
end Go.Proofs.YtpnnebnjkinndaaDoor.UtfW
