/- The law CodeSizes. -/
import Derived.Test.YtpbldkfoldjocaaCi
namespace Go.Proofs.Ytpbldkfoldjocaa
open Go.RowKit
open Cod
theorem num_own (n : Nat) (w : World) (hn : n ≤ 4611686018427387904) : Calls Try.prog 9 #[.slice none 0 0, .int .i64 n] w fun e w' => ∃ A c, e = .returned (.tuple #[.slice A (enc n).length c, .int .i64 0]) ∧ Sl w' A (bcells (enc n)) ∧ (enc n).length ≤ c ∧ Below w.heap.size w w' :=
  (num_any none 0 0 [] n w rfl Sl.nil hn (by omega)).mono fun e w' ⟨v, h1, h2, h3⟩ => by
    rw [List.nil_append] at h2
    obtain ⟨A, c, rfl, h4, h5, _⟩ := h2.slice
    exact ⟨A, c, h1, h4, h5, h3⟩
set_option maxRecDepth 100000 in
set_option maxHeartbeats 2000000 in
theorem lawSizes (v w0 : Int) (w : World) (hv : -9223372036854775808 ≤ v ∧ v ≤ 9223372036854775807) (hw : -9223372036854775808 ≤ w0 ∧ w0 ≤ 9223372036854775807) :
    Calls Try.prog 6 #[.int .i64 v, .int .i64 w0] w fun e w' => e = .returned (.bool true) ∧ Below w.heap.size w w' := by
  have hknow : v < 0 ∨ w0 < v ∨ 4611686018427387904 < w0 → Calls Try.prog 6 #[.int .i64 v, .int .i64 w0] w fun e w' => e = .returned (.bool true) ∧ Below w.heap.size w w' := by
    intro h
    by_cases h1 : v < 0
    · clear h
      go_enter Try.func6, Try.ntmps6
      go_wp2_with fail
      refine (knows_any _).mono ?_
      rintro e w1 ⟨rfl, hb1⟩
      go_wp2_with fail
      go_ret
      exact ⟨rfl, hb1⟩
    · by_cases h2 : w0 < v
      · clear h
        go_enter Try.func6, Try.ntmps6
        go_wp2_with fail
        refine (knows_any _).mono ?_
        rintro e w1 ⟨rfl, hb1⟩
        go_wp2_with fail
        go_ret
        exact ⟨rfl, hb1⟩
      · have h3 : 4611686018427387904 < w0 := by omega
        clear h
        go_enter Try.func6, Try.ntmps6
        go_wp2_with fail
        refine (knows_any _).mono ?_
        rintro e w1 ⟨rfl, hb1⟩
        go_wp2_with fail
        go_ret
        exact ⟨rfl, hb1⟩
  by_cases h : v < 0 ∨ w0 < v ∨ 4611686018427387904 < w0
  · exact hknow h
  · clear hknow
    have h1 : 0 ≤ v := by omega
    have h2 : v ≤ w0 := by omega
    have h3 : w0 ≤ 4611686018427387904 := by omega
    obtain ⟨a, rfl⟩ := Int.eq_ofNat_of_zero_le h1
    obtain ⟨b, rfl⟩ := Int.eq_ofNat_of_zero_le (show 0 ≤ w0 by omega)
    have hm : (enc a).length ≤ (enc b).length := enc_mono (b + 1) a b (by omega) (by omega)
    have h9 := enc_len9 (v := b) (by omega)
    clear h hv hw
    go_enter Try.func6, Try.ntmps6
    go_wp2_with fail
    refine (num_own a _ (by omega)).mono ?_
    rintro e w1 ⟨A1, c1, rfl, _, _, hb1⟩
    go_wp2_with fail
    refine (num_own b _ (by omega)).mono ?_
    rintro e w2 ⟨A2, c2, rfl, _, _, hb2⟩
    have hbel := hb1.trans (hb2.mono hb1.size)
    have HE : Hid (∀ x, (enc x).length = (enc x).length) := fun _ => rfl
    have hpa := enc_pos a
    clear hb1 hb2 HE
    go_wp2_with fail
    go_loop [9, 10] (fun n x => ∃ (k m : Nat), 1 ≤ m ∧ m ≤ 9 ∧ k ≤ a ∧ x = .int .i64 k ∧ n = .int .i64 m ∧ Hid ((enc a).length + 1 = m + (enc k).length)) (fun _ x => (intOf x).toNat)
    case atStart => exact ⟨a, 1, by omega, by omega, by omega, rfl, rfl, by unfold Hid; omega⟩
    case round =>
      obtain ⟨k, m, hm1, hm9, hka, rfl, rfl, HK⟩ := hrel
      by_cases hk : 128 ≤ k
      · have HK2 : Hid ((enc k).length = (enc (k / 128)).length + 1) := by unfold Hid; rw [enc_big hk]; rfl
        have hp2 := enc_pos (k / 128)
        have hmm : m + 1 ≤ 9 := by have := HK.out; have := HK2.out; omega
        go_wp2_with fail
        go_round
        case rel => exact ⟨k / 128, m + 1, by omega, hmm, by omega, by go_num, by go_num, by unfold Hid; rw [HK.out, HK2.out]; omega⟩
        case measure => simp [intOf]; omega
      · have hma : m = (enc a).length := by
          have := HK.out
          rw [enc_small (by omega : k < 128)] at this
          simp at this; omega
        subst hma
        clear HK
        generalize (enc a).length = la at *
        generalize (enc b).length = lb at *
        go_wp2_with fail
        refine (knows_any _).mono ?_
        rintro e w3 ⟨rfl, hb3⟩
        go_wp2_with fail
        go_ret
        exact ⟨rfl, hbel.trans (hb3.mono hbel.size)⟩
end Go.Proofs.Ytpbldkfoldjocaa
