/- The law CodeBack, for whatever comes in. -/
import Derived.Test.YtpbldkfoldjocaaCn
namespace Go.Proofs.Ytpbldkfoldjocaa
open Go.RowKit
open Cod
set_option maxRecDepth 100000 in
set_option maxHeartbeats 4000000 in
theorem lawBack (v : Int) (s : ByteArray) (A : Option Addr) (m c : Nat) (ss : List ByteArray) (B : Option Addr) (l d : Nat) (R : List UInt8) (w : World) (hs63 : s.size ≤ 9223372036854775807)
    (hm : ss.length = m) (hA : Sl w A (scells ss)) (hm63 : m ≤ 9223372036854775807) (hl : R.length = l) (hB : Sl w B (bcells R)) (hl63 : l ≤ 9223372036854775807) :
    Calls Try.prog 4 #[.int .i64 v, .string s, .slice A m c, .slice B l d] w fun e w' => e = .returned (.bool true) ∧ Below w.heap.size w w' := by
  by_cases hf : ss.length ≤ 50 ∧ ∀ s ∈ ss, s.size ≤ 1000
  · by_cases h1 : 1000 < s.size
    · have HM : Hid (ss.length = m) := hm
      clear hm hf
      go_enter Try.func4, Try.ntmps4
      go_wp2_with fail
      refine (great_any A m c ss _ HM.out hA hm63).mono ?_
      rintro e w1 ⟨b, rfl, hb, rfl⟩
      clear hb
      cases b
      all_goals
        go_wp2_with fail
        refine (knows_any _).mono ?_
        rintro e w1 ⟨rfl, hb1⟩
        go_wp2_with fail
        go_ret
        exact ⟨rfl, hb1⟩
    · by_cases h2 : 100 < l
      · have HM : Hid (ss.length = m) := hm
        clear hm hf hl
        go_enter Try.func4, Try.ntmps4
        go_wp2_with fail
        refine (great_any A m c ss _ HM.out hA hm63).mono ?_
        rintro e w1 ⟨b, rfl, hb, rfl⟩
        clear hb
        cases b
        all_goals
          go_wp2_with fail
          refine (knows_any _).mono ?_
          rintro e w1 ⟨rfl, hb1⟩
          go_wp2_with fail
          go_ret
          exact ⟨rfl, hb1⟩
      · by_cases h3 : v < 0
        · have HM : Hid (ss.length = m) := hm
          clear hm hf hl
          go_enter Try.func4, Try.ntmps4
          go_wp2_with fail
          refine (great_any A m c ss _ HM.out hA hm63).mono ?_
          rintro e w1 ⟨b, rfl, hb, rfl⟩
          clear hb
          cases b
          all_goals
            go_wp2_with fail
            refine (knows_any _).mono ?_
            rintro e w1 ⟨rfl, hb1⟩
            go_wp2_with fail
            go_ret
            exact ⟨rfl, hb1⟩
        · by_cases h4 : 4611686018427387904 < v
          · have HM : Hid (ss.length = m) := hm
            clear hm hf hl
            go_enter Try.func4, Try.ntmps4
            go_wp2_with fail
            refine (great_any A m c ss _ HM.out hA hm63).mono ?_
            rintro e w1 ⟨b, rfl, hb, rfl⟩
            clear hb
            cases b
            all_goals
              go_wp2_with fail
              refine (knows_any _).mono ?_
              rintro e w1 ⟨rfl, hb1⟩
              go_wp2_with fail
              go_ret
              exact ⟨rfl, hb1⟩
          · obtain ⟨n, rfl⟩ := Int.eq_ofNat_of_zero_le (show 0 ≤ v by omega)
            exact back_main n s A m c ss B l d R w (by omega) (by omega) hm hA hf.1 hf.2 hl hB (by omega)
  · have HM : Hid (ss.length = m) := hm
    have HF : Hid (¬ (ss.length ≤ 50 ∧ ∀ s ∈ ss, s.size ≤ 1000)) := hf
    clear hm hf hl
    go_enter Try.func4, Try.ntmps4
    go_wp2_with fail
    refine (great_any A m c ss _ HM.out hA hm63).mono ?_
    rintro e w1 ⟨b, rfl, hb, rfl⟩
    cases b with
    | false => exact absurd (hb rfl) HF.out
    | true =>
      clear hb
      go_wp2_with fail
      refine (knows_any _).mono ?_
      rintro e w1 ⟨rfl, hb1⟩
      go_wp2_with fail
      go_ret
      exact ⟨rfl, hb1⟩
end Go.Proofs.Ytpbldkfoldjocaa
