/- The statements' own Great. -/
import Derived.Test.YtldghdbbooopdaaDoorJ3
namespace Go.Proofs.YtldghdbbooopdaaDoor.TrW
open Go.RowKit TreeW
open ShaW Sha
/-- Texts of more than 100 bytes, or more than 100 of them. -/
def Grt (ss : List ByteArray) : Prop := 100 < ss.length ∨ ∃ s ∈ ss, 100 < s.size
theorem grt_no {ss : List ByteArray} (h : ¬ Grt ss) : ss.length ≤ 100 ∧ ∀ s ∈ ss, s.size ≤ 100 := by
  refine ⟨Nat.le_of_not_lt fun h' => h (.inl h'), fun s hs => Nat.le_of_not_lt fun h' => h (.inr ⟨s, hs, h'⟩)⟩
instance (ss : List ByteArray) : Decidable (Grt ss) := by unfold Grt; infer_instance
set_option maxHeartbeats 1000000 in
theorem great_any (A : Option Addr) (l c : Nat) (ss : List ByteArray) (w : World) (hl : ss.length = l) (hs : Sl w A (scells ss)) (hl63 : l ≤ 9223372036854775807) :
    Calls Tryd.prog 8 #[.slice A l c] w fun e w' => e = .returned (.bool (decide (Grt ss))) ∧ w = w' := by
  have HL := Lib.hid hl
  clear hl
  go_enter Tryd.func8, Tryd.ntmps8
  go_wp2_with fail
  go_loop [3] (fun i => ∃ j : Nat, j ≤ l ∧ i = .int .i64 (j : Int) ∧ Hid (∀ s ∈ ss.take j, s.size ≤ 100)) (fun i => l - (intOf i).toNat)
  case atStart => exact ⟨0, by omega, rfl, fun x hx => by simp at hx⟩
  case round =>
    obtain ⟨j, hj, rfl, HK⟩ := hrel
    by_cases hlt : j < l
    · obtain ⟨b, o, rfl, hblt, hcell⟩ := hs.get (j := j) (by rw [scells_len, HL.out]; exact hlt)
      have hget := get_of (ss := ss) (j := j) (by rw [HL.out]; exact hlt)
      obtain ⟨s, hsj⟩ : ∃ s, ss.getD j ⟨#[]⟩ = s := ⟨_, rfl⟩
      rw [hsj] at hget
      have hc0 := hcell j _ (scells_at hget)
      have HG := Lib.hid hget
      clear hcell hget hsj
      by_cases h100 : 100 < s.size
      · have h1 : (100 : Int) < (s.size : Int) := by omega
        have HF : Hid (decide (Grt ss) = true) := decide_eq_true (.inr ⟨s, List.mem_of_getElem? HG.out, h100⟩)
        clear h100
        go_wp2_with fail
        go_ret
        exact ⟨by rw [HF.out]; rfl, rfl⟩
      · have h1 : ¬ (100 : Int) < (s.size : Int) := by omega
        have HN : Hid (∀ x ∈ ss.take (j + 1), x.size ≤ 100) := by
          intro x hx
          rw [take_snoc HG.out] at hx
          rcases List.mem_append.1 hx with hx | hx
          · exact HK.out x hx
          · simp at hx; subst hx; omega
        clear h100
        go_wp2_with fail
        go_round
        case rel => exact ⟨j + 1, by omega, by go_num, HN⟩
        case measure => simp [intOf]; omega
    · have HA : Hid (∀ s ∈ ss, s.size ≤ 100) := by
        have := HK.out
        rwa [List.take_of_length_le (by rw [HL.out]; omega)] at this
      by_cases h100 : 100 < l
      · have h1 : (100 : Int) < (l : Int) := by omega
        have HF : Hid (decide (Grt ss) = true) := decide_eq_true (.inl (by rw [HL.out]; exact h100))
        clear h100
        go_wp2_with fail
        go_ret
        exact ⟨by rw [HF.out]; rfl, rfl⟩
      · have h1 : ¬ (100 : Int) < (l : Int) := by omega
        have HF : Hid (decide (Grt ss) = false) := decide_eq_false (by
          rintro (h | ⟨s, hs, h⟩)
          · rw [HL.out] at h; exact h100 h
          · have := HA.out s hs; omega)
        clear h100
        go_wp2_with fail
        go_ret
        exact ⟨by rw [HF.out]; rfl, rfl⟩
theorem great_yes (A : Option Addr) (l c : Nat) (ss : List ByteArray) (w : World) (hl : ss.length = l) (hs : Sl w A (scells ss)) (hl63 : l ≤ 9223372036854775807) (h : Grt ss) :
    Calls Tryd.prog 8 #[.slice A l c] w fun e w' => e = .returned (.bool true) ∧ w = w' := by
  have := great_any A l c ss w hl hs hl63; rwa [decide_eq_true h] at this
theorem great_not (A : Option Addr) (l c : Nat) (ss : List ByteArray) (w : World) (hl : ss.length = l) (hs : Sl w A (scells ss)) (hl63 : l ≤ 9223372036854775807) (h : ¬ Grt ss) :
    Calls Tryd.prog 8 #[.slice A l c] w fun e w' => e = .returned (.bool false) ∧ w = w' := by
  have := great_any A l c ss w hl hs hl63; rwa [decide_eq_false h] at this
end Go.Proofs.YtldghdbbooopdaaDoor.TrW
