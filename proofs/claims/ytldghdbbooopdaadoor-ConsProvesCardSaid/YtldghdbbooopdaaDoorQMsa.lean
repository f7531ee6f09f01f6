/- rubrickref02.Same of like rows. -/
import Derived.Test.YtldghdbbooopdaaDoorJ3
namespace Go.Proofs.YtldghdbbooopdaaDoor.TrW
open Go.RowKit TreeW
open ShaW Sha
set_option maxHeartbeats 400000 in
theorem same_any (A B : Option Addr) (n c d : Nat) (ss : List ByteArray) (w : World) (hn : ss.length = n) (hA : Sl w A (scells ss)) (hB : Sl w B (scells ss)) (hn63 : n ≤ 9223372036854775807) :
    Calls Tryd.prog 12 #[.slice A n c, .slice B n d] w fun e w' => e = .returned (.bool true) ∧ Below w.heap.size w w' := by
  have HN : Hid (ss.length = n) := hn
  clear hn
  go_enter Tryd.func12, Tryd.ntmps12
  go_wp2_with fail
  go_loopw [5] (fun i wr => ∃ k : Nat, k ≤ n ∧ i = .int .i64 k ∧ Below w.heap.size w wr) (fun i _ => n - (intOf i).toNat)
  case atStart => exact ⟨0, by omega, rfl, Below.refl _ _⟩
  case round =>
    obtain ⟨k, hk, rfl, hbel⟩ := hrel
    by_cases hlt : k < n
    · obtain ⟨b, o, rfl, hblt, hcell⟩ := (hA.get (j := k) (by rw [scells_len, HN.out]; exact hlt))
      obtain ⟨b2, o2, rfl, hblt2, hcell2⟩ := (hB.get (j := k) (by rw [scells_len, HN.out]; exact hlt))
      have hc0 := (hbel.cell (p := ⟨b, o + k, none⟩) hblt).trans (hcell k _ (scells_get ss k (by rw [HN.out]; exact hlt)))
      have hc1 := (hbel.cell (p := ⟨b2, o2 + k, none⟩) hblt2).trans (hcell2 k _ (scells_get ss k (by rw [HN.out]; exact hlt)))
      clear hcell hcell2
      generalize ss.getD k ⟨#[]⟩ = s at *
      go_wp2_with fail
      go_quiet (fail)
      go_wp2_with fail
      go_roundw
      case rel => exact ⟨k + 1, by omega, by go_num, hbel.trans (below_drewN (Below.refl _ _) _)⟩
      case measure => simp [intOf]; omega
    · have hk8 : k = n := by omega
      go_wp2_with fail
      go_ret
      exact ⟨rfl, hbel⟩
end Go.Proofs.YtldghdbbooopdaaDoor.TrW
