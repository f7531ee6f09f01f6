/- Sums have 32 bytes. -/
import Derived.Test.YtmebogaenbjmnaaDoorAb
namespace Go.Proofs.YtmebogaenbjmnaaDoor.SealW
open Go.RowKit
open ShaW Sha
theorem sha_len (l : List UInt8) : (sha l).length = 32 := by unfold sha digestSt; rw [textB_len]; rfl
theorem self_no (l : List UInt8) : decide (l ≠ l ∧ sha l = sha l) = false := by simp
theorem mk_size (l : List UInt8) : (⟨l.toArray⟩ : ByteArray).size = l.length := by simp [ByteArray.size]
theorem sha_size (l : List UInt8) : (⟨(sha l).toArray⟩ : ByteArray).size = 32 := by rw [mk_size, sha_len]
end Go.Proofs.YtmebogaenbjmnaaDoor.SealW
