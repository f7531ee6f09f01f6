/- Padding, and the digest block by block. Nothing of the dump. -/
import Derived.Test.YtmebogaenbjmnaaDoorSpec
namespace Go.Proofs.YtmebogaenbjmnaaDoor
namespace Sha
/-- What is put behind bytes: the mark, zeros, the number of bits. -/
def zc (n : Nat) : Nat := (119 - n % 64) % 64
def padL (bs : List UInt8) : List UInt8 := bs ++ 128 :: zeros (zc bs.length) ++ lenB bs.length 8
def tailB (N : Nat) : Nat → List UInt8
  | 0 => []
  | k + 1 => UInt8.ofNat (8 * N / 256 ^ k) :: tailB N k
theorem tailB_len (N k : Nat) : (tailB N k).length = k := by
  induction k with
  | zero => rfl
  | succ k ih => simp [tailB, ih]
theorem tailB_lenB (N : Nat) : tailB N 8 = lenB N 8 := rfl
theorem padL_len (bs : List UInt8) : (padL bs).length = bs.length + 9 + zc bs.length := by
  simp [padL, zeros_len, lenB_len]; omega
theorem padL_mod (bs : List UInt8) : (padL bs).length % 64 = 0 := by
  rw [padL_len]; unfold zc; omega
/-- The digest is what the padded bytes lead to, block by block. -/
theorem absorb_pad (bs : List UInt8) : (absorb iv (padL bs)).1 = finish (absorb iv bs).1 (absorb iv bs).2 bs.length := by
  unfold padL
  rw [List.append_assoc, absorb_app]
  have hl := absorb_len iv bs
  generalize absorb iv bs = p at *
  obtain ⟨s, r⟩ := p
  simp only at hl ⊢
  unfold finish
  have hz : zc bs.length = (119 - r.length) % 64 := by unfold zc; rw [hl]
  by_cases h : 56 ≤ r.length
  · have hz' : zc bs.length = (63 - r.length) + 56 := by omega
    have hlen : (r ++ 128 :: zeros (63 - r.length)).length = 64 := by simp [zeros_len]; omega
    have hlen2 : (zeros 56 ++ lenB bs.length 8).length = 64 := by simp [zeros_len, lenB_len]
    rw [if_pos h, hz', show zeros (63 - r.length + 56) = zeros (63 - r.length) ++ zeros 56 from (List.replicate_append_replicate ..).symm]
    have e : r ++ (128 :: (zeros (63 - r.length) ++ zeros 56) ++ lenB bs.length 8) = (r ++ 128 :: zeros (63 - r.length)) ++ (zeros 56 ++ lenB bs.length 8) := by simp
    rw [e, absorb_long _ _ (by rw [List.length_append, hlen]; omega), List.take_left' hlen, List.drop_left' hlen, absorb_long _ _ (by rw [hlen2]; omega), List.take_of_length_le (by omega), List.drop_of_length_le (by omega), absorb_short _ _ (by simp)]
  · have hz' : zc bs.length = 55 - r.length := by omega
    have hlen : (r ++ 128 :: zeros (55 - r.length) ++ lenB bs.length 8).length = 64 := by simp [zeros_len, lenB_len]; omega
    rw [if_neg h, hz']
    have e : r ++ (128 :: zeros (55 - r.length) ++ lenB bs.length 8) = r ++ 128 :: zeros (55 - r.length) ++ lenB bs.length 8 := by simp
    rw [e, absorb_long _ _ (by omega), List.take_of_length_le (by omega), List.drop_of_length_le (by omega), absorb_short _ _ (by simp)]
/-- The words behind the first n blocks. -/
def blocksN (l : List UInt8) : Nat → St
  | 0 => iv
  | n + 1 => compress (blocksN l n) ((l.drop (64 * n)).take 64)
theorem absorb_blocks (l : List UInt8) : ∀ n, 64 * n ≤ l.length → absorb iv l = absorb (blocksN l n) (l.drop (64 * n))
  | 0, _ => rfl
  | n + 1, h => by
    rw [absorb_blocks l n (by omega), absorb_long _ _ (by simp; omega), List.drop_drop]
    rfl
theorem blocks_all (l : List UInt8) (h : l.length % 64 = 0) : blocksN l (l.length / 64) = (absorb iv l).1 := by
  rw [absorb_blocks l (l.length / 64) (by omega), absorb_short _ _ (by simp; omega)]
end Sha
end Go.Proofs.YtmebogaenbjmnaaDoor
