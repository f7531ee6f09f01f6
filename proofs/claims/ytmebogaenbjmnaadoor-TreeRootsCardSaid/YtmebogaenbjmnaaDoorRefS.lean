/- What the reference's arithmetic comes to: the same words and bytes. Nothing of the dump. -/
import Derived.Test.YtmebogaenbjmnaaDoorSpec
namespace Go.Proofs.YtmebogaenbjmnaaDoor
namespace Sha
theorem rotr_sum (x : UInt32) (n : Nat) (h : n < 32) : (un x / 2 ^ n + un x * 2 ^ (32 - n) % 4294967296) % 4294967296 = un (rotr x n) := by
  have hx := u32_lt x
  unfold un
  rw [rotr_toNat]
  have e1 : x.toNat >>> n ||| x.toNat <<< (32 - n) % 4294967296 = x.toNat / 2 ^ n + x.toNat * 2 ^ (32 - n) % 4294967296 := by
    rw [Nat.shiftRight_eq_div_pow, Nat.shiftLeft_eq, Nat.or_comm, Nat.add_comm]
    have hp : 4294967296 = 2 ^ (32 - n) * 2 ^ n := by rw [← Nat.pow_add, show 32 - n + n = 32 by omega]
    refine nat_join (32 - n) _ _ ?_ ?_
    · rw [hp, Nat.mul_comm x.toNat, Nat.mul_mod_mul_left, Nat.mul_mod_right]
    · rw [Nat.div_lt_iff_lt_mul (Nat.two_pow_pos _), ← hp]; exact hx
  rw [e1]
  have e2 : x.toNat / 2 ^ n + x.toNat * 2 ^ (32 - n) % 4294967296 < 4294967296 := by
    rw [← e1]
    exact Nat.or_lt_two_pow (n := 32) (Nat.lt_of_le_of_lt (by rw [Nat.shiftRight_eq_div_pow]; exact Nat.div_le_self _ _) hx) (Nat.mod_lt _ (by omega))
  have e3 : ((x.toNat : Int) / 2 ^ n + (x.toNat : Int) * 2 ^ (32 - n) % 4294967296) = ((x.toNat / 2 ^ n + x.toNat * 2 ^ (32 - n) % 4294967296 : Nat) : Int) := by simp
  rw [e3]
  omega
theorem be32_sum (a b c d : UInt8) : un (be32 a b c d) = ub a * 16777216 + ub b * 65536 + ub c * 256 + ub d := by
  have ha := a.toNat_lt
  have hb := b.toNat_lt
  have hc := c.toNat_lt
  have hd := d.toNat_lt
  have e1 := u8_shl a 24 (by omega)
  have e2 := u8_shl b 16 (by omega)
  have e3 := u8_shl c 8 (by omega)
  unfold un ub be32
  rw [UInt32.toNat_or, UInt32.toNat_or, UInt32.toNat_or, show (24 : UInt32) = UInt32.ofNat 24 from rfl, show (16 : UInt32) = UInt32.ofNat 16 from rfl, show (8 : UInt32) = UInt32.ofNat 8 from rfl, e1, e2, e3, UInt8.toNat_toUInt32]
  rw [nat_join 24 (a.toNat * 2 ^ 24) (b.toNat * 2 ^ 16) (by omega) (by omega), nat_join 16 _ (c.toNat * 2 ^ 8) (by omega) (by omega), nat_join 8 _ d.toNat (by omega) (by omega)]
  omega
end Sha
end Go.Proofs.YtmebogaenbjmnaaDoor
