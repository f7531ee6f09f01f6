/- utf: join; what stands first in bytes. -/
import Derived.Test.YtpnnebnjkinndaaDoorUf
namespace Go.Proofs.YtpnnebnjkinndaaDoor.UtfW
open Go.RowKit
def joinL : Nat → List UInt8 → Option Nat
  | c, [] => some c
  | c, x :: xs => if x.toNat < 128 ∨ 192 ≤ x.toNat then none else joinL (c * 64 + (x.toNat - 128)) xs
def joinS (c : Nat) (b : List UInt8) (n : Nat) : Option Nat := if b.length < n then none else joinL c (b.take n)
def joinV (r : Option Nat) : Value := match r with | some c => .tuple #[.int .i64 (c : Int), .bool true] | none => .tuple #[.int .i64 0, .bool false]
theorem drop_take (b : List UInt8) (n k : Nat) (hk : k < n) (hn : n ≤ b.length) : (b.take n).drop k = b.getD k 0 :: (b.take n).drop (k + 1) := by
  rw [List.drop_eq_getElem_cons (by rw [List.length_take]; omega)]
  congr 1
  simp [List.getD, show k < b.length by omega]
set_option maxRecDepth 1000000 in
set_option maxHeartbeats 1000000 in
theorem join_any (c : Int) (B : Option Addr) (l d : Nat) (bs : List UInt8) (n : Nat) (w : World) (hc : 0 ≤ c) (hc2 : c < 256) (hl : bs.length = l) (hb : Sl w B (bcells bs)) (hld : l ≤ d) (_hl63 : d ≤ 9223372036854775807) (hn : n ≤ 3) :
    Calls Tryd.prog 55 #[.int .i64 c, .slice B l d, .int .i64 (n : Int)] w fun e w' => e = .returned (joinV (joinS c.toNat bs n)) ∧ w = w' := by
  obtain ⟨m, rfl⟩ : ∃ m : Nat, c = m := ⟨c.toNat, by omega⟩
  rw [show (m : Int).toNat = m by omega]
  have HL := Lib.hid hl
  clear hl
  by_cases hln : l < n
  · have HJ : Hid (joinS m bs n = none) := by show _ = _; unfold joinS; rw [if_pos (by rw [HL.out]; exact hln)]
    go_enter Tryd.func55, Tryd.ntmps55
    go_wp2_with fail
    go_ret2
    exact ⟨by rw [HJ.out]; rfl, rfl⟩
  · have HJ : Hid (joinS m bs n = joinL m (bs.take n)) := by show _ = _; unfold joinS; rw [if_neg (by rw [HL.out]; exact hln)]
    go_enter Tryd.func55, Tryd.ntmps55
    go_wp2_with fail
    go_loop [0, 18] (fun a i => ∃ (k c : Nat), k ≤ n ∧ i = .int .i64 k ∧ a = .int .i64 c ∧ c < 256 * 64 ^ k ∧ Hid (joinL m (bs.take n) = joinL c ((bs.take n).drop k))) (fun _ i => n - (intOf i).toNat)
    case atStart => exact ⟨0, m, by omega, rfl, rfl, by omega, rfl⟩
    case round =>
      obtain ⟨k, c, hk, rfl, rfl, hcb, HK⟩ := hrel
      by_cases hlt : k < n
      · obtain ⟨b, o, rfl, hblt, hcell⟩ := (hb.get (j := k) (by rw [bcells_len, HL.out]; omega))
        have hp : 64 ^ k ≤ 64 ^ 2 := Nat.pow_le_pow_right (by omega) (by omega)
        have hps : 64 ^ (k + 1) = 64 ^ k * 64 := Nat.pow_succ ..
        have HPS := Lib.hid hps
        obtain ⟨P, hP⟩ : ∃ P, P = 64 ^ k := ⟨_, rfl⟩
        have HP := Lib.hid hP
        rw [← hP] at hp hcb
        clear hps hP
        have hc0 := hcell k _ (bcells_get bs k (by rw [HL.out]; omega))
        obtain ⟨y, hy⟩ : ∃ y : Nat, y = (bs.getD k 0).toNat := ⟨_, rfl⟩
        have hy8 : y < 256 := by rw [hy]; exact UInt8.toNat_lt _
        rw [show ub (bs.getD k 0) = (y : Int) by rw [hy]; rfl] at hc0
        have HD := Lib.hid (drop_take bs n k hlt (by rw [HL.out]; omega))
        have HY := Lib.hid hy
        clear hy hcell
        by_cases h1 : y < 128
        · have HR : Hid (joinS m bs n = none) := by
            show _ = _
            rw [HJ.out, HK.out, HD.out]; unfold joinL; rw [← HY.out, if_pos (by omega)]
          go_wp2_with fail
          go_ret2
          exact ⟨by rw [HR.out]; rfl, rfl⟩
        · by_cases h2 : 192 ≤ y
          · have HR : Hid (joinS m bs n = none) := by
              show _ = _
              rw [HJ.out, HK.out, HD.out]; unfold joinL; rw [← HY.out, if_pos (by omega)]
            go_wp2_with fail
            go_ret2
            exact ⟨by rw [HR.out]; rfl, rfl⟩
          · have HR : Hid (joinL m (bs.take n) = joinL (c * 64 + (y - 128)) ((bs.take n).drop (k + 1))) := by
              show _ = _
              rw [HK.out, HD.out]; conv => lhs; unfold joinL
              rw [← HY.out, if_neg (by omega)]
            go_wp2_with fail
            go_round
            case rel => exact ⟨k + 1, c * 64 + (y - 128), by omega, by go_num, by go_num, by rw [HPS.out, ← HP.out]; omega, HR⟩
            case measure => simp [intOf]; omega
      · have HR : Hid (joinS m bs n = some c) := by
          show _ = _
          rw [HJ.out, HK.out, List.drop_eq_nil_of_le (by rw [List.length_take]; omega)]; rfl
        go_wp2_with fail
        go_ret2
        exact ⟨by rw [HR.out]; rfl, rfl⟩
end Go.Proofs.YtpnnebnjkinndaaDoor.UtfW
