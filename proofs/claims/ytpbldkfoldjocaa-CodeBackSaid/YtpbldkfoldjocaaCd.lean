/- great; Same; code.num. -/
import Derived.Test.YtpbldkfoldjocaaCc
import Derived.Deep.QuietTactic
import Derived.BigQuiet
import Derived.WalkMore
import Derived.Lib.EndianBits
namespace Go.Proofs.Ytpbldkfoldjocaa
open Go.RowKit
open Cod
theorem ret_bool {a b : Bool} (h : a = b) : Ending.returned (.bool a) = .returned (.bool b) := by rw [h]
def GreatP (ss : List ByteArray) (w : World) (e : Ending) (w' : World) : Prop := ∃ b, e = .returned (.bool b) ∧ (b = false → ss.length ≤ 50 ∧ ∀ s ∈ ss, s.size ≤ 1000) ∧ w = w'
set_option maxHeartbeats 400000 in
theorem great_any (A : Option Addr) (n c : Nat) (ss : List ByteArray) (w : World) (hn : ss.length = n) (hA : Sl w A (scells ss)) (hn63 : n ≤ 9223372036854775807) :
    Calls Try.prog 7 #[.slice A n c] w (GreatP ss w) := by
  have HN : Hid (ss.length = n) := hn
  clear hn
  go_enter Try.func7, Try.ntmps7
  go_wp2_with fail
  go_loop [3] (fun i => ∃ k : Nat, k ≤ n ∧ i = .int .i64 k ∧ Hid (∀ j, j < k → (ss.getD j ⟨#[]⟩).size ≤ 1000)) (fun i => n - (intOf i).toNat)
  case atStart => exact ⟨0, by omega, rfl, fun j hj => by omega⟩
  case round =>
    obtain ⟨k, hk, rfl, HK⟩ := hrel
    by_cases hlt : k < n
    · obtain ⟨b, o, rfl, hblt, hcell⟩ := (hA.get (j := k) (by rw [scells_len, HN.out]; exact hlt))
      have hc0 := hcell k _ (scells_get ss k (by rw [HN.out]; exact hlt))
      have HK2 : Hid ((ss.getD k ⟨#[]⟩).size ≤ 1000 → ∀ j, j < k + 1 → (ss.getD j ⟨#[]⟩).size ≤ 1000) := fun h j hj => by
        rcases Nat.lt_or_ge j k with h1 | h1
        · exact HK.out j h1
        · rwa [show j = k by omega]
      clear hcell
      generalize ss.getD k ⟨#[]⟩ = s at *
      by_cases hs : 1000 < s.size
      · go_wp2_with fail
        go_ret
        exact ⟨true, rfl, (fun h => by cases h), rfl⟩
      · go_wp2_with fail
        go_round
        case rel => exact ⟨k + 1, by omega, by go_num, HK2.out (by omega)⟩
        case measure => simp [intOf]; omega
    · have hk8 : k = n := by omega
      by_cases h50 : 50 < n
      · go_wp2_with fail
        go_ret
        refine ⟨true, ret_bool (by first | (simp; done) | (simp; omega)), (fun h => by cases h), rfl⟩
      · go_wp2_with fail
        go_ret
        refine ⟨false, ret_bool (by first | (simp; done) | (simp; omega)), fun _ => ⟨by rw [HN.out]; omega, fun s hs => ?_⟩, rfl⟩
        obtain ⟨i, hi, rfl⟩ := List.getElem_of_mem hs
        have := HK.out i (by rw [hk8, ← HN.out]; exact hi)
        simpa [hi] using this
set_option maxHeartbeats 400000 in
theorem same_any (A B : Option Addr) (n c d : Nat) (ss : List ByteArray) (w : World) (hn : ss.length = n) (hA : Sl w A (scells ss)) (hB : Sl w B (scells ss)) (hn63 : n ≤ 9223372036854775807) :
    Calls Try.prog 18 #[.slice A n c, .slice B n d] w fun e w' => e = .returned (.bool true) ∧ Below w.heap.size w w' := by
  have HN : Hid (ss.length = n) := hn
  clear hn
  go_enter Try.func18, Try.ntmps18
  go_wp2_with fail
  go_loopw [5] (fun i wr => ∃ k : Nat, k ≤ n ∧ i = .int .i64 k ∧ Below w.heap.size w wr) (fun i _ => n - (intOf i).toNat)
  case atStart => exact ⟨0, by omega, rfl, Below.refl _ _⟩
  case round =>
    obtain ⟨k, hk, rfl, hbel⟩ := hrel
    by_cases hlt : k < n
    · obtain ⟨b, o, rfl, hblt, hcell⟩ := (hA.get (j := k) (by rw [scells_len, HN.out]; exact hlt))
      obtain ⟨b2, o2, rfl, hblt2, hcell2⟩ := (hB.get (j := k) (by rw [scells_len, HN.out]; exact hlt))
      have hc0 := (hbel.cell (p := ⟨b, o + k, none⟩) hblt).trans (hcell k _ (scells_get ss k (by rw [HN.out]; exact hlt)))
      have hc1 := (hbel.cell (p := ⟨b2, o2 + k, none⟩) hblt2).trans (hcell2 k _ (scells_get ss k (by rw [HN.out]; exact hlt)))
      clear hcell hcell2
      generalize ss.getD k ⟨#[]⟩ = s at *
      go_wp2_with fail
      go_quiet (fail)
      go_wp2_with fail
      go_roundw
      case rel => exact ⟨k + 1, by omega, by go_num, hbel.trans (below_drewN (Below.refl _ _) _)⟩
      case measure => simp [intOf]; omega
    · have hk8 : k = n := by omega
      go_wp2_with fail
      go_ret
      exact ⟨rfl, hbel⟩
theorem or_group (v y k : Nat) (hv : v < 2 ^ (7 * k)) (hy : y < 128) (hk : k ≤ 8) : bits .or .i64 (v : Int) (wrap64 ((y : Int) * 2 ^ (7 * k))) = ((v + y * 2 ^ (7 * k) : Nat) : Int) := by
  have h1 := group_lt y k hy hk
  have h2 : v < 2 ^ 63 := Nat.lt_of_lt_of_le hv (Nat.pow_le_pow_right (by omega) (by omega))
  have h63 : (2 : Nat) ^ 63 = 9223372036854775808 := by decide
  have h63' : (2 : Int) ^ 63 = 9223372036854775808 := by decide
  have e : (y : Int) * 2 ^ (7 * k) = ((y * 2 ^ (7 * k) : Nat) : Int) := by push_cast; rfl
  have ep : (2 : Int) ^ (7 * k) = ((2 ^ (7 * k) : Nat) : Int) := by push_cast; rfl
  rw [e, show wrap64 ((y * 2 ^ (7 * k) : Nat) : Int) = ((y * 2 ^ (7 * k) : Nat) : Int) from IntWalk.wrap64_in _ ⟨by omega, by omega⟩]
  rw [bits_join_low .i64 63 (by decide) (fun n h0 h => IntWalk.i64_in n (by rw [h63'] at h; omega)) (7 * k) (v : Int) _ (by omega) (by rw [ep]; exact_mod_cast hv) (by rw [h63']; omega) (by omega) (by rw [ep, ← Int.natCast_emod, Nat.mul_mod_left]; rfl) (by rw [h63']; omega)]
  push_cast; rfl
set_option maxRecDepth 100000 in
set_option maxHeartbeats 1000000 in
theorem rnum_any (B : Option Addr) (l d : Nat) (bs : List UInt8) (w : World) (hl : bs.length = l) (hb : Sl w B (bcells bs)) (h47 : l ≤ 9223372036854775807) :
    Calls Try.prog 24 #[.slice B l d] w fun e w' => e = .returned (.tuple #[.int .i64 (numS bs).1, .int .i64 (numS bs).2.1, .int .i64 (numS bs).2.2]) ∧ w = w' := by
  have HL : Hid (bs.length = l) := hl
  clear hl
  go_enter Try.func24, Try.ntmps24
  go_wp2_with fail
  go_step3
  go_wp2_with fail
  go_step3
  go_wp2_with fail
  go_loop [5, 6] (fun v i => ∃ k : Nat, k ≤ 9 ∧ k ≤ l ∧ Hid (k ≤ lead bs) ∧ i = .int .i64 k ∧ v = .int .i64 (val (bs.take k) : Nat)) (fun _ i => 9 - (intOf i).toNat)
  case atStart => exact ⟨0, by omega, by omega, Nat.zero_le _, rfl, by simp [val]⟩
  case round =>
    obtain ⟨k, hk9, hkl, HK, rfl, rfl⟩ := hrel
    by_cases h9 : k = 9
    · have HR : Hid (numS bs = (0, 0, 2)) := by
        have := HK.out
        unfold Hid numS; rw [if_pos (by omega)]
      subst h9
      go_wp2_with fail
      try rw [Exit.noGoto_ret]
      go_ret3
      exact ⟨by rw [HR.out]; rfl, rfl⟩
    · by_cases hl : k = l
      · have HR : Hid (numS bs = (0, 0, 4)) := by
          have h1 := HK.out
          have h2 := lead_le bs
          rw [HL.out] at h2
          unfold Hid numS; rw [if_neg (by omega), if_pos (by rw [HL.out]; omega)]
        subst hl
        go_wp2_with fail
        try rw [Exit.noGoto_ret]
        go_ret3
        exact ⟨by rw [HR.out]; rfl, rfl⟩
      · have h9' : ((k : Int) == 9) = false := by simp; omega
        have hl' : ((k : Int) == (l : Int)) = false := by simp; omega
        obtain ⟨b, o, rfl, hblt, hcell⟩ := (hb.get (j := k) (by rw [bcells_len, HL.out]; omega))
        have hc0 := hcell k _ (bcells_get bs k (by rw [HL.out]; omega))
        clear hcell
        obtain ⟨x, hx⟩ : ∃ x, x = bs.getD k 0 := ⟨_, rfl⟩
        rw [← hx] at hc0
        have HX : Hid (x = bs.getD k 0) := hx
        clear hx
        have hx1 := ub_lt x
        have hx0 := ub_nn x
        have hvk := val_lt bs k
        have HVS : Hid (val (bs.take (k + 1)) = val (bs.take k) + x.toNat % 128 * 2 ^ (7 * k)) := by
          have := val_snoc bs k (by rw [HL.out]; omega)
          rw [← HX.out] at this; exact this
        by_cases hbig : 128 ≤ ub x
        · have hor := or_group (val (bs.take k)) (x.toNat % 128) k hvk (by omega) (by omega)
          rw [← HVS.out, show ((x.toNat % 128 : Nat) : Int) = ub x - 128 by unfold ub at *; omega] at hor
          have HM : Hid (k + 1 ≤ lead bs) := lead_more bs k HK.out (by rw [HL.out]; omega) (by rw [← HX.out]; unfold ub at hbig; omega)
          clear hvk
          go_wp2_with fail
          go_round
          case rel => exact ⟨k + 1, by omega, by omega, HM.out, by go_num, rfl⟩
          case measure => simp [intOf]; omega
        · have hor := or_group (val (bs.take k)) (x.toNat % 128) k hvk (by omega) (by omega)
          rw [← HVS.out, show ((x.toNat % 128 : Nat) : Int) = ub x by unfold ub at *; omega] at hor
          have HM : Hid (lead bs = k) := lead_stop bs k HK.out (by rw [HL.out]; omega) (by rw [← HX.out]; unfold ub at hbig; omega)
          have HN0 : Hid (numS bs = if (0 < k ∧ x = 0) ∨ 4611686018427387904 < val (bs.take (k + 1)) then (0, 0, 2) else (val (bs.take (k + 1)), k + 1, 0)) := by
            unfold Hid numS
            rw [HM.out, if_neg (by omega), if_neg (by rw [HL.out]; omega), ← HX.out]
          clear hvk
          generalize val (bs.take (k + 1)) = V at *
          by_cases hk0 : 0 < k
          · by_cases hx0' : ub x = 0
            · have HR : Hid (numS bs = (0, 0, 2)) := by
                unfold Hid; rw [HN0.out, if_pos (.inl ⟨hk0, UInt8.toNat_inj.1 (by unfold ub at hx0'; have : (0 : UInt8).toNat = 0 := rfl; omega)⟩)]
              have hq : (ub x == 0) = true := by simp [hx0']
              have HQ : Hid (ub x = 0) := hx0'
              clear hx0'
              go_wp2_with fail
              try rw [Exit.noGoto_ret]
              go_ret3
              exact ⟨by rw [HR.out]; rfl, rfl⟩
            · have hq : (ub x == 0) = false := by simp [hx0']
              by_cases hV : 4611686018427387904 < V
              · have HR : Hid (numS bs = (0, 0, 2)) := by
                  unfold Hid; rw [HN0.out, if_pos (.inr hV)]
                go_wp2_with fail
                try rw [Exit.noGoto_ret]
                go_ret3
                exact ⟨by rw [HR.out]; rfl, rfl⟩
              · have HR : Hid (numS bs = (V, k + 1, 0)) := by
                  unfold Hid; rw [HN0.out, if_neg]
                  rintro (⟨_, h⟩ | h)
                  · subst h; exact hx0' rfl
                  · exact hV h
                go_wp2_with fail
                try rw [Exit.noGoto_ret]
                go_ret3
                exact ⟨by rw [HR.out]; simp, rfl⟩
          · by_cases hV : 4611686018427387904 < V
            · have HR : Hid (numS bs = (0, 0, 2)) := by
                unfold Hid; rw [HN0.out, if_pos (.inr hV)]
              go_wp2_with fail
              try rw [Exit.noGoto_ret]
              go_ret3
              exact ⟨by rw [HR.out]; rfl, rfl⟩
            · have HR : Hid (numS bs = (V, k + 1, 0)) := by
                unfold Hid; rw [HN0.out, if_neg]
                rintro (⟨h, _⟩ | h)
                · exact hk0 h
                · exact hV h
              go_wp2_with fail
              try rw [Exit.noGoto_ret]
              go_ret3
              exact ⟨by rw [HR.out]; simp, rfl⟩
end Go.Proofs.Ytpbldkfoldjocaa
