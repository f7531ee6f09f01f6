import Derived.Test.YtfaheebinkmjlaaDoorB2
import Derived.StillTailTactics
import Derived.Deep.RegionWith
namespace Go.Proofs.YtfaheebinkmjlaaDoor
open Go.RowKit
open Sha
set_option maxHeartbeats 400000 in
theorem one_any (n : Nat) (w : World) (h : n < 16) :
    Calls Tryd.prog 24 #[.int .u8 (n : Int)] w fun e w' => e = .returned (.int .u8 (ub (hexC n))) ∧ w = w' := by
  by_cases h9 : 9 < n
  · go_enter Tryd.func24, Tryd.ntmps24
    go_wp2
    go_ret
    refine ⟨ret_int ?_, rfl⟩
    unfold ub hexC
    rw [if_neg (by omega), UInt8.toNat_ofNat']
    omega
  · go_enter Tryd.func24, Tryd.ntmps24
    go_wp2
    go_ret
    refine ⟨ret_int ?_, rfl⟩
    unfold ub hexC
    rw [if_pos (by omega), UInt8.toNat_ofNat']
    omega
set_option maxRecDepth 100000 in
set_option maxHeartbeats 1000000 in
theorem refHex_any (s : ByteArray) (w : World) (hs : s.size ≤ 1099511627776) :
    Calls Tryd.prog 17 #[.string s] w fun e w' => e = .returned (.string ⟨(hexL s.data.toList).toArray⟩) ∧ Below w.heap.size w w' := by
  have HL : Hid (s.data.toList.length = s.size) := Array.length_toList
  go_enter Tryd.func17, Tryd.ntmps17
  go_wp2_with fail
  go_loopw [3, 4] (fun v i wr => ∃ k : Nat, k ≤ s.size ∧ i = .int .i64 k ∧ wr.ownsRow w.heap.size 5 1 v (2 * k) (bcells (hexL (s.data.toList.take k))) ∧ Below w.heap.size w wr)
    (fun _ i _ => s.size - (intOf i).toNat)
  case atStart => exact ⟨0, by omega, rfl, World.ownsRow_nil _ _ _ _, Below.refl _ _⟩
  case round =>
    obtain ⟨k, hk, rfl, hown, hbel⟩ := hrel
    by_cases hlt : k < s.size
    · have hk := fun w' => run_stri (P := Tryd.prog) under9 w' s k .i64 hlt _ rfl
      have HX : Hid (hexL (s.data.toList.take (k + 1)) = hexL (s.data.toList.take k) ++ [hexC ((s.data.toList.getD k 0).toNat / 16), hexC ((s.data.toList.getD k 0).toNat % 16)]) := hexL_snoc _ k (by rw [HL.out]; exact hlt)
      generalize s.data.toList.getD k 0 = x at *
      have h1 := ub_lt x
      have h2 := ub_nn x
      have hbs := hbel.size
      have q1 : IntKind.u8.wrap ((ub x).tdiv 16) = ub x / 16 := IntWalk.u8_quo _ _ (by omega)
      have q2 : (ub x).tmod 16 = ub x % 16 := Int.tmod_eq_emod_of_nonneg h2
      have hA := fun w' => one_any (x.toNat / 16) w' (by have := x.toNat_lt; omega)
      have hB := fun w' => one_any (x.toNat % 16) w' (by omega)
      have HA : Hid (∀ w', Calls Tryd.prog 24 #[.int .u8 (ub x / 16)] w' fun e w'' => e = .returned (.int .u8 (ub (hexC (x.toNat / 16)))) ∧ w' = w'') := hA
      have HB : Hid (∀ w', Calls Tryd.prog 24 #[.int .u8 (ub x % 16)] w' fun e w'' => e = .returned (.int .u8 (ub (hexC (x.toNat % 16)))) ∧ w' = w'') := hB
      clear hA hB
      generalize hexC (x.toNat / 16) = c1 at *
      generalize hexC (x.toNat % 16) = c2 at *
      go_wp2_with fail
      go_region_law (first
        | (refine step_app rfl (.tmp 11) (.tmp 22) 22 rfl bytesTy w.heap.size u3 (2 * k) _ rfl (hown.alloc _).drew _ 2 2 (bcells [c1, c2]) rfl rfl (Sl.of_at_all (At.new_ wr _ 5 (bcells [c1, c2]) rfl)) (bcells_one _) (by omega) (by simp; omega) ?_; intro v2 w2 hown2 hgr2 hbl2)
        | (go_simp; go_at_call 24; ((with_reducible refine (HA.out _).mono ?_); rintro e w' ⟨rfl, rfl⟩))
        | (go_simp; go_at_call 24; ((with_reducible refine (HB.out _).mono ?_); rintro e w' ⟨rfl, rfl⟩)))
      all_goals
        have hbel2 := below_app ((hbel.alloc hbel.size (.cells #[.int .u8 (ub c1), .int .u8 (ub c2)] 5)).drew) hgr2 (hown.alloc _).drew (Nat.le_refl _) (by simp; omega)
        clear hk
        go_simp
        go_wp2_with fail
        go_roundw
        case rel =>
          refine ⟨k + 1, by omega, by go_num, ?_, hbel2⟩
          rw [HX.out, ← bcells_app, show 2 * (k + 1) = 2 * k + 2 by omega]; exact hown2
        case measure => simp [intOf]; omega
    · have hk8 : s.size ≤ k := by omega
      have hown' : wr.ownsRow w.heap.size 5 1 u3 (2 * s.size) (bcells (hexL s.data.toList)) := by
        have e : k = s.size := by omega
        rw [e, List.take_of_length_le (Nat.le_of_eq HL.out)] at hown; exact hown
      obtain ⟨A, c, rfl, hsl, _, _⟩ := own_slice hown'
      have hstr := run_str (P := Tryd.prog) wr 22 9 5 under22 under5 under9 A (hexL s.data.toList) (2 * s.size) c (by rw [hexL_len, HL.out]) hsl
      clear hown hown' hsl
      go_wp2_with fail
      go_ret
      exact ⟨rfl, hbel⟩
end Go.Proofs.YtfaheebinkmjlaaDoor
