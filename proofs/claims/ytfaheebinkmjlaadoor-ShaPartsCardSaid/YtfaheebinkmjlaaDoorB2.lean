import Derived.Test.YtfaheebinkmjlaaDoorB1
import Derived.Deep.QuietTactic
import Derived.BigQuiet
namespace Go.Proofs.YtfaheebinkmjlaaDoor
open Go.RowKit
open Sha
def FHP (w : World) (l : List UInt8) (e : Ending) (w' : World) : Prop := ∃ str code, e = .returned (.tuple #[.string ⟨str.toArray⟩, .int .i64 code]) ∧ FH l str code ∧ Below w.heap.size w w'
set_option maxRecDepth 100000 in
set_option maxHeartbeats 1000000 in
theorem fromHex_any (s : ByteArray) (w : World) (hs : s.size ≤ 1099511627776) :
    Calls Tryd.prog 14 #[.string s] w (FHP w s.data.toList) := by
  have hb0 : Below w.heap.size w w := Below.refl _ _
  have HL : Hid (s.data.toList.length = s.size) := Array.length_toList
  by_cases hodd : (s.size : Int) % 2 = 0
  · have hodd' : ((s.size : Int) % 2 != 0) = false := by simp [hodd]
    have HO : Hid ((s.size : Int) % 2 = 0) := hodd
    clear hodd
    go_enter Tryd.func14, Tryd.ntmps14
    go_wp2_with (first
      | (at_make; refine wpList_mk rfl _ _ rfl bytesTy w.heap.size _ _ _ (s.size / 2) rfl rfl (by omega) (by omega) (Nat.le_refl _) ?_; intro w1 hown hgr; have hb1 := hb0.grown hgr (Nat.le_refl _) (fun k hk => by cases hk)))
    go_loopw [4, 5] (fun v i wr => ∃ k : Nat, 2 * k ≤ s.size ∧ i = .int .i64 (2 * (k : Int)) ∧ wr.ownsRow w.heap.size 5 1 v k (bcells (decB s.data.toList k)) ∧ Hid (okHex s.data.toList (2 * k)) ∧ Below w.heap.size w wr)
      (fun _ i _ => s.size - (intOf i).toNat)
    case atStart => exact ⟨0, by omega, rfl, hown, fun j hj => by omega, hb1⟩
    case round =>
      clear hown hb1 hgr hb0
      obtain ⟨k, hk, rfl, hown, HK, hbel⟩ := hrel
      by_cases hlt : 2 * k < s.size
      · have hlt2 : 2 * k + 1 < s.size := by have := HO.out; omega
        have hk0 := fun w' => run_stri (P := Tryd.prog) under9 w' s (2 * k) .i64 hlt (2 * (k : Int)) (by omega)
        have hk1 := fun w' => run_stri (P := Tryd.prog) under9 w' s (2 * k + 1) .i64 hlt2 (2 * (k : Int) + 1) (by omega)
        have HX : Hid (decB s.data.toList (k + 1) = decB s.data.toList k ++ [pairB (s.data.toList.getD (2 * k) 0) (s.data.toList.getD (2 * k + 1) 0)]) := decB_succ _ k
        have HG0 : Hid (s.data.toList.getD (2 * k) 0 = s.data.toList.getD (2 * k) 0) := rfl
        obtain ⟨x, hx⟩ : ∃ x, x = s.data.toList.getD (2 * k) 0 := ⟨_, rfl⟩
        obtain ⟨y, hy⟩ : ∃ y, y = s.data.toList.getD (2 * k + 1) 0 := ⟨_, rfl⟩
        rw [← hx] at hk0 HX
        rw [← hy] at hk1 HX
        have HXX : Hid (x = s.data.toList.getD (2 * k) 0) := hx
        have HYY : Hid (y = s.data.toList.getD (2 * k + 1) 0) := hy
        clear hx hy HG0
        have d1 := digS_le x
        have d2 := digS_le y
        have d3 := digS_ge x
        have d4 := digS_ge y
        have hxl : 2 * k < s.data.toList.length := by rw [HL.out]; exact hlt
        have hyl : 2 * k + 1 < s.data.toList.length := by rw [HL.out]; exact hlt2
        by_cases hx0 : digS x < 0
        · have hno : ¬ (s.data.toList.length % 2 = 0 ∧ okHex s.data.toList s.data.toList.length) := fun h => by
            have := h.2 _ hxl; rw [← HXX.out] at this; omega
          have HNO : Hid (¬ (s.data.toList.length % 2 = 0 ∧ okHex s.data.toList s.data.toList.length)) := hno
          clear hno hxl hyl
          go_wp2_with fail
          go_quiet ((go_at_call 23; exact Calls.quiet_of_same (digit_q _ _)))
          go_wp2_with fail
          go_ret2
          exact ⟨[], 2, rfl, .inr ⟨HNO.out, rfl, rfl⟩, below_drewN hbel _⟩
        · by_cases hy0 : digS y < 0
          · have hno : ¬ (s.data.toList.length % 2 = 0 ∧ okHex s.data.toList s.data.toList.length) := fun h => by
              have := h.2 _ hyl; rw [← HYY.out] at this; omega
            have HNO : Hid (¬ (s.data.toList.length % 2 = 0 ∧ okHex s.data.toList s.data.toList.length)) := hno
            clear hno hxl hyl
            go_wp2_with fail
            go_quiet ((go_at_call 23; exact Calls.quiet_of_same (digit_q _ _)))
            go_wp2_with fail
            go_ret2
            exact ⟨[], 2, rfl, .inr ⟨HNO.out, rfl, rfl⟩, below_drewN hbel _⟩
          · have hor := pair_or x y (by omega) (by omega)
            have HSL : Hid (∀ W : World, Sl (W.alloc (.cells #[.int .u8 (digS x * 16 + digS y)] 5)) (some ⟨W.heap.size, 0, none⟩) (bcells [pairB x y])) := by
              intro W
              have e : bcells [pairB x y] = [.int .u8 (digS x * 16 + digS y)] := by
                have := pair_int x y (by omega) (by omega)
                simp [bcells, bv, ← this]; omega
              rw [e]; exact Sl.of_at_all (At.new_ _ _ 5 _ rfl)
            have HK2 : Hid (okHex s.data.toList (2 * (k + 1))) := by
              intro j hj
              rcases Nat.lt_or_ge j (2 * k) with h | h
              · exact HK.out j h
              · rcases Nat.eq_or_lt_of_le h with h | h
                · rw [← h, ← HXX.out]; omega
                · rw [show j = 2 * k + 1 by omega, ← HYY.out]; omega
            have hd0 : 0 ≤ digS x := by omega
            have hd1 : 0 ≤ digS y := by omega
            have hbs := hbel.size
            clear hxl hyl d3 d4
            go_wp2_with fail
            go_quiet ((go_at_call 23; exact Calls.quiet_of_same (digit_q _ _)))
            clear hk0 hk1
            go_wp2_with (first
              | (at_builtin; refine wpList_app rfl (.tmp 37) (.tmp 43) 22 rfl bytesTy w.heap.size u4 k _ rfl ((own_drewN hown nq).alloc _) _ 1 1 (bcells [pairB x y]) rfl rfl (HSL.out _) (bcells_one _) (by omega) (by simp; omega) ?_; intro v2 w2 hown2 hgr2 hbl2))
            have hbel2 := below_app ((below_drewN hbel nq).alloc hbel.size (.cells #[.int .u8 (digS x * 16 + digS y)] 5)) hgr2 ((own_drewN hown nq).alloc _) (Nat.le_refl _) (by simp; omega)
            go_roundw
            case rel =>
              refine ⟨k + 1, by omega, by go_num, ?_, HK2, hbel2⟩
              rw [HX.out, ← bcells_app]; exact hown2
            case measure => simp [intOf]; omega
      · have hk8 : s.size ≤ 2 * k := by omega
        have hkk : k = s.size / 2 := by have := HO.out; omega
        obtain ⟨A, c, rfl, hsl, _, _⟩ := own_slice hown
        have hstr := run_str (P := Tryd.prog) wr 22 9 5 under22 under5 under9 A (decB s.data.toList k) k c (decB_len _ _) hsl
        have HF : Hid (FH s.data.toList (decB s.data.toList k) 0) := .inl ⟨by rw [HL.out]; have := HO.out; omega, by
          intro j hj; exact HK.out j (by rw [HL.out] at hj; omega), by rw [HL.out, hkk], rfl⟩
        clear hown hsl hkk
        go_wp2_with fail
        go_ret2
        exact ⟨_, _, rfl, HF.out, hbel⟩
  · have hodd' : ((s.size : Int) % 2 != 0) = true := by simpa using hodd
    have hno : ¬ (s.data.toList.length % 2 = 0 ∧ okHex s.data.toList s.data.toList.length) := fun h => by
      have := h.1; rw [HL.out] at this; omega
    have HNO : Hid (¬ (s.data.toList.length % 2 = 0 ∧ okHex s.data.toList s.data.toList.length)) := hno
    clear hno hodd
    go_enter Tryd.func14, Tryd.ntmps14
    go_wp2_with fail
    go_ret2
    exact ⟨[], 2, rfl, .inr ⟨HNO.out, rfl, rfl⟩, Below.refl _ _⟩
end Go.Proofs.YtfaheebinkmjlaaDoor
