import Derived.Test.YtkoelgkcgkeodaaDoorAb
namespace Go.Proofs.YtkoelgkcgkeodaaDoor.ShaW
open Go.RowKit
open Sha
theorem run_tab (w : World) (z : Int) (n : Nat) (hz : z = (n : Int)) (h : n < 16) : (Instr.index 9 (.string ⟨#[48, 49, 50, 51, 52, 53, 54, 55, 56, 57, 97, 98, 99, 100, 101, 102]⟩) (.int .u8 z)).run Tryd.prog w = .ok (.int .u8 (ub (hexC n))) w := by
  subst hz
  have := tab_get n h
  unfold hexTab at this
  simp [Instr.index, asIntOf, run_underlying under9, this, ub]
set_option maxRecDepth 100000 in
set_option maxHeartbeats 1000000 in
theorem hex_any (s : ByteArray) (w : World) (hs : s.size ≤ 1099511627776) :
    Calls Tryd.prog 25 #[.string s] w fun e w' => e = .returned (.string ⟨(hexL s.data.toList).toArray⟩) ∧ Below w.heap.size w w' := by
  have hb0 : Below w.heap.size w w := Below.refl _ _
  have hlen : s.data.toList.length = s.size := Array.length_toList
  have HL : Hid (s.data.toList.length = s.size) := hlen
  clear hlen
  go_enter Tryd.func25, Tryd.ntmps25
  go_wp2_with (first
    | (at_make; refine wpList_mk rfl _ _ rfl bytesTy w.heap.size _ _ _ (2 * s.size) rfl rfl (by omega) (by omega) (Nat.le_refl _) ?_; intro w1 hown hgr; have hb1 := hb0.grown hgr (Nat.le_refl _) (fun k hk => by cases hk)))
  go_loopw [3, 11] (fun v i wr => ∃ k : Nat, k ≤ s.size ∧ i = .int .i64 k ∧ wr.ownsRow w.heap.size 5 1 v (2 * k) (bcells (hexL (s.data.toList.take k))) ∧ Below w.heap.size w wr)
    (fun _ i _ => s.size - (intOf i).toNat)
  case atStart => exact ⟨0, by omega, rfl, hown, hb1⟩
  case round =>
    clear hown hb1 hgr hb0
    obtain ⟨k, hk, rfl, hown, hbel⟩ := hrel
    by_cases hlt : k < s.size
    · have hk := fun w' => run_stri (P := Tryd.prog) under9 w' s k .i64 hlt _ rfl
      have HX : Hid (hexL (s.data.toList.take (k + 1)) = hexL (s.data.toList.take k) ++ [hexC ((s.data.toList.getD k 0).toNat / 16), hexC ((s.data.toList.getD k 0).toNat % 16)]) := hexL_snoc _ k (by rw [HL.out]; exact hlt)
      generalize s.data.toList.getD k 0 = x at *
      have h1 := ub_lt x
      have h2 := ub_nn x
      have hAnd : bits .and .u8 (ub x) 15 = ub x % 16 := u8_and15 _ h2 h1
      have hA := fun w' => run_tab w' (ub x / 16) (x.toNat / 16) (by simp [ub]) (by have := x.toNat_lt; omega)
      have hB := fun w' => run_tab w' (ub x % 16) (x.toNat % 16) (by simp [ub]) (by omega)
      generalize hexC (x.toNat / 16) = c1 at *
      generalize hexC (x.toNat % 16) = c2 at *
      go_wp2_with fail
      go_region_law (go_must (refine step_app rfl (.tmp 14) (.tmp 25) 22 rfl bytesTy w.heap.size u3 (2 * k) _ rfl (hown.alloc _).drew _ 2 2 (bcells [c1, c2]) rfl rfl (Sl.of_at_all (At.new_ wr _ 5 (bcells [c1, c2]) rfl)) (bcells_one _) (by omega) (by simp; have := hbel.size; omega) ?_; intro v2 w2 hown2 hgr2 hbl2))
      all_goals
        have hbel2 := below_app ((hbel.alloc hbel.size (.cells #[.int .u8 (ub c1), .int .u8 (ub c2)] 5)).drew) hgr2 (hown.alloc _).drew (Nat.le_refl _) (by simp; have := hbel.size; omega)
        clear hA hB hAnd hk
        go_simp
        go_wp2_with fail
        go_roundw
        case rel =>
          refine ⟨k + 1, by omega, by go_num, ?_, hbel2⟩
          rw [HX.out, ← bcells_app, show 2 * (k + 1) = 2 * k + 2 by omega]; exact hown2
        case measure => simp [intOf]; omega
    · have hk8 : s.size ≤ k := by omega
      have hown' : wr.ownsRow w.heap.size 5 1 u3 (2 * s.size) (bcells (hexL s.data.toList)) := by
        have e : k = s.size := by omega
        rw [e, List.take_of_length_le (Nat.le_of_eq HL.out)] at hown; exact hown
      obtain ⟨A, c, rfl, hsl, _, _⟩ := own_slice hown'
      have hstr := run_str (P := Tryd.prog) wr 22 9 5 under22 under5 under9 A (hexL s.data.toList) (2 * s.size) c (by rw [hexL_len, HL.out]) hsl
      clear hown hown' hsl
      go_wp2_with fail
      go_ret
      exact ⟨rfl, hbel⟩
end Go.Proofs.YtkoelgkcgkeodaaDoor.ShaW
