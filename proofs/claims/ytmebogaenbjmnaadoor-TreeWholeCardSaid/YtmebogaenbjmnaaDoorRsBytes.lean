/- rubrickref03: Bytes. -/
import Derived.Test.YtmebogaenbjmnaaDoorSa
namespace Go.Proofs.YtmebogaenbjmnaaDoor.SealW
open Go.RowKit
set_option maxRecDepth 100000 in
set_option maxHeartbeats 1000000 in
theorem refBytes_any (k : UInt8) (B : Option Addr) (l d : Nat) (bs : List UInt8) (w : World) (hl : bs.length = l) (hb : Sl w B (bcells bs)) (h45 : l ≤ 35184372088832) :
    Calls Tryd.prog 59 #[.int .i64 (ub k), .slice B l d] w fun e w' => ∃ A' c', e = .returned (.slice A' (l + 1) c') ∧ Sl w' A' (bcells (k :: bs)) ∧ l + 1 ≤ c' ∧ c' ≤ maxLen ∧ Below w.heap.size w w' := by
  have HL : Hid (bs.length = l) := hl
  have h0 : Below w.heap.size w (w.alloc (.cells (bcells [k]).toArray 5)) := (Below.refl _ _).alloc (Nat.le_refl _) _
  have o0 := own_lit w w.heap.size 5 (bcells [k]) 1 rfl (Nat.le_refl _) (by omega)
  have k0 := ub_nn k
  have k1 := ub_lt k
  have kw : IntKind.u8.wrap (ub k) = ub k := IntWalk.u8_in _ (by omega)
  clear hl
  go_enter Tryd.func59, Tryd.ntmps59
  go_wp2_with fail
  go_loopw [5, 6] (fun v i wr => ∃ j : Nat, j ≤ l ∧ i = .int .i64 j ∧ wr.ownsRow w.heap.size 5 1 v (j + 1) (bcells (k :: bs.take j)) ∧ Below w.heap.size w wr)
    (fun _ i _ => l - (intOf i).toNat)
  case atStart => exact ⟨0, by omega, rfl, o0, h0⟩
  case round =>
    clear o0 h0 kw k0 k1
    obtain ⟨j, hj, rfl, hown, hbel⟩ := hrel
    by_cases hlt : j < l
    · obtain ⟨b, o, rfl, hblt, hcell⟩ := hb.get (j := j) (by rw [bcells_len, HL.out]; exact hlt)
      have hcw := (hbel.cell (p := ⟨b, o + j, none⟩) hblt).trans (hcell j _ (bcells_get bs j (by rw [HL.out]; exact hlt)))
      have HX : Hid (bs.take (j + 1) = bs.take j ++ [bs.getD j 0]) := by
        show _ = _
        rw [List.take_add_one]
        simp [HL.out, hlt]
      clear hcell
      generalize bs.getD j 0 = x at *
      have hsl : ∀ (W : World), Sl (W.alloc (.cells #[.int .u8 (ub x)] 5)) (some ⟨W.heap.size, 0, none⟩) (bcells [x]) := fun W => Sl.of_at_all (At.new_ _ _ 5 (bcells [x]) rfl)
      have HSL : Hid (∀ (W : World), Sl (W.alloc (.cells #[.int .u8 (ub x)] 5)) (some ⟨W.heap.size, 0, none⟩) (bcells [x])) := hsl
      have hbx := hbel.alloc hbel.size (.cells #[.int .u8 (ub x)] 5)
      clear hsl
      go_wp2_with (refine wpList_app rfl (.tmp 16) (.tmp 21) 49 rfl bytesTy w.heap.size u5 (j + 1) (bcells (k :: bs.take j)) rfl (hown.alloc _) _ 1 1 (bcells [x]) rfl rfl (HSL.out _) (bcells_one _) (by omega) hbx.size ?_; intro v1 w1 hown1 hgr1 hbl1)
      have hb1 := below_app hbx hgr1 (hown.alloc (.cells #[.int .u8 (ub x)] 5)) (Nat.le_refl _) hbx.size
      go_roundw
      case rel =>
        refine ⟨j + 1, by omega, by go_num, ?_, hb1⟩
        rw [HX.out, ← List.cons_append, ← bcells_app]; exact hown1
      case measure => simp [intOf]; omega
    · have hjn : j = l := by omega
      have hfl : bs.take j = bs := List.take_of_length_le (by rw [HL.out]; omega)
      rw [hfl, hjn] at hown
      obtain ⟨A', c', rfl, hsl, hc', _, hm', _⟩ := own_slice hown
      clear hown hfl
      go_wp2_with fail
      go_ret
      exact ⟨A', c', rfl, hsl, hc', hm', hbel⟩
end Go.Proofs.YtmebogaenbjmnaaDoor.SealW
