import Derived.Test.YtmebogaenbjmnaaDoorA4
import Derived.Test.YtmebogaenbjmnaaDoorMem
namespace Go.Proofs.YtmebogaenbjmnaaDoor.ShaW
open Go.RowKit
open Sha
theorem bytesTy : ElemTy Tryd.prog 49 5 (.int .u8 0) 1 :=
  ⟨by kernel_rfl, info_parts (by kernel_rfl), rfl, by omega⟩
theorem wordsTy : ElemTy Tryd.prog 72 62 (.int .u32 0) 4 :=
  ⟨by kernel_rfl, info_parts (by kernel_rfl), rfl, by omega⟩
theorem under22 : Tryd.prog.underlying 49 = some (.slice 5) := by kernel_rfl
theorem under5 : Tryd.prog.underlying 5 = some (.int .u8) := by kernel_rfl
theorem under9 : Tryd.prog.underlying 9 = some .string := by kernel_rfl
theorem under27 : Tryd.prog.underlying 62 = some (.int .u32) := by kernel_rfl
theorem info27 : (Tryd.prog.info? 62).map (·.size) = some 1 := by kernel_rfl
theorem info5 : (Tryd.prog.info? 5).map (·.size) = some 1 := by kernel_rfl
set_option maxRecDepth 100000 in
set_option maxHeartbeats 1000000 in
theorem text_any (l : List UInt32) (w : World) (hl : l.length = 8) :
    Calls Tryd.prog 54 #[.agg (wcells l).toArray] w fun e w' => e = .returned (.string ⟨(textB l).toArray⟩) ∧ Below w.heap.size w w' := by
  have h0 : At (w.alloc (.cells (wcells l).toArray 63)) w.heap.size 63 (wcells l) := At.new_ w _ 63 _ rfl
  have hb0 : Below w.heap.size w (w.alloc (.cells (wcells l).toArray 63)) := (Below.refl _ _).alloc (Nat.le_refl _) _
  go_enter Tryd.func54, Tryd.ntmps54
  go_wp2_with (first
            | (at_make; refine wpList_mk rfl _ _ rfl bytesTy (w.heap.size + 1) _ _ _ 32 rfl rfl rfl (by omega) (by simp) ?_; intro w1 hown hgr; have hb1 := hb0.grown hgr (by simp) (fun k hk => by cases hk); have h1 : At w1 w.heap.size 63 (wcells l) := (hgr.block _ (by simp) (by simp)).trans h0)
            | (refine wpList_load_row rfl 63 (.tmp 1) rfl (w.heap.size) rfl 63 _ (0, 0) _ h1 under28 rfl (by rw [info28]; simp [wcells_len, hl]) ?_))
  clear h0 hb0 hgr
  go_loopw [3, 8] (fun v i wr => ∃ k : Nat, k ≤ 8 ∧ i = .int .i64 k ∧ wr.ownsRow (w.heap.size + 1) 5 1 v (4 * k) (bcells (textB (l.take k))) ∧ Below w.heap.size w wr ∧ w.heap.size < wr.heap.size)
    (fun _ i _ => 8 - (intOf i).toNat)
  case atStart =>
    refine ⟨0, by omega, rfl, ?_, hb1, h1.lt⟩
    simpa [textB, bcells] using hown
  case round =>
    clear hown hb1 h1
    obtain ⟨k, hk, rfl, hown, hbel, hsz⟩ := hrel
    by_cases hlt : k < 8
    · have hki := run_idx (P := Tryd.prog) wr 63 62 8 .i64 .u32 under28 under27 info27 (wcells l).toArray k (.int .u32 (un (l.getD k 0))) hlt (by simpa using wcells_get l k (by omega))
      have HX : Hid (textB (l.take (k + 1)) = textB (l.take k) ++ be (l.getD k 0)) := textB_snoc l k (by omega)
      generalize l.getD k 0 = x at *
      have hsl : Sl (wr.alloc (.cells #[.int .u8 (un x / 16777216 % 256), .int .u8 (un x / 65536 % 256), .int .u8 (un x / 256 % 256), .int .u8 (un x % 256)] 5)) (some ⟨wr.heap.size, 0, none⟩) (bcells (be x)) := by
        rw [be_cells]; exact Sl.of_at_all (At.new_ wr _ 5 _ rfl)
      go_wp2_with (first
        | (at_builtin; refine wpList_app rfl (.tmp 11) (.tmp 23) 49 rfl bytesTy (w.heap.size + 1) u3 (4 * k) _ rfl (hown.alloc _) _ 4 4 (bcells (be x)) rfl rfl hsl (bcells_one _) (by omega) (by simp; omega) ?_; intro v2 w2 hown2 hgr2 hbl2))
      have hbel2 := below_app (hbel.alloc (by omega) _) hgr2 (hown.alloc _) (by omega) (by simp; omega)
      have hsz2 := hgr2.size
      clear hki hsl
      go_wp2
      go_roundw
      case rel =>
        refine ⟨k + 1, by omega, by go_num, ?_, hbel2, by simp at hsz2; omega⟩
        rw [HX.out, ← bcells_app, show 4 * (k + 1) = 4 * k + 4 by omega]; exact hown2
      case measure => simp [intOf]; omega
    · have hk8 : 8 ≤ k := by omega
      have hown' : wr.ownsRow (w.heap.size + 1) 5 1 u3 32 (bcells (textB l)) := by
        have e : k = 8 := by omega
        rw [e, List.take_of_length_le (by omega)] at hown; exact hown
      obtain ⟨A, c, rfl, hsl, _, _⟩ := own_slice hown'
      have hstr := run_str (P := Tryd.prog) wr 49 9 5 under22 under5 under9 A (textB l) 32 c (by rw [textB_len]; omega) hsl
      clear hown hown' hsl
      go_wp2
      go_ret
      exact ⟨rfl, hbel⟩
end Go.Proofs.YtmebogaenbjmnaaDoor.ShaW
