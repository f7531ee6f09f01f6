import Derived.Test.YtmebogaenbjmnaaDoorAa
namespace Go.Proofs.YtmebogaenbjmnaaDoor.ShaW
open Go.RowKit
open Sha
theorem okN_abs (bs : List UInt8) (l m' : Nat) (hl : bs.length = l) (hm : (absorb iv bs).2.length = m') (h : l ≤ 1099511627776) : okN m' (l : Int) := by
  rw [absorb_len, hl] at hm
  exact ⟨by omega, by omega, by omega⟩
set_option maxHeartbeats 1000000 in
theorem sum_any (B : Option Addr) (l d : Nat) (bs : List UInt8) (w : World) (hT : Tab w) (hl : bs.length = l) (hb : Sl w B (bcells bs)) (hl40 : l ≤ 1099511627776) (hld : l ≤ d) (hd63 : d ≤ 140737488355328) :
    Calls Tryd.prog 28 #[.slice B l d] w fun e w' => e = .returned (.string ⟨(sha bs).toArray⟩) ∧ Below w.heap.size w w' := by
  have HL : Hid (bs.length = l) := hl
  have hpos := hT.pos
  clear hl
  go_enter Tryd.func28, Tryd.ntmps28
  go_wp2_with fail
  refine (new_any _).mono ?_
  rintro e w1 ⟨rfl, hb1⟩
  go_wp2_with fail
  refine (add_ok iv none 0 0 0 [] B l d bs w1 (hT.below hb1 hpos) rfl Sl.nil HL.out (hb.below hb1) ⟨by omega, by omega, rfl⟩ (by omega) hld (by omega)).mono ?_
  rintro e w2 ⟨A', m', c', rfl, hA', hm', hb2⟩
  rw [List.nil_append] at hA' hm'
  rw [List.nil_append, Int.zero_add]
  have HM : Hid ((absorb iv bs).2.length = m') := hm'
  clear hm'
  go_wp2_with fail
  refine (end_ok (absorb iv bs).1 A' m' c' l (absorb iv bs).2 w2 ((hT.below hb1 hpos).below hb2 (hT.below hb1 hpos).pos) HM.out hA' (okN_abs bs l m' HL.out HM.out hl40)).mono ?_
  rintro e w3 ⟨rfl, hb3⟩
  go_wp2_with fail
  go_ret
  refine ⟨?_, (hb1.trans (hb2.mono hb1.size)).trans (hb3.mono (Nat.le_trans hb1.size hb2.size))⟩
  unfold sha
  rw [HL.out]
  rfl
end Go.Proofs.YtmebogaenbjmnaaDoor.ShaW
