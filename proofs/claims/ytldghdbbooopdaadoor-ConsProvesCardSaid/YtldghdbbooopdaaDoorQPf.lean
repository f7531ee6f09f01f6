/- ConsProves: a proof is as the reference says. -/
import Derived.Test.YtldghdbbooopdaaDoorJ3
import Derived.Test.YtldghdbbooopdaaDoorQMy
import Derived.Test.YtldghdbbooopdaaDoorQMsa
namespace Go.Proofs.YtldghdbbooopdaaDoor.CoW
open Go.RowKit TreeW ConsW TrW
open ShaW Sha
set_option maxRecDepth 1000000 in
set_option maxHeartbeats 4000000 in
theorem lawProves (A : Option Addr) (l c : Nat) (ss : List ByteArray) (m : Int) (w : World) (hT : Tab w) (hl : ss.length = l) (hs : Sl w A (scells ss)) (hlc : l ≤ c) (hc63 : c ≤ 9223372036854775807) :
    Calls Tryd.prog 3 #[.slice A l c, .int .i64 m] w fun e w' => e = .returned (.bool true) ∧ Below w.heap.size w w' := by
  have hpos := hT.pos
  have HT := Lib.hid (fun W (hb : Below w.heap.size w W) => hT.below hb hpos)
  have b0 : Below w.heap.size w w := Below.refl _ _
  have HL := Lib.hid hl
  by_cases hg : Grt ss
  · have HG := Lib.hid hg
    clear hl hg hT hpos
    go_enter Tryd.func3, Tryd.ntmps3
    go_wp2_with fail
    refine (great_yes A l c ss _ HL.out hs (by omega) HG.out).mono ?_
    rintro e w1 ⟨rfl, rfl⟩
    go_wp2_with fail
    refine (knows_any _ (HT.out _ b0)).mono ?_
    rintro e wk ⟨rfl, hbk⟩
    have bk := b0.trans (hbk.mono b0.size)
    go_wp2_with fail
    go_ret
    exact ⟨rfl, bk⟩
  have hl40 : l ≤ 1099511627776 := by have := (grt_no hg).1; omega
  have HG := Lib.hid hg
  clear hl hg hT hpos
  by_cases hd : Digs ss
  · have HD := Lib.hid hd
    clear hd
    by_cases h1 : m < 0
    · go_enter Tryd.func3, Tryd.ntmps3
      go_wp2_with fail
      refine (great_not A l c ss _ HL.out hs (by omega) HG.out).mono ?_
      rintro e w1 ⟨rfl, rfl⟩
      go_wp2_with fail
      refine (Prove_bad A l c ss m _ HL.out hs hlc hl40 (.inr (.inl h1))).mono ?_
      rintro e w2 ⟨rfl, hb2⟩
      have b2 := b0.trans (hb2.mono b0.size)
      go_wp2_with fail
      refine (right_yes A l c ss _ HL.out (hs.below b2) (by omega) HD.out).mono ?_
      rintro e w5 ⟨rfl, rfl⟩
      go_wp2_with fail
      refine (knows_any _ (HT.out _ b2)).mono ?_
      rintro e wk ⟨rfl, hbk⟩
      have bk := b2.trans (hbk.mono b2.size)
      go_wp2_with fail
      go_ret
      exact ⟨rfl, bk⟩
    by_cases h2 : m > (l : Int)
    · go_enter Tryd.func3, Tryd.ntmps3
      go_wp2_with fail
      refine (great_not A l c ss _ HL.out hs (by omega) HG.out).mono ?_
      rintro e w1 ⟨rfl, rfl⟩
      go_wp2_with fail
      refine (Prove_bad A l c ss m _ HL.out hs hlc hl40 (.inr (.inr h2))).mono ?_
      rintro e w2 ⟨rfl, hb2⟩
      have b2 := b0.trans (hb2.mono b0.size)
      go_wp2_with fail
      refine (right_yes A l c ss _ HL.out (hs.below b2) (by omega) HD.out).mono ?_
      rintro e w5 ⟨rfl, rfl⟩
      go_wp2_with fail
      refine (knows_any _ (HT.out _ b2)).mono ?_
      rintro e wk ⟨rfl, hbk⟩
      have bk := b2.trans (hbk.mono b2.size)
      go_wp2_with fail
      go_ret
      exact ⟨rfl, bk⟩
    obtain ⟨m, rfl⟩ : ∃ n : Nat, m = n := ⟨m.toNat, by omega⟩
    have hm : m ≤ l := by omega
    go_enter Tryd.func3, Tryd.ntmps3
    go_wp2_with fail
    refine (great_not A l c ss _ HL.out hs (by omega) HG.out).mono ?_
    rintro e w1 ⟨rfl, rfl⟩
    go_wp2_with fail
    refine (Prove_ok A l c ss m _ (HT.out _ b0) HL.out hs HD.out hm hlc hl40).mono ?_
    rintro e w2 ⟨v, rfl, hown, hb2⟩
    have b2 := b0.trans (hb2.mono b0.size)
    have hs2 := hs.below b2
    obtain ⟨q, hq⟩ : ∃ q, (pv ss m).length = q := ⟨_, rfl⟩
    have HQ := Lib.hid hq
    have hq40 : q ≤ l := by rw [← hq]; exact Nat.le_trans (pv_le ss m (by rw [HL.out]; exact hm)) (by rw [HL.out]; omega)
    obtain ⟨A2, c2, rfl, hsl, _, _, _⟩ := hown.slice
    rw [hq]
    clear hown hb2 hq
    go_wp2_with fail
    refine (right_yes A l c ss _ HL.out hs2 (by omega) HD.out).mono ?_
    rintro e w5 ⟨rfl, rfl⟩
    go_wp2_with fail
    refine (refProve_any A l c ss m _ HL.out hs2 HD.out hm hlc hl40).mono ?_
    rintro e w3 ⟨v3, rfl, hown3, hb3⟩
    have b3 := b2.trans (hb3.mono b2.size)
    have hsl3 := hsl.below hb3
    obtain ⟨A3, c3, rfl, hsr, _, _, _⟩ := hown3.slice
    rw [HQ.out]
    clear hown3 hb3 hsl
    go_wp2_with fail
    refine (same_any A2 A3 q c2 c3 (pv ss m) _ HQ.out hsl3 hsr (by omega)).mono ?_
    rintro e w4 ⟨rfl, hb4⟩
    have b4 := b3.trans (hb4.mono b3.size)
    go_wp2_with fail
    refine (knows_any _ (HT.out _ b4)).mono ?_
    rintro e wk ⟨rfl, hbk⟩
    have bk := b4.trans (hbk.mono b4.size)
    go_wp2_with fail
    go_ret
    exact ⟨rfl, bk⟩
  · have HD := Lib.hid hd
    go_enter Tryd.func3, Tryd.ntmps3
    go_wp2_with fail
    refine (great_not A l c ss _ HL.out hs (by omega) HG.out).mono ?_
    rintro e w1 ⟨rfl, rfl⟩
    go_wp2_with fail
    refine (Prove_bad A l c ss m _ HL.out hs hlc hl40 (.inl HD.out)).mono ?_
    rintro e w2 ⟨rfl, hb2⟩
    have b2 := b0.trans (hb2.mono b0.size)
    go_wp2_with fail
    refine (right_no A l c ss _ HL.out (hs.below b2) (by omega) HD.out).mono ?_
    rintro e w5 ⟨rfl, rfl⟩
    go_wp2_with fail
    refine (knows_any _ (HT.out _ b2)).mono ?_
    rintro e wk ⟨rfl, hbk⟩
    have bk := b2.trans (hbk.mono b2.size)
    go_wp2_with fail
    go_ret
    exact ⟨rfl, bk⟩
end Go.Proofs.YtldghdbbooopdaaDoor.CoW
