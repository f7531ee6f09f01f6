/- TreePaths: the path of a place is as the reference says; TreeClimbs: so is what a path leads to. -/
import Derived.Test.YtmebogaenbjmnaaDoorMj
namespace Go.Proofs.YtmebogaenbjmnaaDoor.TrW
open Go.RowKit TreeW
open ShaW Sha
set_option maxRecDepth 1000000 in
set_option maxHeartbeats 4000000 in
theorem lawPaths (A : Option Addr) (l c : Nat) (ss : List ByteArray) (i : Int) (w : World) (hT : Tab w) (hl : ss.length = l) (hs : Sl w A (scells ss)) (hlc : l ≤ c) (hc63 : c ≤ 9223372036854775807) :
    Calls Tryd.prog 4 #[.slice A l c, .int .i64 i] w fun e w' => e = .returned (.bool true) ∧ Below w.heap.size w w' := by
  have hpos := hT.pos
  have HT := Lib.hid (fun W (hb : Below w.heap.size w W) => hT.below hb hpos)
  have b0 : Below w.heap.size w w := Below.refl _ _
  have HL := Lib.hid hl
  by_cases hg : Grt ss
  · have HG := Lib.hid hg
    clear hl hg hT hpos
    go_enter Tryd.func4, Tryd.ntmps4
    go_wp2_with fail
    refine (great_yes A l c ss _ HL.out hs (by omega) HG.out).mono ?_
    rintro e w1 ⟨rfl, rfl⟩
    go_wp2_with fail
    refine (knows_any _ (HT.out _ b0)).mono ?_
    rintro e wk ⟨rfl, hbk⟩
    have bk := b0.trans (hbk.mono b0.size)
    go_wp2_with fail
    go_ret
    exact ⟨rfl, bk⟩
  have hl40 : l ≤ 1099511627776 := by have := (grt_no hg).1; omega
  have HG := Lib.hid hg
  clear hl hg hT hpos
  by_cases hd : Digs ss
  · have HD := Lib.hid hd
    clear hd
    by_cases h1 : i < 0
    · go_enter Tryd.func4, Tryd.ntmps4
      go_wp2_with fail
      refine (great_not A l c ss _ HL.out hs (by omega) HG.out).mono ?_
      rintro e w1 ⟨rfl, rfl⟩
      go_wp2_with fail
      refine (path_bad A l c ss i _ HL.out hs hl40 (.inl h1)).mono ?_
      rintro e w2 ⟨rfl, rfl⟩
      go_wp2_with fail
      refine (right_yes A l c ss _ HL.out hs (by omega) HD.out).mono ?_
      rintro e w5 ⟨rfl, rfl⟩
      go_wp2_with fail
      refine (knows_any _ (HT.out _ b0)).mono ?_
      rintro e wk ⟨rfl, hbk⟩
      have bk := b0.trans (hbk.mono b0.size)
      go_wp2_with fail
      go_ret
      exact ⟨rfl, bk⟩
    by_cases h2 : i ≥ (l : Int)
    · go_enter Tryd.func4, Tryd.ntmps4
      go_wp2_with fail
      refine (great_not A l c ss _ HL.out hs (by omega) HG.out).mono ?_
      rintro e w1 ⟨rfl, rfl⟩
      go_wp2_with fail
      refine (path_bad A l c ss i _ HL.out hs hl40 (.inr (.inl h2))).mono ?_
      rintro e w2 ⟨rfl, rfl⟩
      go_wp2_with fail
      refine (right_yes A l c ss _ HL.out hs (by omega) HD.out).mono ?_
      rintro e w5 ⟨rfl, rfl⟩
      go_wp2_with fail
      refine (knows_any _ (HT.out _ b0)).mono ?_
      rintro e wk ⟨rfl, hbk⟩
      have bk := b0.trans (hbk.mono b0.size)
      go_wp2_with fail
      go_ret
      exact ⟨rfl, bk⟩
    obtain ⟨i, rfl⟩ : ∃ n : Nat, i = n := ⟨i.toNat, by omega⟩
    have hi : i < l := by omega
    go_enter Tryd.func4, Tryd.ntmps4
    go_wp2_with fail
    refine (great_not A l c ss _ HL.out hs (by omega) HG.out).mono ?_
    rintro e w1 ⟨rfl, rfl⟩
    go_wp2_with fail
    refine (path_ok A l c ss i _ (HT.out _ b0) HL.out hs HD.out hi hlc hl40).mono ?_
    rintro e w2 ⟨v, rfl, hown, hb2⟩
    have b2 := b0.trans (hb2.mono b0.size)
    have hs2 := hs.below b2
    obtain ⟨q, hq⟩ : ∃ q, (path nd ed ss i).length = q := ⟨_, rfl⟩
    have HQ := Lib.hid hq
    have hq40 : q ≤ l := by rw [← hq]; exact Nat.le_trans (path_le ss i) (by rw [HL.out]; omega)
    obtain ⟨A2, c2, rfl, hsl, _, _, _⟩ := hown.slice
    rw [hq]
    clear hown hb2 hq
    go_wp2_with fail
    refine (right_yes A l c ss _ HL.out hs2 (by omega) HD.out).mono ?_
    rintro e w5 ⟨rfl, rfl⟩
    go_wp2_with fail
    refine (refPath_any l A l c ss i (Nat.le_refl _) _ HL.out hs2 HD.out hi hlc hl40).mono ?_
    rintro e w3 ⟨v3, rfl, hown3, hb3⟩
    have b3 := b2.trans (hb3.mono b2.size)
    have hsl3 := hsl.below hb3
    obtain ⟨A3, c3, rfl, hsr, _, _, _⟩ := hown3.slice
    rw [HQ.out]
    clear hown3 hb3 hsl
    go_wp2_with fail
    refine (same_any A2 A3 q c2 c3 (path nd ed ss i) _ HQ.out hsl3 hsr (by omega)).mono ?_
    rintro e w4 ⟨rfl, hb4⟩
    have b4 := b3.trans (hb4.mono b3.size)
    go_wp2_with fail
    refine (knows_any _ (HT.out _ b4)).mono ?_
    rintro e wk ⟨rfl, hbk⟩
    have bk := b4.trans (hbk.mono b4.size)
    go_wp2_with fail
    go_ret
    exact ⟨rfl, bk⟩
  · have HD := Lib.hid hd
    go_enter Tryd.func4, Tryd.ntmps4
    go_wp2_with fail
    refine (great_not A l c ss _ HL.out hs (by omega) HG.out).mono ?_
    rintro e w1 ⟨rfl, rfl⟩
    go_wp2_with fail
    refine (path_bad A l c ss i _ HL.out hs hl40 (.inr (.inr hd))).mono ?_
    rintro e w2 ⟨rfl, rfl⟩
    go_wp2_with fail
    refine (right_no A l c ss _ HL.out hs (by omega) HD.out).mono ?_
    rintro e w5 ⟨rfl, rfl⟩
    go_wp2_with fail
    refine (knows_any _ (HT.out _ b0)).mono ?_
    rintro e wk ⟨rfl, hbk⟩
    have bk := b0.trans (hbk.mono b0.size)
    go_wp2_with fail
    go_ret
    exact ⟨rfl, bk⟩
set_option maxRecDepth 1000000 in
set_option maxHeartbeats 4000000 in
theorem lawClimbs (leaf : ByteArray) (i n : Int) (A : Option Addr) (l c : Nat) (ss : List ByteArray) (w : World) (hT : Tab w) (hl : ss.length = l) (hs : Sl w A (scells ss)) (hlc : l ≤ c) (hc63 : c ≤ 9223372036854775807) :
    Calls Tryd.prog 5 #[.string leaf, .int .i64 i, .int .i64 n, .slice A l c] w fun e w' => e = .returned (.bool true) ∧ Below w.heap.size w w' := by
  have hpos := hT.pos
  have HT := Lib.hid (fun W (hb : Below w.heap.size w W) => hT.below hb hpos)
  have b0 : Below w.heap.size w w := Below.refl _ _
  have HL := Lib.hid hl
  by_cases hg : Grt ss
  · have HG := Lib.hid hg
    clear hl hg hT hpos
    go_enter Tryd.func5, Tryd.ntmps5
    go_wp2_with fail
    refine (great_yes A l c ss _ HL.out hs (by omega) HG.out).mono ?_
    rintro e w1 ⟨rfl, rfl⟩
    go_wp2_with fail
    refine (knows_any _ (HT.out _ b0)).mono ?_
    rintro e wk ⟨rfl, hbk⟩
    have bk := b0.trans (hbk.mono b0.size)
    go_wp2_with fail
    go_ret
    exact ⟨rfl, bk⟩
  have hl40 : l ≤ 1099511627776 := by have := (grt_no hg).1; omega
  have HG := Lib.hid hg
  clear hl hg hT hpos
  by_cases hbig : 1000 < leaf.size
  · have k1 : (leaf.size : Int) > 1000 := by omega
    clear hbig
    go_enter Tryd.func5, Tryd.ntmps5
    go_wp2_with fail
    refine (great_not A l c ss _ HL.out hs (by omega) HG.out).mono ?_
    rintro e w1 ⟨rfl, rfl⟩
    go_wp2_with fail
    refine (knows_any _ (HT.out _ b0)).mono ?_
    rintro e wk ⟨rfl, hbk⟩
    have bk := b0.trans (hbk.mono b0.size)
    go_wp2_with fail
    go_ret
    exact ⟨rfl, bk⟩
  have k1 : ¬ (leaf.size : Int) > 1000 := by omega
  by_cases h1 : ¬ leaf.size = 32
  · have H1 := Lib.hid h1
    have e1 : ¬ (leaf.size : Int) = 32 := by omega
    clear h1
    go_enter Tryd.func5, Tryd.ntmps5
    go_wp2_with fail
    refine (great_not A l c ss _ HL.out hs (by omega) HG.out).mono ?_
    rintro e w1 ⟨rfl, rfl⟩
    go_wp2_with fail
    refine (climb_arg leaf i n A l c _ (.inl H1.out)).mono ?_
    rintro e w2 ⟨rfl, rfl⟩
    go_wp2_with fail
    refine (knows_any _ (HT.out _ b0)).mono ?_
    rintro e wk ⟨rfl, hbk⟩
    have bk := b0.trans (hbk.mono b0.size)
    go_wp2_with fail
    go_ret
    exact ⟨rfl, bk⟩
  have h32 : leaf.size = 32 := by omega
  have H32 := Lib.hid h32
  have e1 : (leaf.size : Int) = 32 := by omega
  clear h1 h32
  by_cases h2 : n < 1
  · go_enter Tryd.func5, Tryd.ntmps5
    go_wp2_with fail
    refine (great_not A l c ss _ HL.out hs (by omega) HG.out).mono ?_
    rintro e w1 ⟨rfl, rfl⟩
    go_wp2_with fail
    refine (climb_arg leaf i n A l c _ (.inr (.inl h2))).mono ?_
    rintro e w2 ⟨rfl, rfl⟩
    go_wp2_with fail
    refine (knows_any _ (HT.out _ b0)).mono ?_
    rintro e wk ⟨rfl, hbk⟩
    have bk := b0.trans (hbk.mono b0.size)
    go_wp2_with fail
    go_ret
    exact ⟨rfl, bk⟩
  by_cases h3 : n > 1099511627776
  · go_enter Tryd.func5, Tryd.ntmps5
    go_wp2_with fail
    refine (great_not A l c ss _ HL.out hs (by omega) HG.out).mono ?_
    rintro e w1 ⟨rfl, rfl⟩
    go_wp2_with fail
    refine (climb_arg leaf i n A l c _ (.inr (.inr (.inl h3)))).mono ?_
    rintro e w2 ⟨rfl, rfl⟩
    go_wp2_with fail
    refine (knows_any _ (HT.out _ b0)).mono ?_
    rintro e wk ⟨rfl, hbk⟩
    have bk := b0.trans (hbk.mono b0.size)
    go_wp2_with fail
    go_ret
    exact ⟨rfl, bk⟩
  by_cases h4 : i < 0
  · go_enter Tryd.func5, Tryd.ntmps5
    go_wp2_with fail
    refine (great_not A l c ss _ HL.out hs (by omega) HG.out).mono ?_
    rintro e w1 ⟨rfl, rfl⟩
    go_wp2_with fail
    refine (climb_arg leaf i n A l c _ (.inr (.inr (.inr (.inl h4))))).mono ?_
    rintro e w2 ⟨rfl, rfl⟩
    go_wp2_with fail
    refine (knows_any _ (HT.out _ b0)).mono ?_
    rintro e wk ⟨rfl, hbk⟩
    have bk := b0.trans (hbk.mono b0.size)
    go_wp2_with fail
    go_ret
    exact ⟨rfl, bk⟩
  by_cases h5 : i ≥ n
  · go_enter Tryd.func5, Tryd.ntmps5
    go_wp2_with fail
    refine (great_not A l c ss _ HL.out hs (by omega) HG.out).mono ?_
    rintro e w1 ⟨rfl, rfl⟩
    go_wp2_with fail
    refine (climb_arg leaf i n A l c _ (.inr (.inr (.inr (.inr h5))))).mono ?_
    rintro e w2 ⟨rfl, rfl⟩
    go_wp2_with fail
    refine (knows_any _ (HT.out _ b0)).mono ?_
    rintro e wk ⟨rfl, hbk⟩
    have bk := b0.trans (hbk.mono b0.size)
    go_wp2_with fail
    go_ret
    exact ⟨rfl, bk⟩
  obtain ⟨i, rfl⟩ : ∃ n : Nat, i = n := ⟨i.toNat, by omega⟩
  obtain ⟨n, rfl⟩ : ∃ m : Nat, n = m := ⟨n.toNat, by omega⟩
  have hi : i < n := by omega
  have hn40 : n ≤ 1099511627776 := by omega
  have hstl := steps_le n i
  by_cases hst : l = steps i n
  · have HS := Lib.hid hst
    clear hstl hst
    by_cases hd : Digs ss
    · have HD := Lib.hid hd
      clear hd
      go_enter Tryd.func5, Tryd.ntmps5
      go_wp2_with fail
      refine (great_not A l c ss _ HL.out hs (by omega) HG.out).mono ?_
      rintro e w1 ⟨rfl, rfl⟩
      go_wp2_with fail
      refine (climb_ok leaf i n A l c ss _ (HT.out _ b0) H32.out hi hn40 HL.out hs (by omega) HS.out HD.out).mono ?_
      rintro e w2 ⟨rfl, hb2⟩
      have b2 := b0.trans (hb2.mono b0.size)
      go_wp2_with fail
      refine (steps_any n i n (Nat.le_refl _) _ hn40 (by omega)).mono ?_
      rintro e w3 ⟨rfl, rfl⟩
      rw [← HS.out]
      go_wp2_with fail
      refine (right_yes A l c ss _ HL.out (hs.below b2) (by omega) HD.out).mono ?_
      rintro e w5 ⟨rfl, rfl⟩
      go_wp2_with fail
      refine (refClimb_any n leaf i n A l c ss (Nat.le_refl _) _ H32.out HL.out (hs.below b2) HD.out hlc hn40 (by omega) HS.out).mono ?_
      rintro e w4 ⟨rfl, hb4⟩
      have b4 := b2.trans (hb4.mono b2.size)
      go_wp2_with fail
      refine (knows_any _ (HT.out _ b4)).mono ?_
      rintro e wk ⟨rfl, hbk⟩
      have bk := b4.trans (hbk.mono b4.size)
      go_wp2_with fail
      go_ret
      exact ⟨rfl, bk⟩
    · have HD := Lib.hid hd
      clear hd
      go_enter Tryd.func5, Tryd.ntmps5
      go_wp2_with fail
      refine (great_not A l c ss _ HL.out hs (by omega) HG.out).mono ?_
      rintro e w1 ⟨rfl, rfl⟩
      go_wp2_with fail
      refine (climb_proof leaf i n A l c ss _ H32.out hi hn40 HL.out hs (by omega) (.inr HD.out)).mono ?_
      rintro e w2 ⟨rfl, hb2⟩
      have b2 := b0.trans (hb2.mono b0.size)
      go_wp2_with fail
      refine (steps_any n i n (Nat.le_refl _) _ hn40 (by omega)).mono ?_
      rintro e w3 ⟨rfl, rfl⟩
      rw [← HS.out]
      go_wp2_with fail
      refine (right_no A l c ss _ HL.out (hs.below b2) (by omega) HD.out).mono ?_
      rintro e w5 ⟨rfl, rfl⟩
      go_wp2_with fail
      refine (knows_any _ (HT.out _ b2)).mono ?_
      rintro e wk ⟨rfl, hbk⟩
      have bk := b2.trans (hbk.mono b2.size)
      go_wp2_with fail
      go_ret
      exact ⟨rfl, bk⟩
  · have HS := Lib.hid hst
    obtain ⟨q, hq⟩ : ∃ q, q = steps i n := ⟨_, rfl⟩
    have HQ := Lib.hid hq
    rw [← hq] at hst hstl
    have k9 : ¬ (l : Int) = (q : Int) := by omega
    clear hst hq
    go_enter Tryd.func5, Tryd.ntmps5
    go_wp2_with fail
    refine (great_not A l c ss _ HL.out hs (by omega) HG.out).mono ?_
    rintro e w1 ⟨rfl, rfl⟩
    go_wp2_with fail
    refine (climb_proof leaf i n A l c ss _ H32.out hi hn40 HL.out hs (by omega) (.inl HS.out)).mono ?_
    rintro e w2 ⟨rfl, hb2⟩
    have b2 := b0.trans (hb2.mono b0.size)
    go_wp2_with fail
    refine (steps_any n i n (Nat.le_refl _) _ hn40 (by omega)).mono ?_
    rintro e w3 ⟨rfl, rfl⟩
    rw [← HQ.out]
    go_wp2_with fail
    refine (knows_any _ (HT.out _ b2)).mono ?_
    rintro e wk ⟨rfl, hbk⟩
    have bk := b2.trans (hbk.mono b2.size)
    go_wp2_with fail
    go_ret
    exact ⟨rfl, bk⟩
end Go.Proofs.YtmebogaenbjmnaaDoor.TrW
