/- TreeRoots: the root of a list, and of a part of it, is as the reference says. -/
import Derived.Test.YtmebogaenbjmnaaDoorMj
namespace Go.Proofs.YtmebogaenbjmnaaDoor.TrW
open Go.RowKit TreeW
open ShaW Sha
/-- Where a number is split, or 0. -/
def sv (n : Int) : Int := if n < 2 ∨ 1099511627776 < n then 0 else ((split n.toNat : Nat) : Int)
theorem split_sv (n : Int) (w : World) : Calls Tryd.prog 14 #[.int .i64 n] w fun e w' => e = .returned (.int .i64 (sv n)) ∧ w = w' := by
  unfold sv
  by_cases h : n < 2 ∨ 1099511627776 < n
  · rw [if_pos h]; exact split_out n w h
  · rw [if_neg h]
    have := split_in n.toNat w (by omega) (by omega)
    rwa [show ((n.toNat : Nat) : Int) = n by omega] at this
theorem refSplit_sv (n : Int) (w : World) : Calls Tryd.prog 15 #[.int .i64 n] w fun e w' => e = .returned (.int .i64 (sv n)) ∧ w = w' := by
  unfold sv
  by_cases h : n < 2 ∨ 1099511627776 < n
  · rw [if_pos h]; exact refSplit_out n w h
  · rw [if_neg h]
    have := refSplit_in n.toNat w (by omega) (by omega)
    rwa [show ((n.toNat : Nat) : Int) = n by omega] at this
set_option maxRecDepth 1000000 in
set_option maxHeartbeats 4000000 in
theorem lawRoots (A : Option Addr) (l c : Nat) (ss : List ByteArray) (f t n : Int) (w : World) (hT : Tab w) (hl : ss.length = l) (hs : Sl w A (scells ss)) (hlc : l ≤ c) (hc63 : c ≤ 9223372036854775807) :
    Calls Tryd.prog 3 #[.slice A l c, .int .i64 f, .int .i64 t, .int .i64 n] w fun e w' => e = .returned (.bool true) ∧ Below w.heap.size w w' := by
  have hpos := hT.pos
  have HT := Lib.hid (fun W (hb : Below w.heap.size w W) => hT.below hb hpos)
  have b0 : Below w.heap.size w w := Below.refl _ _
  have HL := Lib.hid hl
  by_cases hg : Grt ss
  · have HG := Lib.hid hg
    clear hl hg hT hpos
    go_enter Tryd.func3, Tryd.ntmps3
    go_wp2_with fail
    refine (great_yes A l c ss _ HL.out hs (by omega) HG.out).mono ?_
    rintro e w1 ⟨rfl, rfl⟩
    go_wp2_with fail
    refine (knows_any _ (HT.out _ b0)).mono ?_
    rintro e wk ⟨rfl, hbk⟩
    have bk := b0.trans (hbk.mono b0.size)
    go_wp2_with fail
    go_ret
    exact ⟨rfl, bk⟩
  have hl40 : l ≤ 1099511627776 := by have := (grt_no hg).1; omega
  have HG := Lib.hid hg
  obtain ⟨z, hz⟩ : ∃ z, sv n = z := ⟨_, rfl⟩
  have HZ := Lib.hid hz
  clear hl hg hT hpos hz
  by_cases h1 : f < 0
  · by_cases hd : Digs ss
    · have HD := Lib.hid hd
      clear hd
      go_enter Tryd.func3, Tryd.ntmps3
      go_wp2_with fail
      refine (great_not A l c ss _ HL.out hs (by omega) HG.out).mono ?_
      rintro e w1 ⟨rfl, rfl⟩
      go_wp2_with fail
      refine (Root_ok A l c ss _ (HT.out _ b0) HL.out hs hlc hl40 HD.out).mono ?_
      rintro e w2 ⟨rfl, hb2⟩
      have b2 := b0.trans (hb2.mono b0.size)
      go_wp2_with fail
      refine (range_bad A l c ss f t _ HL.out (hs.below b2) hlc hl40 (.inl h1)).mono ?_
      rintro e w3 ⟨rfl, rfl⟩
      have b3 := b2
      go_wp2_with fail
      refine (split_sv n _).mono ?_
      rintro e w4 ⟨rfl, rfl⟩
      rw [HZ.out]
      go_wp2_with fail
      refine (refSplit_sv n _).mono ?_
      rintro e w4 ⟨rfl, rfl⟩
      rw [HZ.out]
      go_wp2_with fail
      refine (right_yes A l c ss _ HL.out (hs.below b3) (by omega) HD.out).mono ?_
      rintro e w5 ⟨rfl, rfl⟩
      go_wp2_with fail
      refine (refRoot_any l A l c ss (Nat.le_refl _) _ HL.out (hs.below b3) HD.out hlc hl40).mono ?_
      rintro e w6 ⟨rfl, hb6⟩
      have b6 := b3.trans (hb6.mono b3.size)
      go_wp2_with fail
      refine (knows_any _ (HT.out _ b6)).mono ?_
      rintro e wk ⟨rfl, hbk⟩
      have bk := b6.trans (hbk.mono b6.size)
      go_wp2_with fail
      go_ret
      exact ⟨rfl, bk⟩
    · have HD := Lib.hid hd
      clear hd
      go_enter Tryd.func3, Tryd.ntmps3
      go_wp2_with fail
      refine (great_not A l c ss _ HL.out hs (by omega) HG.out).mono ?_
      rintro e w1 ⟨rfl, rfl⟩
      go_wp2_with fail
      refine (Root_bad A l c ss _ HL.out hs hlc hl40 HD.out).mono ?_
      rintro e w2 ⟨rfl, rfl⟩
      have b2 := b0
      go_wp2_with fail
      refine (range_bad A l c ss f t _ HL.out (hs.below b2) hlc hl40 (.inl h1)).mono ?_
      rintro e w3 ⟨rfl, rfl⟩
      have b3 := b2
      go_wp2_with fail
      refine (split_sv n _).mono ?_
      rintro e w4 ⟨rfl, rfl⟩
      rw [HZ.out]
      go_wp2_with fail
      refine (refSplit_sv n _).mono ?_
      rintro e w4 ⟨rfl, rfl⟩
      rw [HZ.out]
      go_wp2_with fail
      refine (right_no A l c ss _ HL.out (hs.below b3) (by omega) HD.out).mono ?_
      rintro e w5 ⟨rfl, rfl⟩
      go_wp2_with fail
      refine (knows_any _ (HT.out _ b3)).mono ?_
      rintro e wk ⟨rfl, hbk⟩
      have bk := b3.trans (hbk.mono b3.size)
      go_wp2_with fail
      go_ret
      exact ⟨rfl, bk⟩
  by_cases h2 : t < f
  · have h2' : f > t := h2
    by_cases hd : Digs ss
    · have HD := Lib.hid hd
      clear hd
      go_enter Tryd.func3, Tryd.ntmps3
      go_wp2_with fail
      refine (great_not A l c ss _ HL.out hs (by omega) HG.out).mono ?_
      rintro e w1 ⟨rfl, rfl⟩
      go_wp2_with fail
      refine (Root_ok A l c ss _ (HT.out _ b0) HL.out hs hlc hl40 HD.out).mono ?_
      rintro e w2 ⟨rfl, hb2⟩
      have b2 := b0.trans (hb2.mono b0.size)
      go_wp2_with fail
      refine (range_bad A l c ss f t _ HL.out (hs.below b2) hlc hl40 (.inr (.inl h2))).mono ?_
      rintro e w3 ⟨rfl, rfl⟩
      have b3 := b2
      go_wp2_with fail
      refine (split_sv n _).mono ?_
      rintro e w4 ⟨rfl, rfl⟩
      rw [HZ.out]
      go_wp2_with fail
      refine (refSplit_sv n _).mono ?_
      rintro e w4 ⟨rfl, rfl⟩
      rw [HZ.out]
      go_wp2_with fail
      refine (right_yes A l c ss _ HL.out (hs.below b3) (by omega) HD.out).mono ?_
      rintro e w5 ⟨rfl, rfl⟩
      go_wp2_with fail
      refine (refRoot_any l A l c ss (Nat.le_refl _) _ HL.out (hs.below b3) HD.out hlc hl40).mono ?_
      rintro e w6 ⟨rfl, hb6⟩
      have b6 := b3.trans (hb6.mono b3.size)
      go_wp2_with fail
      refine (knows_any _ (HT.out _ b6)).mono ?_
      rintro e wk ⟨rfl, hbk⟩
      have bk := b6.trans (hbk.mono b6.size)
      go_wp2_with fail
      go_ret
      exact ⟨rfl, bk⟩
    · have HD := Lib.hid hd
      clear hd
      go_enter Tryd.func3, Tryd.ntmps3
      go_wp2_with fail
      refine (great_not A l c ss _ HL.out hs (by omega) HG.out).mono ?_
      rintro e w1 ⟨rfl, rfl⟩
      go_wp2_with fail
      refine (Root_bad A l c ss _ HL.out hs hlc hl40 HD.out).mono ?_
      rintro e w2 ⟨rfl, rfl⟩
      have b2 := b0
      go_wp2_with fail
      refine (range_bad A l c ss f t _ HL.out (hs.below b2) hlc hl40 (.inr (.inl h2))).mono ?_
      rintro e w3 ⟨rfl, rfl⟩
      have b3 := b2
      go_wp2_with fail
      refine (split_sv n _).mono ?_
      rintro e w4 ⟨rfl, rfl⟩
      rw [HZ.out]
      go_wp2_with fail
      refine (refSplit_sv n _).mono ?_
      rintro e w4 ⟨rfl, rfl⟩
      rw [HZ.out]
      go_wp2_with fail
      refine (right_no A l c ss _ HL.out (hs.below b3) (by omega) HD.out).mono ?_
      rintro e w5 ⟨rfl, rfl⟩
      go_wp2_with fail
      refine (knows_any _ (HT.out _ b3)).mono ?_
      rintro e wk ⟨rfl, hbk⟩
      have bk := b3.trans (hbk.mono b3.size)
      go_wp2_with fail
      go_ret
      exact ⟨rfl, bk⟩
  by_cases h3 : (l : Int) < t
  · have h3' : t > (l : Int) := h3
    by_cases hd : Digs ss
    · have HD := Lib.hid hd
      clear hd
      go_enter Tryd.func3, Tryd.ntmps3
      go_wp2_with fail
      refine (great_not A l c ss _ HL.out hs (by omega) HG.out).mono ?_
      rintro e w1 ⟨rfl, rfl⟩
      go_wp2_with fail
      refine (Root_ok A l c ss _ (HT.out _ b0) HL.out hs hlc hl40 HD.out).mono ?_
      rintro e w2 ⟨rfl, hb2⟩
      have b2 := b0.trans (hb2.mono b0.size)
      go_wp2_with fail
      refine (range_bad A l c ss f t _ HL.out (hs.below b2) hlc hl40 (.inr (.inr (.inl h3)))).mono ?_
      rintro e w3 ⟨rfl, rfl⟩
      have b3 := b2
      go_wp2_with fail
      refine (split_sv n _).mono ?_
      rintro e w4 ⟨rfl, rfl⟩
      rw [HZ.out]
      go_wp2_with fail
      refine (refSplit_sv n _).mono ?_
      rintro e w4 ⟨rfl, rfl⟩
      rw [HZ.out]
      go_wp2_with fail
      refine (right_yes A l c ss _ HL.out (hs.below b3) (by omega) HD.out).mono ?_
      rintro e w5 ⟨rfl, rfl⟩
      go_wp2_with fail
      refine (refRoot_any l A l c ss (Nat.le_refl _) _ HL.out (hs.below b3) HD.out hlc hl40).mono ?_
      rintro e w6 ⟨rfl, hb6⟩
      have b6 := b3.trans (hb6.mono b3.size)
      go_wp2_with fail
      refine (knows_any _ (HT.out _ b6)).mono ?_
      rintro e wk ⟨rfl, hbk⟩
      have bk := b6.trans (hbk.mono b6.size)
      go_wp2_with fail
      go_ret
      exact ⟨rfl, bk⟩
    · have HD := Lib.hid hd
      clear hd
      go_enter Tryd.func3, Tryd.ntmps3
      go_wp2_with fail
      refine (great_not A l c ss _ HL.out hs (by omega) HG.out).mono ?_
      rintro e w1 ⟨rfl, rfl⟩
      go_wp2_with fail
      refine (Root_bad A l c ss _ HL.out hs hlc hl40 HD.out).mono ?_
      rintro e w2 ⟨rfl, rfl⟩
      have b2 := b0
      go_wp2_with fail
      refine (range_bad A l c ss f t _ HL.out (hs.below b2) hlc hl40 (.inr (.inr (.inl h3)))).mono ?_
      rintro e w3 ⟨rfl, rfl⟩
      have b3 := b2
      go_wp2_with fail
      refine (split_sv n _).mono ?_
      rintro e w4 ⟨rfl, rfl⟩
      rw [HZ.out]
      go_wp2_with fail
      refine (refSplit_sv n _).mono ?_
      rintro e w4 ⟨rfl, rfl⟩
      rw [HZ.out]
      go_wp2_with fail
      refine (right_no A l c ss _ HL.out (hs.below b3) (by omega) HD.out).mono ?_
      rintro e w5 ⟨rfl, rfl⟩
      go_wp2_with fail
      refine (knows_any _ (HT.out _ b3)).mono ?_
      rintro e wk ⟨rfl, hbk⟩
      have bk := b3.trans (hbk.mono b3.size)
      go_wp2_with fail
      go_ret
      exact ⟨rfl, bk⟩
  obtain ⟨f, rfl⟩ : ∃ n : Nat, f = n := ⟨f.toNat, by omega⟩
  obtain ⟨t, rfl⟩ : ∃ n : Nat, t = n := ⟨t.toNat, by omega⟩
  have hft : f ≤ t := by omega
  have htl : t ≤ l := by omega
  have hp := part_sl (c := c) hs f t (by rw [HL.out]; omega) (by rw [HL.out]; omega)
  have hlen : ((ss.take t).drop f).length = t - f := by rw [List.length_drop, List.length_take, HL.out]; omega
  have hpt := fun w' => run_part (P := Tryd.prog) strsTy w' A l c f t .i64 .i64 hft (by omega)
  obtain ⟨A2, hA2⟩ : ∃ A2, A2 = (if c = f then A else A.map (·.add f)) := ⟨_, rfl⟩
  rw [← hA2] at hp
  simp only [← hA2] at hpt
  obtain ⟨q, hq⟩ : ∃ q, q = t - f := ⟨_, rfl⟩
  obtain ⟨c2, hc2⟩ : ∃ c2, c2 = c - f := ⟨_, rfl⟩
  simp only [← hq, ← hc2] at hpt
  have HQ : Hid (((ss.take t).drop f).length = q) := by show _ = _; rw [hlen, hq]
  have hql : q ≤ l := by omega
  have hqc : q ≤ c2 := by omega
  clear hlen hA2 hq hc2
  by_cases hpd : Digs ((ss.take t).drop f)
  · have HP := Lib.hid hpd
    clear hpd
    by_cases hd : Digs ss
    · have HD := Lib.hid hd
      clear hd
      go_enter Tryd.func3, Tryd.ntmps3
      go_wp2_with fail
      refine (great_not A l c ss _ HL.out hs (by omega) HG.out).mono ?_
      rintro e w1 ⟨rfl, rfl⟩
      go_wp2_with fail
      refine (Root_ok A l c ss _ (HT.out _ b0) HL.out hs hlc hl40 HD.out).mono ?_
      rintro e w2 ⟨rfl, hb2⟩
      have b2 := b0.trans (hb2.mono b0.size)
      go_wp2_with fail
      refine (range_ok A l c ss f t _ (HT.out _ b2) HL.out (hs.below b2) hlc hl40 hft htl HP.out).mono ?_
      rintro e w3 ⟨rfl, hb3⟩
      have b3 := b2.trans (hb3.mono b2.size)
      go_wp2_with fail
      refine (split_sv n _).mono ?_
      rintro e w4 ⟨rfl, rfl⟩
      rw [HZ.out]
      go_wp2_with fail
      refine (refSplit_sv n _).mono ?_
      rintro e w4 ⟨rfl, rfl⟩
      rw [HZ.out]
      go_wp2_with fail
      refine (right_yes A2 q c2 _ _ HQ.out (hp.below b3) (by omega) HP.out).mono ?_
      rintro e w5 ⟨rfl, rfl⟩
      go_wp2_with fail
      refine (refRoot_any q A2 q c2 _ (Nat.le_refl _) _ HQ.out (hp.below b3) HP.out hqc (by omega)).mono ?_
      rintro e w6 ⟨rfl, hb6⟩
      have b6 := b3.trans (hb6.mono b3.size)
      clear hb3 hb6 b3
      have b3 := b6
      clear b6
      go_wp2_with fail
      refine (right_yes A l c ss _ HL.out (hs.below b3) (by omega) HD.out).mono ?_
      rintro e w5 ⟨rfl, rfl⟩
      go_wp2_with fail
      refine (refRoot_any l A l c ss (Nat.le_refl _) _ HL.out (hs.below b3) HD.out hlc hl40).mono ?_
      rintro e w6 ⟨rfl, hb6⟩
      have b6 := b3.trans (hb6.mono b3.size)
      go_wp2_with fail
      refine (knows_any _ (HT.out _ b6)).mono ?_
      rintro e wk ⟨rfl, hbk⟩
      have bk := b6.trans (hbk.mono b6.size)
      go_wp2_with fail
      go_ret
      exact ⟨rfl, bk⟩
    · have HD := Lib.hid hd
      clear hd
      go_enter Tryd.func3, Tryd.ntmps3
      go_wp2_with fail
      refine (great_not A l c ss _ HL.out hs (by omega) HG.out).mono ?_
      rintro e w1 ⟨rfl, rfl⟩
      go_wp2_with fail
      refine (Root_bad A l c ss _ HL.out hs hlc hl40 HD.out).mono ?_
      rintro e w2 ⟨rfl, rfl⟩
      have b2 := b0
      go_wp2_with fail
      refine (range_ok A l c ss f t _ (HT.out _ b2) HL.out (hs.below b2) hlc hl40 hft htl HP.out).mono ?_
      rintro e w3 ⟨rfl, hb3⟩
      have b3 := b2.trans (hb3.mono b2.size)
      go_wp2_with fail
      refine (split_sv n _).mono ?_
      rintro e w4 ⟨rfl, rfl⟩
      rw [HZ.out]
      go_wp2_with fail
      refine (refSplit_sv n _).mono ?_
      rintro e w4 ⟨rfl, rfl⟩
      rw [HZ.out]
      go_wp2_with fail
      refine (right_yes A2 q c2 _ _ HQ.out (hp.below b3) (by omega) HP.out).mono ?_
      rintro e w5 ⟨rfl, rfl⟩
      go_wp2_with fail
      refine (refRoot_any q A2 q c2 _ (Nat.le_refl _) _ HQ.out (hp.below b3) HP.out hqc (by omega)).mono ?_
      rintro e w6 ⟨rfl, hb6⟩
      have b6 := b3.trans (hb6.mono b3.size)
      clear hb3 hb6 b3
      have b3 := b6
      clear b6
      go_wp2_with fail
      refine (right_no A l c ss _ HL.out (hs.below b3) (by omega) HD.out).mono ?_
      rintro e w5 ⟨rfl, rfl⟩
      go_wp2_with fail
      refine (knows_any _ (HT.out _ b3)).mono ?_
      rintro e wk ⟨rfl, hbk⟩
      have bk := b3.trans (hbk.mono b3.size)
      go_wp2_with fail
      go_ret
      exact ⟨rfl, bk⟩
  · have HP := Lib.hid hpd
    clear hpd
    by_cases hd : Digs ss
    · have HD := Lib.hid hd
      clear hd
      go_enter Tryd.func3, Tryd.ntmps3
      go_wp2_with fail
      refine (great_not A l c ss _ HL.out hs (by omega) HG.out).mono ?_
      rintro e w1 ⟨rfl, rfl⟩
      go_wp2_with fail
      refine (Root_ok A l c ss _ (HT.out _ b0) HL.out hs hlc hl40 HD.out).mono ?_
      rintro e w2 ⟨rfl, hb2⟩
      have b2 := b0.trans (hb2.mono b0.size)
      go_wp2_with fail
      refine (range_bad A l c ss (f : Int) (t : Int) _ HL.out (hs.below b2) hlc hl40 (.inr (.inr (.inr (by simpa using HP.out))))).mono ?_
      rintro e w3 ⟨rfl, rfl⟩
      have b3 := b2
      go_wp2_with fail
      refine (split_sv n _).mono ?_
      rintro e w4 ⟨rfl, rfl⟩
      rw [HZ.out]
      go_wp2_with fail
      refine (refSplit_sv n _).mono ?_
      rintro e w4 ⟨rfl, rfl⟩
      rw [HZ.out]
      go_wp2_with fail
      refine (right_no A2 q c2 _ _ HQ.out (hp.below b3) (by omega) HP.out).mono ?_
      rintro e w5 ⟨rfl, rfl⟩
      go_wp2_with fail
      refine (right_yes A l c ss _ HL.out (hs.below b3) (by omega) HD.out).mono ?_
      rintro e w5 ⟨rfl, rfl⟩
      go_wp2_with fail
      refine (refRoot_any l A l c ss (Nat.le_refl _) _ HL.out (hs.below b3) HD.out hlc hl40).mono ?_
      rintro e w6 ⟨rfl, hb6⟩
      have b6 := b3.trans (hb6.mono b3.size)
      go_wp2_with fail
      refine (knows_any _ (HT.out _ b6)).mono ?_
      rintro e wk ⟨rfl, hbk⟩
      have bk := b6.trans (hbk.mono b6.size)
      go_wp2_with fail
      go_ret
      exact ⟨rfl, bk⟩
    · have HD := Lib.hid hd
      clear hd
      go_enter Tryd.func3, Tryd.ntmps3
      go_wp2_with fail
      refine (great_not A l c ss _ HL.out hs (by omega) HG.out).mono ?_
      rintro e w1 ⟨rfl, rfl⟩
      go_wp2_with fail
      refine (Root_bad A l c ss _ HL.out hs hlc hl40 HD.out).mono ?_
      rintro e w2 ⟨rfl, rfl⟩
      have b2 := b0
      go_wp2_with fail
      refine (range_bad A l c ss (f : Int) (t : Int) _ HL.out (hs.below b2) hlc hl40 (.inr (.inr (.inr (by simpa using HP.out))))).mono ?_
      rintro e w3 ⟨rfl, rfl⟩
      have b3 := b2
      go_wp2_with fail
      refine (split_sv n _).mono ?_
      rintro e w4 ⟨rfl, rfl⟩
      rw [HZ.out]
      go_wp2_with fail
      refine (refSplit_sv n _).mono ?_
      rintro e w4 ⟨rfl, rfl⟩
      rw [HZ.out]
      go_wp2_with fail
      refine (right_no A2 q c2 _ _ HQ.out (hp.below b3) (by omega) HP.out).mono ?_
      rintro e w5 ⟨rfl, rfl⟩
      go_wp2_with fail
      refine (right_no A l c ss _ HL.out (hs.below b3) (by omega) HD.out).mono ?_
      rintro e w5 ⟨rfl, rfl⟩
      go_wp2_with fail
      refine (knows_any _ (HT.out _ b3)).mono ?_
      rintro e wk ⟨rfl, hbk⟩
      have bk := b3.trans (hbk.mono b3.size)
      go_wp2_with fail
      go_ret
      exact ⟨rfl, bk⟩
end Go.Proofs.YtmebogaenbjmnaaDoor.TrW
