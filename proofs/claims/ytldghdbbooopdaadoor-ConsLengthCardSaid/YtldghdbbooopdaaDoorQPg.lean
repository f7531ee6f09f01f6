/- ConsChecks, ConsLength. -/
import Derived.Test.YtldghdbbooopdaaDoorJ3
import Derived.Test.YtldghdbbooopdaaDoorQMy
namespace Go.Proofs.YtldghdbbooopdaaDoor.CoW
open Go.RowKit TreeW ConsW TrW
open ShaW Sha
set_option maxRecDepth 1000000 in
set_option maxHeartbeats 4000000 in
theorem lawChecks (m n : Int) (one two : ByteArray) (A : Option Addr) (l c : Nat) (ss : List ByteArray) (w : World) (hT : Tab w) (hl : ss.length = l) (hs : Sl w A (scells ss)) (hlc : l ≤ c) (hc63 : c ≤ 9223372036854775807) :
    Calls Tryd.prog 4 #[.int .i64 m, .int .i64 n, .string one, .string two, .slice A l c] w fun e w' => e = .returned (.bool true) ∧ Below w.heap.size w w' := by
  have hpos := hT.pos
  have HT := Lib.hid (fun W (hb : Below w.heap.size w W) => hT.below hb hpos)
  have b0 : Below w.heap.size w w := Below.refl _ _
  have HL := Lib.hid hl
  by_cases hg : Grt ss
  · have HG := Lib.hid hg
    clear hl hg hT hpos
    go_enter Tryd.func4, Tryd.ntmps4
    go_wp2_with fail
    refine (great_yes A l c ss _ HL.out hs (by omega) HG.out).mono ?_
    rintro e w1 ⟨rfl, rfl⟩
    go_wp2_with fail
    refine (knows_any _ (HT.out _ b0)).mono ?_
    rintro e wk ⟨rfl, hbk⟩
    have bk := b0.trans (hbk.mono b0.size)
    go_wp2_with fail
    go_ret
    exact ⟨rfl, bk⟩
  have HG := Lib.hid hg
  clear hl hg hT hpos
  by_cases h1 : 1000 < one.size
  · have k1 : (one.size : Int) > 1000 := by omega
    clear h1
    go_enter Tryd.func4, Tryd.ntmps4
    go_wp2_with fail
    refine (great_not A l c ss _ HL.out hs (by omega) HG.out).mono ?_
    rintro e w1 ⟨rfl, rfl⟩
    go_wp2_with fail
    refine (knows_any _ (HT.out _ b0)).mono ?_
    rintro e wk ⟨rfl, hbk⟩
    have bk := b0.trans (hbk.mono b0.size)
    go_wp2_with fail
    go_ret
    exact ⟨rfl, bk⟩
  have k1 : ¬ (one.size : Int) > 1000 := by omega
  by_cases h2 : 1000 < two.size
  · have k2 : (two.size : Int) > 1000 := by omega
    clear h1 h2
    go_enter Tryd.func4, Tryd.ntmps4
    go_wp2_with fail
    refine (great_not A l c ss _ HL.out hs (by omega) HG.out).mono ?_
    rintro e w1 ⟨rfl, rfl⟩
    go_wp2_with fail
    refine (knows_any _ (HT.out _ b0)).mono ?_
    rintro e wk ⟨rfl, hbk⟩
    have bk := b0.trans (hbk.mono b0.size)
    go_wp2_with fail
    go_ret
    exact ⟨rfl, bk⟩
  have k2 : ¬ (two.size : Int) > 1000 := by omega
  clear h1 h2
  by_cases hf : fair m n one two
  · obtain ⟨f1, f2, f3, f4, f5⟩ := hf
    obtain ⟨m, rfl⟩ : ∃ q : Nat, m = q := ⟨m.toNat, by omega⟩
    obtain ⟨n, rfl⟩ : ∃ q : Nat, n = q := ⟨n.toNat, by omega⟩
    have hmn : m ≤ n := by omega
    have hn40 : n ≤ 1099511627776 := by omega
    have F4 := Lib.hid f4
    have F5 := Lib.hid f5
    clear f1 f2 f3 f4 f5
    by_cases ha : Digs ss ∧ acc m n one two ss
    · have HA := Lib.hid ha
      clear ha
      go_enter Tryd.func4, Tryd.ntmps4
      go_wp2_with fail
      refine (great_not A l c ss _ HL.out hs (by omega) HG.out).mono ?_
      rintro e w1 ⟨rfl, rfl⟩
      go_wp2_with fail
      refine (Check_yes m n one two A l c ss _ (HT.out _ b0) hmn hn40 F4.out F5.out HL.out hs hlc hc63 HA.out.1 HA.out.2).mono ?_
      rintro e w2 ⟨rfl, hb2⟩
      have b2 := b0.trans (hb2.mono b0.size)
      go_wp2_with fail
      refine (fair_yes m n one two _ hmn hn40 F4.out F5.out).mono ?_
      rintro e w3 ⟨rfl, rfl⟩
      go_wp2_with fail
      refine (refCheck_any m n one two A l c ss _ hmn hn40 F4.out HL.out (hs.below b2) hlc hc63).mono ?_
      rintro e w3 ⟨b, rfl, hb, hb3⟩
      obtain rfl : b = true := hb.2 HA.out
      have b3 := b2.trans (hb3.mono b2.size)
      clear hb
      go_wp2_with fail
      refine (knows_any _ (HT.out _ b3)).mono ?_
      rintro e wk ⟨rfl, hbk⟩
      have bk := b3.trans (hbk.mono b3.size)
      go_wp2_with fail
      go_ret
      exact ⟨rfl, bk⟩
    · have HA := Lib.hid ha
      clear ha
      go_enter Tryd.func4, Tryd.ntmps4
      go_wp2_with fail
      refine (great_not A l c ss _ HL.out hs (by omega) HG.out).mono ?_
      rintro e w1 ⟨rfl, rfl⟩
      go_wp2_with fail
      refine (Check_no m n one two A l c ss _ (HT.out _ b0) hmn hn40 F4.out F5.out HL.out hs hlc hc63 HA.out).mono ?_
      rintro e w2 ⟨rfl, hb2⟩
      have b2 := b0.trans (hb2.mono b0.size)
      go_wp2_with fail
      refine (fair_yes m n one two _ hmn hn40 F4.out F5.out).mono ?_
      rintro e w3 ⟨rfl, rfl⟩
      go_wp2_with fail
      refine (refCheck_any m n one two A l c ss _ hmn hn40 F4.out HL.out (hs.below b2) hlc hc63).mono ?_
      rintro e w3 ⟨b, rfl, hb, hb3⟩
      obtain rfl : b = false := by
        cases b with
        | true => exact absurd (hb.1 rfl) HA.out
        | false => rfl
      have b3 := b2.trans (hb3.mono b2.size)
      clear hb
      go_wp2_with fail
      refine (knows_any _ (HT.out _ b3)).mono ?_
      rintro e wk ⟨rfl, hbk⟩
      have bk := b3.trans (hbk.mono b3.size)
      go_wp2_with fail
      go_ret
      exact ⟨rfl, bk⟩
  · have HF := Lib.hid hf
    clear hf
    go_enter Tryd.func4, Tryd.ntmps4
    go_wp2_with fail
    refine (great_not A l c ss _ HL.out hs (by omega) HG.out).mono ?_
    rintro e w1 ⟨rfl, rfl⟩
    go_wp2_with fail
    refine (Check_arg m n one two A l c _ HF.out).mono ?_
    rintro e w2 ⟨rfl, hb2⟩
    have b2 := b0.trans (hb2.mono b0.size)
    go_wp2_with fail
    refine (fair_no m n one two _ HF.out).mono ?_
    rintro e w3 ⟨rfl, rfl⟩
    go_wp2_with fail
    refine (knows_any _ (HT.out _ b2)).mono ?_
    rintro e wk ⟨rfl, hbk⟩
    have bk := b2.trans (hbk.mono b2.size)
    go_wp2_with fail
    go_ret
    exact ⟨rfl, bk⟩
set_option maxRecDepth 1000000 in
set_option maxHeartbeats 4000000 in
theorem lawLength (m n : Int) (one two : ByteArray) (A : Option Addr) (l c : Nat) (ps : List ByteArray) (B : Option Addr) (lq cq : Nat) (qs : List ByteArray) (w : World) (hT : Tab w) (hl : ps.length = l) (hA : Sl w A (scells ps)) (hlc : l ≤ c) (hc63 : c ≤ 9223372036854775807) (hlq : qs.length = lq) (hB : Sl w B (scells qs)) (hqc : lq ≤ cq) (hq63 : cq ≤ 9223372036854775807) :
    Calls Tryd.prog 6 #[.int .i64 m, .int .i64 n, .string one, .string two, .slice A l c, .slice B lq cq] w fun e w' => e = .returned (.bool true) ∧ Below w.heap.size w w' := by
  have hpos := hT.pos
  have HT := Lib.hid (fun W (hb : Below w.heap.size w W) => hT.below hb hpos)
  have b0 : Below w.heap.size w w := Below.refl _ _
  have HP := Lib.hid hl
  have HQ := Lib.hid hlq
  clear hl hlq hT hpos
  by_cases hgp : Grt ps
  · have HGP := Lib.hid hgp
    clear hgp
    go_enter Tryd.func6, Tryd.ntmps6
    go_wp2_with fail
    refine (great_yes A l c ps _ HP.out hA (by omega) HGP.out).mono ?_
    rintro e w1 ⟨rfl, rfl⟩
    go_wp2_with fail
    refine (knows_any _ (HT.out _ b0)).mono ?_
    rintro e wk ⟨rfl, hbk⟩
    have bk := b0.trans (hbk.mono b0.size)
    go_wp2_with fail
    go_ret
    exact ⟨rfl, bk⟩
  have HGP := Lib.hid hgp
  by_cases hgq : Grt qs
  · have HGQ := Lib.hid hgq
    clear hgq hgp
    go_enter Tryd.func6, Tryd.ntmps6
    go_wp2_with fail
    refine (great_not A l c ps _ HP.out hA (by omega) HGP.out).mono ?_
    rintro e w1 ⟨rfl, rfl⟩
    go_wp2_with fail
    refine (great_yes B lq cq qs _ HQ.out hB (by omega) HGQ.out).mono ?_
    rintro e w1 ⟨rfl, rfl⟩
    go_wp2_with fail
    refine (knows_any _ (HT.out _ b0)).mono ?_
    rintro e wk ⟨rfl, hbk⟩
    have bk := b0.trans (hbk.mono b0.size)
    go_wp2_with fail
    go_ret
    exact ⟨rfl, bk⟩
  have HGQ := Lib.hid hgq
  clear hgp hgq
  by_cases h1 : ¬ one.size = 32
  · have k1 : ¬ (one.size : Int) = 32 := by omega
    clear h1
    go_enter Tryd.func6, Tryd.ntmps6
    go_wp2_with fail
    refine (great_not A l c ps _ HP.out hA (by omega) HGP.out).mono ?_
    rintro e w1 ⟨rfl, rfl⟩
    go_wp2_with fail
    refine (great_not B lq cq qs _ HQ.out hB (by omega) HGQ.out).mono ?_
    rintro e w1 ⟨rfl, rfl⟩
    go_wp2_with fail
    refine (knows_any _ (HT.out _ b0)).mono ?_
    rintro e wk ⟨rfl, hbk⟩
    have bk := b0.trans (hbk.mono b0.size)
    go_wp2_with fail
    go_ret
    exact ⟨rfl, bk⟩
  have f4 : one.size = 32 := by omega
  have k1 : (one.size : Int) = 32 := by omega
  by_cases h2 : ¬ two.size = 32
  · have k2 : ¬ (two.size : Int) = 32 := by omega
    clear h1 h2 f4
    go_enter Tryd.func6, Tryd.ntmps6
    go_wp2_with fail
    refine (great_not A l c ps _ HP.out hA (by omega) HGP.out).mono ?_
    rintro e w1 ⟨rfl, rfl⟩
    go_wp2_with fail
    refine (great_not B lq cq qs _ HQ.out hB (by omega) HGQ.out).mono ?_
    rintro e w1 ⟨rfl, rfl⟩
    go_wp2_with fail
    refine (knows_any _ (HT.out _ b0)).mono ?_
    rintro e wk ⟨rfl, hbk⟩
    have bk := b0.trans (hbk.mono b0.size)
    go_wp2_with fail
    go_ret
    exact ⟨rfl, bk⟩
  have f5 : two.size = 32 := by omega
  have k2 : (two.size : Int) = 32 := by omega
  have F4 := Lib.hid f4
  have F5 := Lib.hid f5
  clear h1 h2 f4 f5
  by_cases h3 : l = lq
  · have k3 : ((l : Int) == (lq : Int)) = true := by rw [h3]; simp
    clear h3
    go_enter Tryd.func6, Tryd.ntmps6
    go_wp2_with fail
    refine (great_not A l c ps _ HP.out hA (by omega) HGP.out).mono ?_
    rintro e w1 ⟨rfl, rfl⟩
    go_wp2_with fail
    refine (great_not B lq cq qs _ HQ.out hB (by omega) HGQ.out).mono ?_
    rintro e w1 ⟨rfl, rfl⟩
    go_wp2_with fail
    refine (knows_any _ (HT.out _ b0)).mono ?_
    rintro e wk ⟨rfl, hbk⟩
    have bk := b0.trans (hbk.mono b0.size)
    go_wp2_with fail
    go_ret
    exact ⟨rfl, bk⟩
  have k3 : ¬ (l : Int) = (lq : Int) := by omega
  by_cases hf : fair m n one two
  · obtain ⟨f1, f2, f3, _, _⟩ := hf
    obtain ⟨m, rfl⟩ : ∃ q : Nat, m = q := ⟨m.toNat, by omega⟩
    obtain ⟨n, rfl⟩ : ∃ q : Nat, n = q := ⟨n.toNat, by omega⟩
    have hmn : m ≤ n := by omega
    have hn40 : n ≤ 1099511627776 := by omega
    clear f1 f2 f3
    by_cases ha : Digs ps ∧ acc m n one two ps
    · have HA := Lib.hid ha
      have HN : Hid (¬ (Digs qs ∧ acc m n one two qs)) := fun h => h3 (by
        have := accept_len nd ed ha.2 h.2
        rw [HP.out, HQ.out] at this
        exact this)
      clear ha h3
      go_enter Tryd.func6, Tryd.ntmps6
      go_wp2_with fail
      refine (great_not A l c ps _ HP.out hA (by omega) HGP.out).mono ?_
      rintro e w1 ⟨rfl, rfl⟩
      go_wp2_with fail
      refine (great_not B lq cq qs _ HQ.out hB (by omega) HGQ.out).mono ?_
      rintro e w1 ⟨rfl, rfl⟩
      go_wp2_with fail
      refine (Check_yes m n one two A l c ps _ (HT.out _ b0) hmn hn40 F4.out F5.out HP.out hA hlc hc63 HA.out.1 HA.out.2).mono ?_
      rintro e w2 ⟨rfl, hb2⟩
      have b2 := b0.trans (hb2.mono b0.size)
      go_wp2_with fail
      refine (Check_no m n one two B lq cq qs _ (HT.out _ b2) hmn hn40 F4.out F5.out HQ.out (hB.below b2) hqc hq63 HN.out).mono ?_
      rintro e w3 ⟨rfl, hb3⟩
      have b3 := b2.trans (hb3.mono b2.size)
      go_wp2_with fail
      refine (knows_any _ (HT.out _ b3)).mono ?_
      rintro e wk ⟨rfl, hbk⟩
      have bk := b3.trans (hbk.mono b3.size)
      go_wp2_with fail
      go_ret
      exact ⟨rfl, bk⟩
    · have HA := Lib.hid ha
      clear ha h3
      go_enter Tryd.func6, Tryd.ntmps6
      go_wp2_with fail
      refine (great_not A l c ps _ HP.out hA (by omega) HGP.out).mono ?_
      rintro e w1 ⟨rfl, rfl⟩
      go_wp2_with fail
      refine (great_not B lq cq qs _ HQ.out hB (by omega) HGQ.out).mono ?_
      rintro e w1 ⟨rfl, rfl⟩
      go_wp2_with fail
      refine (Check_no m n one two A l c ps _ (HT.out _ b0) hmn hn40 F4.out F5.out HP.out hA hlc hc63 HA.out).mono ?_
      rintro e w2 ⟨rfl, hb2⟩
      have b2 := b0.trans (hb2.mono b0.size)
      go_wp2_with fail
      refine (knows_any _ (HT.out _ b2)).mono ?_
      rintro e wk ⟨rfl, hbk⟩
      have bk := b2.trans (hbk.mono b2.size)
      go_wp2_with fail
      go_ret
      exact ⟨rfl, bk⟩
  · have HF := Lib.hid hf
    clear hf h3
    go_enter Tryd.func6, Tryd.ntmps6
    go_wp2_with fail
    refine (great_not A l c ps _ HP.out hA (by omega) HGP.out).mono ?_
    rintro e w1 ⟨rfl, rfl⟩
    go_wp2_with fail
    refine (great_not B lq cq qs _ HQ.out hB (by omega) HGQ.out).mono ?_
    rintro e w1 ⟨rfl, rfl⟩
    go_wp2_with fail
    refine (Check_arg m n one two A l c _ HF.out).mono ?_
    rintro e w2 ⟨rfl, hb2⟩
    have b2 := b0.trans (hb2.mono b0.size)
    go_wp2_with fail
    refine (knows_any _ (HT.out _ b2)).mono ?_
    rintro e wk ⟨rfl, hbk⟩
    have bk := b2.trans (hbk.mono b2.size)
    go_wp2_with fail
    go_ret
    exact ⟨rfl, bk⟩
end Go.Proofs.YtldghdbbooopdaaDoor.CoW
