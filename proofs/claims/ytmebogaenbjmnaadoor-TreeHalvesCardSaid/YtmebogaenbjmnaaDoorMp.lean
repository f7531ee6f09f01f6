/- TreeHalves, TreeWhole. -/
import Derived.Test.YtmebogaenbjmnaaDoorMj
namespace Go.Proofs.YtmebogaenbjmnaaDoor.TrW
open Go.RowKit TreeW
open ShaW Sha
set_option maxRecDepth 1000000 in
set_option maxHeartbeats 4000000 in
theorem lawHalves (A : Option Addr) (l c : Nat) (vs : List Value) (bss : List (List UInt8)) (w : World) (hT : Tab w) (hl : bss.length = l) (hA : Sl w A vs) (hR : RowsAt w vs bss) (hlc : l ≤ c) (hc63 : c ≤ 9223372036854775807) :
    Calls Tryd.prog 7 #[.slice A l c] w fun e w' => e = .returned (.bool true) ∧ Below w.heap.size w w' := by
  have hpos := hT.pos
  have HT := Lib.hid (fun W (hb : Below w.heap.size w W) => hT.below hb hpos)
  have b0 : Below w.heap.size w w := Below.refl _ _
  have HL := Lib.hid hl
  have HR := Lib.hid hR
  clear hl hT hpos hR
  go_enter Tryd.func7, Tryd.ntmps7
  go_wp2_with fail
  refine (digests_law A l c vs bss _ HL.out hA HR.out (by omega)).mono ?_
  rintro e w1 ⟨v, rfl, hown, hb1⟩
  have b1 := b0.trans (hb1.mono b0.size)
  have hlen := dg_len (bss.take 60)
  have hdig := dg_digs (bss.take 60)
  obtain ⟨ds, hds⟩ : ∃ ds, dg (bss.take 60) = ds := ⟨_, rfl⟩
  rw [hds] at hown hlen hdig
  obtain ⟨A1, c1, rfl, hs1, hc1, hm1, _⟩ := hown.slice
  obtain ⟨m, hm⟩ : ∃ m, ds.length = m := ⟨_, rfl⟩
  have HM := Lib.hid hm
  have HD := Lib.hid hdig
  have hm60 : m ≤ 60 := by rw [← hm]; exact Nat.le_trans hlen (by rw [List.length_take]; omega)
  rw [hm] at hc1 ⊢
  clear hown hlen hdig hds hm hb1 HR hA
  by_cases h2 : m < 2
  · have k1 : (m : Int) < 2 := by omega
    go_wp2_with fail
    refine (split_out (m : Int) _ (.inl k1)).mono ?_
    rintro e w2 ⟨rfl, rfl⟩
    go_wp2_with fail
    refine (knows_any _ (HT.out _ b1)).mono ?_
    rintro e wk ⟨rfl, hbk⟩
    have bk := b1.trans (hbk.mono b1.size)
    go_wp2_with fail
    go_ret
    exact ⟨rfl, bk⟩
  · obtain ⟨sa, sb, sc, _⟩ := split_spec (n := m) (by omega)
    have hrt := root_two nd ed ds (by rw [HM.out]; omega)
    rw [HM.out] at hrt
    obtain ⟨k, hk⟩ : ∃ k, k = split m := ⟨_, rfl⟩
    rw [← hk] at sa sb sc hrt
    have HK := Lib.hid hk
    have HRT : Hid (rt ds = nd (rt (ds.take k)) (rt (ds.drop k))) := hrt
    have ZP := Lib.hid (rt_size _ _ (Nat.le_refl _) (HD.out.take k))
    have ZQ := Lib.hid (rt_size _ _ (Nat.le_refl _) (HD.out.drop k))
    have HE1 : Hid ((ds.take k).drop 0 = ds.take k) := by show _ = _; rw [List.drop_zero]
    have HE2 : Hid ((ds.take m).drop k = ds.drop k) := by show _ = _; rw [List.take_of_length_le (by rw [HM.out]; omega)]
    have k1 : ¬ (m : Int) < 2 := by omega
    have k2 : ¬ (k : Int) < 1 := by omega
    have k3 : ¬ (k : Int) ≥ (m : Int) := by omega
    have k4 : ¬ (2 : Int) * (k : Int) < (m : Int) := by omega
    clear hk hrt
    go_wp2_with fail
    refine (split_in m _ (by omega) (by omega)).mono ?_
    rintro e w2 ⟨rfl, rfl⟩
    rw [← HK.out]
    go_wp2_with fail
    refine (range_ok A1 m c1 ds 0 k _ (HT.out _ b1) HM.out hs1 hc1 (by omega) (by omega) (by omega) (by rw [HE1.out]; exact HD.out.take k)).mono ?_
    rw [HE1.out]
    rintro e w3 ⟨rfl, hb3⟩
    have b3 := b1.trans (hb3.mono b1.size)
    have hs3 := hs1.below hb3
    clear hb3 hs1
    go_wp2_with fail
    refine (range_ok A1 m c1 ds k m _ (HT.out _ b3) HM.out hs3 hc1 (by omega) (by omega) (by omega) (by rw [HE2.out]; exact HD.out.drop k)).mono ?_
    rw [HE2.out]
    rintro e w4 ⟨rfl, hb4⟩
    have b4 := b3.trans (hb4.mono b3.size)
    have hs4 := hs3.below hb4
    clear hb4 hs3
    go_wp2_with fail
    refine (Root_ok A1 m c1 ds _ (HT.out _ b4) HM.out hs4 hc1 (by omega) HD.out).mono ?_
    rintro e w5 ⟨rfl, hb5⟩
    have b5 := b4.trans (hb5.mono b4.size)
    clear hb5
    go_wp2_with fail
    refine (node_tup (rt (ds.take k)) (rt (ds.drop k)) _ (HT.out _ b5) ZP.out ZQ.out).mono ?_
    rw [← HRT.out]
    rintro e w6 ⟨rfl, hb6⟩
    have b6 := b5.trans (hb6.mono b5.size)
    clear hb6
    go_wp2_with fail
    refine (knows_any _ (HT.out _ b6)).mono ?_
    rintro e wk ⟨rfl, hbk⟩
    have bk := b6.trans (hbk.mono b6.size)
    go_wp2_with fail
    go_ret
    exact ⟨rfl, bk⟩
set_option maxRecDepth 1000000 in
set_option maxHeartbeats 4000000 in
theorem lawWhole (A : Option Addr) (l c : Nat) (vs : List Value) (bss : List (List UInt8)) (w : World) (hT : Tab w) (hl : bss.length = l) (hA : Sl w A vs) (hR : RowsAt w vs bss) (hlc : l ≤ c) (hc63 : c ≤ 9223372036854775807) :
    Calls Tryd.prog 9 #[.slice A l c] w fun e w' => e = .returned (.bool true) ∧ Below w.heap.size w w' := by
  have hpos := hT.pos
  have HT := Lib.hid (fun W (hb : Below w.heap.size w W) => hT.below hb hpos)
  have b0 : Below w.heap.size w w := Below.refl _ _
  have HL := Lib.hid hl
  have HR := Lib.hid hR
  clear hl hT hpos hR
  go_enter Tryd.func9, Tryd.ntmps9
  go_wp2_with fail
  refine (digests_law A l c vs bss _ HL.out hA HR.out (by omega)).mono ?_
  rintro e w1 ⟨v, rfl, hown, hb1⟩
  have b1 := b0.trans (hb1.mono b0.size)
  have hlen := dg_len (bss.take 60)
  have hdig := dg_digs (bss.take 60)
  obtain ⟨ds, hds⟩ : ∃ ds, dg (bss.take 60) = ds := ⟨_, rfl⟩
  rw [hds] at hown hlen hdig
  obtain ⟨A1, c1, rfl, hs1, hc1, hm1, _⟩ := hown.slice
  obtain ⟨m, hm⟩ : ∃ m, ds.length = m := ⟨_, rfl⟩
  have HM := Lib.hid hm
  have HD := Lib.hid hdig
  have hm60 : m ≤ 60 := by rw [← hm]; exact Nat.le_trans hlen (by rw [List.length_take]; omega)
  rw [hm] at hc1 ⊢
  clear hown hlen hdig hds hm hb1 HR hA
  have HE1 := Lib.hid (all_part ds m HM.out)
  go_wp2_with fail
  refine (Root_ok A1 m c1 ds _ (HT.out _ b1) HM.out hs1 hc1 (by omega) HD.out).mono ?_
  rintro e w2 ⟨rfl, hb2⟩
  have b2 := b1.trans (hb2.mono b1.size)
  have hs2 := hs1.below hb2
  clear hb2 hs1
  go_wp2_with fail
  refine (range_ok A1 m c1 ds 0 m _ (HT.out _ b2) HM.out hs2 hc1 (by omega) (by omega) (by omega) (by rw [HE1.out]; exact HD.out)).mono ?_
  rw [HE1.out]
  rintro e w3 ⟨rfl, hb3⟩
  have b3 := b2.trans (hb3.mono b2.size)
  have hs3 := hs2.below hb3
  clear hb3 hs2
  go_wp2_with fail
  go_loopw [8, 9, 10] (fun vi _ _ wr => ∃ j : Nat, j ≤ m ∧ vi = .int .i64 (j : Int) ∧ Below w3.heap.size w3 wr) (fun vi _ _ _ => m - (intOf vi).toNat)
  case atStart => exact ⟨0, by omega, rfl, Below.refl _ _⟩
  case round =>
    obtain ⟨j, hj, rfl, hbel⟩ := hrel
    have hsr := hs3.below hbel
    have br := b3.trans (hbel.mono b3.size)
    by_cases hlt : j < m
    · have hget := get_of (ss := ds) (j := j) (by rw [HM.out]; exact hlt)
      obtain ⟨x, hx⟩ : ∃ x, ds.getD j ⟨#[]⟩ = x := ⟨_, rfl⟩
      rw [hx] at hget
      have HP1 : Hid ((ds.take (j + 1)).drop j = [x]) := by
        show _ = _
        rw [take_snoc hget, List.drop_append, List.length_take, HM.out, Nat.min_eq_left (by omega), Nat.sub_self, List.drop_zero, List.drop_eq_nil_of_le (by rw [List.length_take]; omega)]
        rfl
      have HX := Lib.hid (HD.out x (List.mem_of_getElem? hget))
      have HG := Lib.hid hget
      clear hx hget
      go_wp2_with fail
      have hcall := range_ok A1 m c1 ds j (j + 1) wr (HT.out _ br) HM.out hsr hc1 (by omega) (by omega) (by omega) (by rw [HP1.out]; intro z hz; simp at hz; subst hz; exact HX.out)
      rw [show ((j + 1 : Nat) : Int) = (j : Int) + 1 by omega, HP1.out, show rt [x] = x from rfl] at hcall
      refine hcall.mono ?_
      rintro e w4 ⟨rfl, hb4⟩
      have b4 := hbel.trans (hb4.mono hbel.size)
      have hs4 := hsr.below hb4
      obtain ⟨b, o, rfl, hblt, hcell⟩ := hs4.get (j := j) (by rw [scells_len, HM.out]; exact hlt)
      have hc0 := hcell j _ (scells_at HG.out)
      clear hb4 hcell hcall
      go_wp2_with fail
      go_roundw
      case rel => exact ⟨j + 1, by omega, by go_num, b4⟩
      case measure => simp [intOf]; omega
    · by_cases hz : m = 0
      · have HZ : Hid (rt ds = ed) := by show _ = _; rw [List.eq_nil_of_length_eq_zero (show ds.length = 0 by rw [HM.out]; exact hz)]; rfl
        subst hz
        have k1 : ¬ (j : Int) < 0 := by omega
        rw [HZ.out]
        go_wp2_with fail
        refine (sum_nil _ (HT.out _ br)).mono ?_
        rintro e w5 ⟨rfl, hb5⟩
        have b5 := br.trans (hb5.mono br.size)
        go_wp2_with fail
        refine (knows_any _ (HT.out _ b5)).mono ?_
        rintro e wk ⟨rfl, hbk⟩
        have bk := b5.trans (hbk.mono b5.size)
        go_wp2_with fail
        go_ret
        exact ⟨rfl, bk⟩
      · have hne : ((m : Int) == 0) = false := by simpa using hz
        have k1 : (m : Int) - 1 = ((m - 1 : Nat) : Int) := by omega
        have hi : m - 1 < m := by omega
        have HPL := Lib.hid (path_len nd ed m ds (m - 1) (by rw [HM.out]; omega))
        obtain ⟨r, hr⟩ : ∃ r, m - 1 = r := ⟨_, rfl⟩
        rw [hr] at k1 hi HPL
        rw [HM.out] at HPL
        obtain ⟨q, hq⟩ : ∃ q, q = steps r m := ⟨_, rfl⟩
        rw [← hq] at HPL
        have HQ := Lib.hid hq
        clear hr hq
        go_wp2_with fail
        refine (path_ok A1 m c1 ds r _ (HT.out _ br) HM.out hsr HD.out hi hc1 (by omega)).mono ?_
        rintro e w5 ⟨v5, rfl, hown5, hb5⟩
        have b5 := br.trans (hb5.mono br.size)
        obtain ⟨A5, c5, rfl, _, _, _, _⟩ := hown5.slice
        rw [HPL.out]
        clear hown5 hb5
        go_wp2_with fail
        refine (steps_any m r m (Nat.le_refl _) _ (by omega) (by omega)).mono ?_
        rintro e w6 ⟨rfl, rfl⟩
        rw [← HQ.out]
        go_wp2_with fail
        refine (knows_any _ (HT.out _ b5)).mono ?_
        rintro e wk ⟨rfl, hbk⟩
        have bk := b5.trans (hbk.mono b5.size)
        go_wp2_with fail
        go_ret
        exact ⟨rfl, bk⟩
end Go.Proofs.YtmebogaenbjmnaaDoor.TrW
