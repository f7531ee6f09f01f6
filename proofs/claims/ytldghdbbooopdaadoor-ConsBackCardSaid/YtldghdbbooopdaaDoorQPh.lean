/- ConsBack, ConsEnds. -/
import Derived.Test.YtldghdbbooopdaaDoorJ3
namespace Go.Proofs.YtldghdbbooopdaaDoor.CoW
open Go.RowKit TreeW ConsW TrW
open ShaW Sha
theorem pt_digs : ∀ (f : Nat) (ss : List ByteArray) (m : Nat) (wh : Bool), ss.length ≤ f → 1 ≤ m → m ≤ ss.length → Digs ss → Digs (pt ss m wh)
  | f, ss, m, wh, hf, h1, h2, hd => by
    by_cases h : m = ss.length
    · subst h
      rw [pt_all]
      cases wh with
      | true => intro x hx; simp at hx
      | false => intro x hx; simp at hx; subst hx; exact rt_size _ _ (Nat.le_refl _) hd
    · obtain ⟨a, b, _, _⟩ := split_spec (n := ss.length) (by omega)
      cases f with
      | zero => omega
      | succ f =>
        unfold pt
        by_cases hm : m ≤ split ss.length
        · rw [part_left nd ed rfl h1 (by omega) hm]
          exact digs_push (pt_digs f (ss.take (split ss.length)) m wh (by rw [List.length_take]; omega) h1 (by rw [List.length_take]; omega) (hd.take _)) (rt_size _ _ (Nat.le_refl _) (hd.drop _))
        · rw [part_right nd ed rfl h1 (by omega) hm]
          exact digs_push (pt_digs f (ss.drop (split ss.length)) (m - split ss.length) false (by rw [List.length_drop]; omega) (by omega) (by rw [List.length_drop]; omega) (hd.drop _)) (rt_size _ _ (Nat.le_refl _) (hd.take _))
theorem pv_digs (ss : List ByteArray) (m : Nat) (h : m ≤ ss.length) (hd : Digs ss) : Digs (pv ss m) := by
  unfold pv ConsW.prove
  split
  · intro x hx; simp at hx
  · exact pt_digs ss.length ss m true (Nat.le_refl _) (by omega) h hd
theorem pv_all (ss : List ByteArray) : pv ss ss.length = [] := by
  unfold pv ConsW.prove
  split
  · rfl
  · rw [part_all]; rfl
theorem pv_zero (ss : List ByteArray) : pv ss 0 = [] := rfl
set_option maxRecDepth 1000000 in
set_option maxHeartbeats 4000000 in
theorem lawBack (A : Option Addr) (l c : Nat) (vs : List Value) (bss : List (List UInt8)) (some : Int) (w : World) (hT : Tab w) (hl : bss.length = l) (hA : Sl w A vs) (hR : RowsAt w vs bss) (hlc : l ≤ c) (hc63 : c ≤ 9223372036854775807) (hsm : 0 ≤ some ∧ some ≤ 255) :
    Calls Tryd.prog 5 #[.slice A l c, .int .u8 some] w fun e w' => e = .returned (.bool true) ∧ Below w.heap.size w w' := by
  have hpos := hT.pos
  have HT := Lib.hid (fun W (hb : Below w.heap.size w W) => hT.below hb hpos)
  have b0 : Below w.heap.size w w := Below.refl _ _
  have HL := Lib.hid hl
  have HR := Lib.hid hR
  clear hl hT hpos hR
  go_enter Tryd.func5, Tryd.ntmps5
  go_wp2_with fail
  refine (digests_law A l c vs bss _ HL.out hA HR.out (by omega)).mono ?_
  rintro e w1 ⟨v, rfl, hown, hb1⟩
  have b1 := b0.trans (hb1.mono b0.size)
  have hlen := dg_len (bss.take 40)
  have hdig := dg_digs (bss.take 40)
  obtain ⟨ds, hds⟩ : ∃ ds, dg (bss.take 40) = ds := ⟨_, rfl⟩
  rw [hds] at hown hlen hdig
  obtain ⟨A1, c1, rfl, hs1, hc1, hm1, _⟩ := hown.slice
  obtain ⟨n, hn⟩ : ∃ n, ds.length = n := ⟨_, rfl⟩
  have HM := Lib.hid hn
  have HD := Lib.hid hdig
  have hn40 : n ≤ 40 := by rw [← hn]; exact Nat.le_trans hlen (by rw [List.length_take]; omega)
  rw [hn] at hc1 ⊢
  have hcm : c1 ≤ 9223372036854775807 := by unfold maxLen at hm1; omega
  clear hown hlen hdig hds hn hb1 HR hA
  obtain ⟨m, hm⟩ : ∃ m : Nat, some.tmod ((n : Int) + 1) = (m : Int) := ⟨(some.tmod ((n : Int) + 1)).toNat, by
    have := Int.tmod_nonneg ((n : Int) + 1) hsm.1
    omega⟩
  have hmn : m ≤ n := by
    have h1 : some.tmod ((n : Int) + 1) < (n : Int) + 1 := Int.tmod_lt_of_pos _ (by omega)
    omega
  have HAC := Lib.hid (accept_back nd ed ds m (by rw [HM.out]; exact hmn))
  have hpvl := pv_le ds m (by rw [HM.out]; exact hmn)
  have HPVD : Hid (Digs (pv ds m)) := pv_digs ds m (by rw [HM.out]; exact hmn) HD.out
  have hto := fun w' => run_to (P := Tryd.prog) strsTy w' A1 n c1 m .i64 (by omega)
  have HTK : Hid ((ds.take m).length = m) := by show _ = _; rw [List.length_take, HM.out]; omega
  have ZA := Lib.hid (rt_size _ _ (Nat.le_refl _) (HD.out.take m))
  have ZB := Lib.hid (rt_size _ _ (Nat.le_refl _) HD.out)
  go_wp2_with fail
  refine (Prove_ok A1 n c1 ds m _ (HT.out _ b1) HM.out hs1 HD.out hmn hc1 (by omega)).mono ?_
  rintro e w2 ⟨v2, rfl, hown2, hb2⟩
  have b2 := b1.trans (hb2.mono b1.size)
  have hs2 := hs1.below hb2
  obtain ⟨A2, c2, rfl, sl2, hc2, hm2, _⟩ := hown2.slice
  obtain ⟨q, hq⟩ : ∃ q, (pv ds m).length = q := ⟨_, rfl⟩
  have HQ := Lib.hid hq
  rw [hq] at hc2 hpvl ⊢
  have hcm2 : c2 ≤ 9223372036854775807 := by unfold maxLen at hm2; omega
  clear hown2 hb2 hs1 hq hm2
  have st2 : Sl w2 A1 (scells (ds.take m)) := by rw [← scells_take]; exact hs2.take m
  go_wp2_with fail
  refine (Root_ok A1 m c1 (ds.take m) _ (HT.out _ b2) HTK.out st2 (by omega) (by omega) (HD.out.take m)).mono ?_
  rintro e w3 ⟨rfl, hb3⟩
  have b3 := b2.trans (hb3.mono b2.size)
  have hs3 := hs2.below hb3
  have sl3 := sl2.below hb3
  clear hb3 hs2 sl2 st2 hto
  go_wp2_with fail
  refine (Root_ok A1 n c1 ds _ (HT.out _ b3) HM.out hs3 hc1 (by omega) HD.out).mono ?_
  rintro e w4 ⟨rfl, hb4⟩
  have b4 := b3.trans (hb4.mono b3.size)
  have sl4 := sl3.below hb4
  clear hb4 hs3 sl3
  go_wp2_with fail
  refine (Check_yes m n (rt (ds.take m)) (rt ds) A2 q c2 (pv ds m) _ (HT.out _ b4) hmn (by omega) ZA.out ZB.out HQ.out sl4 hc2 hcm2 HPVD.out (by rw [← HM.out]; exact HAC.out)).mono ?_
  rintro e w5 ⟨rfl, hb5⟩
  have b5 := b4.trans (hb5.mono b4.size)
  go_wp2_with fail
  refine (knows_any _ (HT.out _ b5)).mono ?_
  rintro e wk ⟨rfl, hbk⟩
  have bk := b5.trans (hbk.mono b5.size)
  go_wp2_with fail
  go_ret
  exact ⟨rfl, bk⟩
set_option maxRecDepth 1000000 in
set_option maxHeartbeats 4000000 in
theorem lawEnds (A : Option Addr) (l c : Nat) (vs : List Value) (bss : List (List UInt8)) (more : ByteArray) (w : World) (hT : Tab w) (hl : bss.length = l) (hA : Sl w A vs) (hR : RowsAt w vs bss) (hlc : l ≤ c) (hc63 : c ≤ 9223372036854775807) :
    Calls Tryd.prog 7 #[.slice A l c, .string more] w fun e w' => e = .returned (.bool true) ∧ Below w.heap.size w w' := by
  have hpos := hT.pos
  have HT := Lib.hid (fun W (hb : Below w.heap.size w W) => hT.below hb hpos)
  have b0 : Below w.heap.size w w := Below.refl _ _
  have HL := Lib.hid hl
  have HR := Lib.hid hR
  clear hl hT hpos hR
  go_enter Tryd.func7, Tryd.ntmps7
  go_wp2_with fail
  refine (digests_law A l c vs bss _ HL.out hA HR.out (by omega)).mono ?_
  rintro e w1 ⟨v, rfl, hown, hb1⟩
  have b1 := b0.trans (hb1.mono b0.size)
  have hlen := dg_len (bss.take 40)
  have hdig := dg_digs (bss.take 40)
  obtain ⟨ds, hds⟩ : ∃ ds, dg (bss.take 40) = ds := ⟨_, rfl⟩
  rw [hds] at hown hlen hdig
  obtain ⟨A1, c1, rfl, hs1, hc1, hm1, _⟩ := hown.slice
  obtain ⟨n, hn⟩ : ∃ n, ds.length = n := ⟨_, rfl⟩
  have HM := Lib.hid hn
  have HD := Lib.hid hdig
  have hn40 : n ≤ 40 := by rw [← hn]; exact Nat.le_trans hlen (by rw [List.length_take]; omega)
  rw [hn] at hc1 ⊢
  have hcm : c1 ≤ 9223372036854775807 := by unfold maxLen at hm1; omega
  clear hown hlen hdig hds hn hb1 HR hA
  have ZB := Lib.hid (rt_size _ _ (Nat.le_refl _) HD.out)
  have HPA : Hid (pv ds n = []) := by show _ = _; rw [← HM.out]; exact pv_all ds
  have HAA : Hid (acc n n (rt ds) (rt ds) []) := accept_all nd ed n (rt ds) (fun h => by rw [List.eq_nil_of_length_eq_zero (show ds.length = 0 by rw [HM.out]; exact h)]; rfl)
  have HA0 : Hid (acc 0 n ed (rt ds) []) := (accept_zero nd ed (n := n) (one := ed) (two := rt ds) (p := [])).2 ⟨rfl, rfl⟩
  have HNA : Hid (¬ (Digs [more] ∧ acc n n (rt ds) (rt ds) [more])) := fun h => accept_all_no nd ed n (rt ds) (rt ds) more h.2
  have HN0 : Hid (¬ (Digs [more] ∧ acc 0 n ed (rt ds) [more])) := fun h => accept_none_no nd ed n ed (rt ds) more h.2
  have HE0 : Hid (Digs ([] : List ByteArray)) := fun x hx => by simp at hx
  obtain ⟨R, hR⟩ : ∃ R, rt ds = R := ⟨_, rfl⟩
  have HR := Lib.hid hR
  rw [hR] at HAA HA0 HNA HN0 ZB
  go_wp2_with fail
  refine (Root_ok A1 n c1 ds _ (HT.out _ b1) HM.out hs1 hc1 (by omega) HD.out).mono ?_
  rw [hR]
  rintro e w2 ⟨rfl, hb2⟩
  have b2 := b1.trans (hb2.mono b1.size)
  have hs2 := hs1.below hb2
  clear hb2 hs1 hR
  go_wp2_with fail
  refine (Root_ok none 0 0 [] _ (HT.out _ b2) rfl Sl.nil (by omega) (by omega) HE0.out).mono ?_
  rw [show rt [] = ed from rfl]
  rintro e w3 ⟨rfl, hb3⟩
  have b3 := b2.trans (hb3.mono b2.size)
  have hs3 := hs2.below hb3
  clear hb3 hs2
  go_wp2_with fail
  refine (Prove_ok A1 n c1 ds n _ (HT.out _ b3) HM.out hs3 HD.out (Nat.le_refl _) hc1 (by omega)).mono ?_
  rintro e w4 ⟨v4, rfl, hown4, hb4⟩
  rw [HPA.out] at hown4
  obtain ⟨A4, c4, rfl, _, _, _, _⟩ := hown4.slice
  have b4 := b3.trans (hb4.mono b3.size)
  have hs4 := hs3.below hb4
  clear hown4 hb4 hs3
  rw [List.length_nil]
  go_wp2_with fail
  refine (Prove_ok A1 n c1 ds 0 _ (HT.out _ b4) HM.out hs4 HD.out (by omega) hc1 (by omega)).mono ?_
  rintro e w5 ⟨v5, rfl, hown5, hb5⟩
  rw [pv_zero] at hown5
  obtain ⟨A5, c5, rfl, _, _, _, _⟩ := hown5.slice
  have b5 := b4.trans (hb5.mono b4.size)
  clear hown5 hb5 hs4
  rw [List.length_nil]
  by_cases hz : more.size = 32
  · have k1 : (more.size : Int) = 32 := by omega
    have HZ := Lib.hid hz
    clear hz
    go_wp2_with fail
    refine (Check_yes n n R R none 0 0 [] _ (HT.out _ b5) (Nat.le_refl _) (by omega) ZB.out ZB.out rfl Sl.nil (by omega) (by omega) HE0.out HAA.out).mono ?_
    rintro e w6 ⟨rfl, hb6⟩
    have b6 := b5.trans (hb6.mono b5.size)
    clear hb6
    go_wp2_with fail
    refine (Check_yes 0 n ed R none 0 0 [] _ (HT.out _ b6) (by omega) (by omega) ed_size ZB.out rfl Sl.nil (by omega) (by omega) HE0.out HA0.out).mono ?_
    rintro e w7 ⟨rfl, hb7⟩
    have b7 := b6.trans (hb7.mono b6.size)
    have b7a := b7.alloc b7.size (.cells #[.string more] 9)
    have s7 := new_str w7 more
    clear hb7
    go_wp2_with fail
    refine (Check_no n n R R (some ⟨w7.heap.size, 0, none⟩) 1 1 [more] _ (HT.out _ b7a) (Nat.le_refl _) (by omega) ZB.out ZB.out rfl s7 (by omega) (by omega) HNA.out).mono ?_
    rintro e w8 ⟨rfl, hb8⟩
    have b8 := b7a.trans (hb8.mono b7a.size)
    have b8a := b8.alloc b8.size (.cells #[.string more] 9)
    have s8 := new_str w8 more
    clear hb8 s7
    go_wp2_with fail
    refine (Check_no 0 n ed R (some ⟨w8.heap.size, 0, none⟩) 1 1 [more] _ (HT.out _ b8a) (by omega) (by omega) ed_size ZB.out rfl s8 (by omega) (by omega) HN0.out).mono ?_
    rintro e w9 ⟨rfl, hb9⟩
    have b9 := b8a.trans (hb9.mono b8a.size)
    go_wp2_with fail
    refine (knows_any _ (HT.out _ b9)).mono ?_
    rintro e wk ⟨rfl, hbk⟩
    have bk := b9.trans (hbk.mono b9.size)
    go_wp2_with fail
    go_ret
    exact ⟨rfl, bk⟩
  · have k1 : ¬ (more.size : Int) = 32 := by omega
    clear hz
    go_wp2_with fail
    refine (knows_any _ (HT.out _ b5)).mono ?_
    rintro e wk ⟨rfl, hbk⟩
    have bk := b5.trans (hbk.mono b5.size)
    go_wp2_with fail
    go_ret
    exact ⟨rfl, bk⟩
end Go.Proofs.YtldghdbbooopdaaDoor.CoW
