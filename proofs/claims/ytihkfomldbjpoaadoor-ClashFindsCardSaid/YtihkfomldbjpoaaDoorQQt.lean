/- ClashFinds. -/
import Derived.Test.YtihkfomldbjpoaaDoorJ7
namespace Go.Proofs.YtihkfomldbjpoaaDoor.ClW
open Go.RowKit TreeW ConsW TrW ClashW CoW
open ShaW Sha
theorem get_row {bss : List (List UInt8)} {j : Nat} (h : j < bss.length) : bss[j]? = some (bss.getD j []) := by simp [h]
set_option maxRecDepth 1000000 in
set_option maxHeartbeats 4000000 in
theorem lawFinds (A : Option Addr) (l c : Nat) (vs : List Value) (bss : List (List UInt8)) (i : Int) (B : Option Addr) (lb db : Nat) (xs : List UInt8) (C : Option Addr) (lp cp : Nat) (ps : List ByteArray) (w : World) (hT : Tab w) (hl : bss.length = l) (hA : Sl w A vs) (hR : RowsAt w vs bss) (hlc : l ≤ c) (hc63 : c ≤ 9223372036854775807) (hlb : xs.length = lb) (hB : Sl w B (bcells xs)) (hlbd : lb ≤ db) (hdb : db ≤ 9223372036854775807) (hlp : ps.length = lp) (hC : Sl w C (scells ps)) (hlpc : lp ≤ cp) (hcp : cp ≤ 9223372036854775807) :
    Calls Tryd.prog 6 #[.slice A l c, .int .i64 i, .slice B lb db, .slice C lp cp] w fun e w' => e = .returned (.bool true) ∧ Below w.heap.size w w' := by
  have hpos := hT.pos
  have HT := Lib.hid (fun W (hb : Below w.heap.size w W) => hT.below hb hpos)
  have b0 : Below w.heap.size w w := Below.refl _ _
  have HL := Lib.hid hl
  have HR := Lib.hid hR
  have HLB := Lib.hid hlb
  have HLP := Lib.hid hlp
  by_cases hg0 : Grt8 bss
  · have HGa : Hid (decide (Grt8 bss) = true) := decide_eq_true hg0
    clear hg0 hT hpos
    clear hl hR hlb hlp
    go_enter Tryd.func6, Tryd.ntmps6
    go_wp2_with fail
    refine (great8_any A l c vs bss _ HL.out hA HR.out (by omega)).mono ?_
    rintro e w9 ⟨rfl, rfl⟩
    rw [HGa.out]
    go_wp2_with fail
    refine (knows_any _ (HT.out _ b0)).mono ?_
    rintro e wk ⟨rfl, hbk⟩
    have bk := b0.trans (hbk.mono b0.size)
    go_wp2_with fail
    go_ret
    exact ⟨rfl, bk⟩
  have HGa : Hid (decide (Grt8 bss) = false) := decide_eq_false hg0
  have hma : l ≤ 25 := by have := (grt8_no hg0).1; have := HL.out; omega
  have HBDa : Hid (∀ x ∈ bss, x.length ≤ 100000000000) := fun x hx => by have := (grt8_no hg0).2 x hx; omega
  by_cases hg1 : 300 < lb
  · have glb : (lb : Int) > 300 := by omega
    clear hg0 hg1 hT hpos
    clear hl hR hlb hlp
    go_enter Tryd.func6, Tryd.ntmps6
    go_wp2_with fail
    refine (great8_any A l c vs bss _ HL.out hA HR.out (by omega)).mono ?_
    rintro e w9 ⟨rfl, rfl⟩
    rw [HGa.out]
    go_wp2_with fail
    refine (knows_any _ (HT.out _ b0)).mono ?_
    rintro e wk ⟨rfl, hbk⟩
    have bk := b0.trans (hbk.mono b0.size)
    go_wp2_with fail
    go_ret
    exact ⟨rfl, bk⟩
  have glb : ¬ (lb : Int) > 300 := by omega
  have gmb : lb ≤ 300 := by omega
  by_cases hg2 : Grt ps
  · have HGP := Lib.hid hg2
    clear hg0 hg1 hg2 hT hpos
    clear hl hR hlb hlp
    go_enter Tryd.func6, Tryd.ntmps6
    go_wp2_with fail
    refine (great8_any A l c vs bss _ HL.out hA HR.out (by omega)).mono ?_
    rintro e w9 ⟨rfl, rfl⟩
    rw [HGa.out]
    go_wp2_with fail
    refine (great_yes C lp cp ps _ HLP.out hC (by omega) HGP.out).mono ?_
    rintro e w9 ⟨rfl, rfl⟩
    go_wp2_with fail
    refine (knows_any _ (HT.out _ b0)).mono ?_
    rintro e wk ⟨rfl, hbk⟩
    have bk := b0.trans (hbk.mono b0.size)
    go_wp2_with fail
    go_ret
    exact ⟨rfl, bk⟩
  have HGP := Lib.hid hg2
  by_cases hg3 : i < 0
  · have gpn := hg3
    clear hg0 hg1 hg2 hg3 hT hpos
    clear hl hR hlb hlp
    go_enter Tryd.func6, Tryd.ntmps6
    go_wp2_with fail
    refine (great8_any A l c vs bss _ HL.out hA HR.out (by omega)).mono ?_
    rintro e w9 ⟨rfl, rfl⟩
    rw [HGa.out]
    go_wp2_with fail
    refine (great_not C lp cp ps _ HLP.out hC (by omega) HGP.out).mono ?_
    rintro e w9 ⟨rfl, rfl⟩
    go_wp2_with fail
    refine (knows_any _ (HT.out _ b0)).mono ?_
    rintro e wk ⟨rfl, hbk⟩
    have bk := b0.trans (hbk.mono b0.size)
    go_wp2_with fail
    go_ret
    exact ⟨rfl, bk⟩
  have gpn : ¬ i < 0 := by omega
  by_cases hg4 : i ≥ (l : Int)
  · have gpm := hg4
    clear hg0 hg1 hg2 hg3 hg4 hT hpos
    clear hl hR hlb hlp
    go_enter Tryd.func6, Tryd.ntmps6
    go_wp2_with fail
    refine (great8_any A l c vs bss _ HL.out hA HR.out (by omega)).mono ?_
    rintro e w9 ⟨rfl, rfl⟩
    rw [HGa.out]
    go_wp2_with fail
    refine (great_not C lp cp ps _ HLP.out hC (by omega) HGP.out).mono ?_
    rintro e w9 ⟨rfl, rfl⟩
    go_wp2_with fail
    refine (knows_any _ (HT.out _ b0)).mono ?_
    rintro e wk ⟨rfl, hbk⟩
    have bk := b0.trans (hbk.mono b0.size)
    go_wp2_with fail
    go_ret
    exact ⟨rfl, bk⟩
  have gpm : ¬ i ≥ (l : Int) := by omega
  clear hg0 hg1 hg2 hg3 hg4 hT hpos
  clear hl hR hlb hlp
  obtain ⟨j, rfl⟩ : ∃ j : Nat, i = j := ⟨i.toNat, by omega⟩
  have hj : j < l := by omega
  have HGD : Hid (Good (lcx bss (j : Int) xs ps)) := lcx_good HBDa.out (by rw [HLB.out]; omega)
  have HMA : Hid ((bss.map lf).length = l) := by show _ = _; rw [List.length_map, HL.out]
  obtain ⟨E, de, hv, hE, hEd, hde⟩ := HR.out.2 j (by rw [HL.out]; exact hj)
  have HEZ : Hid ((bss.getD j []).length ≤ 100000000000) := HBDa.out _ (List.mem_of_getElem? (get_row (by rw [HL.out]; exact hj)))
  obtain ⟨row, hrow⟩ : ∃ row, bss.getD j [] = row := ⟨_, rfl⟩
  rw [hrow] at hv hE hEd HEZ
  have HRW := Lib.hid hrow
  obtain ⟨le, hle⟩ : ∃ n, row.length = n := ⟨_, rfl⟩
  rw [hle] at hv hEd HEZ
  have HLE := Lib.hid hle
  obtain ⟨ba, oa, rfl, hblt, hcell⟩ := hA.get (j := j) (by rw [HR.out.1, HL.out]; exact hj)
  have hcj := hcell j _ hv
  have HCJ0 := Lib.hid hcj
  have HHO : Hid (lcx bss (j : Int) row (path nd ed (bss.map lf) j) = none) := by show _ = _; rw [← hrow]; exact lcx_honest (by rw [HL.out]; exact hj)
  obtain ⟨ra, hra⟩ : ∃ r, rt (bss.map lf) = r := ⟨_, rfl⟩
  have Nra := Lib.hid hra
  obtain ⟨z, hz⟩ : ∃ r, lf xs = r := ⟨_, rfl⟩
  have Nz := Lib.hid hz
  obtain ⟨rc, hrc⟩ : ∃ r, climb nd ed z j l ps = r := ⟨_, rfl⟩
  have Nrc := Lib.hid hrc
  obtain ⟨X, hX⟩ : ∃ X : ByteArray, ⟨xs.toArray⟩ = X := ⟨_, rfl⟩
  obtain ⟨Y, hY⟩ : ∃ Y : ByteArray, ⟨row.toArray⟩ = Y := ⟨_, rfl⟩
  have HX := Lib.hid hX
  have HY := Lib.hid hY
  have Zz : Hid (z.size = 32) := by show _ = _; rw [← hz]; exact lf_size _
  clear hX hY hrow hle hv hcell hra hz hrc hcj
  go_enter Tryd.func6, Tryd.ntmps6
  go_wp2_with fail
  refine (great8_any (some ⟨ba, oa, none⟩) l c vs bss _ HL.out hA HR.out (by omega)).mono ?_
  rintro e w9 ⟨rfl, rfl⟩
  rw [HGa.out]
  go_wp2_with fail
  refine (great_not C lp cp ps _ HLP.out hC (by omega) HGP.out).mono ?_
  rintro e w9 ⟨rfl, rfl⟩
  go_wp2_with fail
  refine (refLeaves_any (some ⟨ba, oa, none⟩) l c vs bss _ HL.out hA HR.out (by omega) (fun x hx => Nat.le_trans (HBDa.out x hx) (by omega))).mono ?_
  rintro e w1 ⟨v5, rfl, hown5, hb1⟩
  have b1 := b0.trans (hb1.mono b0.size)
  replace hA := hA.below hb1
  replace HR := Lib.hid (HR.out.below hb1)
  replace hB := hB.below hb1
  replace hC := hC.below hb1
  replace hE := hE.below hb1
  obtain ⟨A5, c5, rfl, sl5, hc5, _, _⟩ := hown5.slice
  rw [HMA.out] at hc5 ⊢
  clear hown5
  go_wp2_with fail
  refine (refLeaf_any B lb db xs _ HLB.out hB (by omega)).mono ?_
  rintro e w2 ⟨rfl, hb2⟩
  have b2 := b1.trans (hb2.mono b1.size)
  replace hA := hA.below hb2
  replace HR := Lib.hid (HR.out.below hb2)
  replace hB := hB.below hb2
  replace hC := hC.below hb2
  replace hE := hE.below hb2
  replace sl5 := sl5.below hb2
  rw [Nz.out]
  go_wp2_with fail
  by_cases hok : lp = steps j l ∧ Digs ps
  · have HOK := Lib.hid hok
    clear hok
    refine (climb_ok z j l C lp cp ps _ (HT.out _ b2) Zz.out hj (by omega) HLP.out hC (by omega) HOK.out.1 HOK.out.2).mono ?_
    rintro e w3 ⟨rfl, hb3⟩
    have b3 := b2.trans (hb3.mono b2.size)
    replace hA := hA.below hb3
    replace HR := Lib.hid (HR.out.below hb3)
    replace hB := hB.below hb3
    replace hC := hC.below hb3
    replace hE := hE.below hb3
    replace sl5 := sl5.below hb3
    rw [Nrc.out]
    go_wp2_with fail
    refine (Leaf_any (some ⟨ba, oa, none⟩) l c vs bss (j : Int) B lb db xs C lp cp ps _ (HT.out _ b3) HL.out hA HR.out hlc (by omega) HBDa.out HLB.out hB hlbd hdb (by rw [HLB.out]; omega) HLP.out hC hlpc hcp).mono ?_
    rintro e w4 ⟨A1, n1, c1, B1, m1, d1, q1, rfl, t1, hb4⟩
    have b4 := b3.trans (hb4.mono b3.size)
    replace hA := hA.below hb4
    replace HR := Lib.hid (HR.out.below hb4)
    replace hB := hB.below hb4
    replace hC := hC.below hb4
    replace hE := hE.below hb4
    replace sl5 := sl5.below hb4
    have k1 : At (w4.alloc (.cells #[.slice none 0 0, .slice none 0 0] 29)) w4.heap.size 29 [.slice none 0 0, .slice none 0 0] := At.new_ w4 _ 29 _ rfl
    go_wp2_with (refine wpList_storeB rfl rfl 29 (.tmp 12) (.tmp 58) rfl SealW.clashTy w4.heap.size rfl [.slice A1 n1 c1, .slice B1 m1 d1] rfl 29 _ k1 rfl rfl slices_one ?_; intro w5 kx1 ox1; have hb5 := kept _ _ _ _ ox1)
    have b5 := b4.trans (hb5.mono b4.size)
    replace hA := hA.below hb5
    replace HR := Lib.hid (HR.out.below hb5)
    replace hB := hB.below hb5
    replace hC := hC.below hb5
    replace hE := hE.below hb5
    replace sl5 := sl5.below hb5
    replace t1 := t1.below hb5
    clear k1 ox1
    by_cases hr : rc = ra
    · have e1 := SealW.beq_yes hr
      by_cases hx : xs = row
      · have e2 : (X.toList == Y.toList) = true := SealW.beq_yes (by rw [← HX.out, ← HY.out, hx])
        clear hr hx
        have HVX : Hid (∀ w', Below w5.heap.size w5.drew w' → (convert 23 9 (.slice B lb db)).run Tryd.prog w' = .ok (.string X) w') := fun w' hb => by have := run_str (P := Tryd.prog) w' 23 9 5 SealW.underBytes SealW.underU8 SealW.underStr B xs lb db HLB.out ((hB.below ((Below.refl _ _).drew)).below hb); rwa [HX.out] at this
        have HVY : Hid (∀ w', Below w5.heap.size w5.drew w' → (convert 23 9 (.slice E le de)).run Tryd.prog w' = .ok (.string Y) w') := fun w' hb => by have := run_str (P := Tryd.prog) w' 23 9 5 SealW.underBytes SealW.underU8 SealW.underStr E row le de HLE.out ((hE.below ((Below.refl _ _).drew)).below hb); rwa [HY.out] at this
        have HCJ : Hid (∀ w', Below w5.heap.size w5.drew w' → w'.cell? ⟨ba, oa + j, none⟩ = some (.slice E le de)) := fun w' hb => ((b5.drew.trans (hb.mono b5.drew.size)).cell (p := ⟨ba, oa + j, none⟩) hblt).trans HCJ0.out
        have b6 := b5.drew
        replace hA := hA.below ((Below.refl _ _).drew : Below _ w5 w5.drew)
        replace HR := Lib.hid (HR.out.below ((Below.refl _ _).drew : Below _ w5 w5.drew))
        replace hB := hB.below ((Below.refl _ _).drew : Below _ w5 w5.drew)
        replace hC := hC.below ((Below.refl _ _).drew : Below _ w5 w5.drew)
        replace hE := hE.below ((Below.refl _ _).drew : Below _ w5 w5.drew)
        replace sl5 := sl5.below ((Below.refl _ _).drew : Below _ w5 w5.drew)
        replace t1 := t1.below ((Below.refl _ _).drew : Below _ w5 w5.drew)
        replace kx1 := kx1.below ((Below.refl _ _).drew : Below _ w5 w5.drew) kx1.lt
        refine regB_begin (w5.heap.size) (by kernel_rfl) ?_
        change wpAnyH _ _ _ _ _ 18 #[false, false, false, false, false, false, false, false, false, false, false, false, false, false, false, false, false, false] _ _
        refine regB_take (i := 0) (d := some 60) (v := (.int .i64 0)) rfl rfl (by kernel_rfl) (by kernel_rfl) (by kernel_rfl) (fun _ _ _ h => h) (by rfl) (by intro w' hSw; go_simp) ?_
        try simp only [Act.put, List.setIfInBounds_toArray, List.set_cons_zero, List.set_cons_succ]
        refine regB_take (i := 1) (d := some 61) (v := (.bool true)) rfl rfl (by kernel_rfl) (by kernel_rfl) (by kernel_rfl) (fun _ _ _ h => h) (by rfl) (by intro w' hSw; go_simp) ?_
        try simp only [Act.put, List.setIfInBounds_toArray, List.set_cons_zero, List.set_cons_succ]
        refine regB_take (i := 2) (d := some 62) (v := (.bool true)) rfl rfl (by kernel_rfl) (by kernel_rfl) (by kernel_rfl) (fun _ _ _ h => h) (by rfl) (by intro w' hSw; go_simp) ?_
        try simp only [Act.put, List.setIfInBounds_toArray, List.set_cons_zero, List.set_cons_succ]
        refine regB_take (i := 3) (d := some 63) (v := (.string rc)) rfl rfl (by kernel_rfl) (by kernel_rfl) (by kernel_rfl) (fun _ _ _ h => h) (by rfl) (by intro w' hSw; go_simp) ?_
        try simp only [Act.put, List.setIfInBounds_toArray, List.set_cons_zero, List.set_cons_succ]
        refine regB_take (i := 4) (d := some 64) (v := (.slice A5 l c5)) rfl rfl (by kernel_rfl) (by kernel_rfl) (by kernel_rfl) (fun _ _ _ h => h) (by rfl) (by intro w' hSw; go_simp) ?_
        try simp only [Act.put, List.setIfInBounds_toArray, List.set_cons_zero, List.set_cons_succ]
        refine regB_call (i := 5) rfl (by kernel_rfl) (by rfl) fun K hK => ?_
        go_simp
        refine (refRoot_any l A5 l c5 (bss.map lf) (Nat.le_refl _) _ HMA.out sl5 (lf_digs bss) hc5 (by omega)).mono ?_
        rintro e w7 ⟨rfl, hb7⟩
        have b7 := b6.trans (hb7.mono b6.size)
        replace hA := hA.below hb7
        replace HR := Lib.hid (HR.out.below hb7)
        replace hB := hB.below hb7
        replace hC := hC.below hb7
        replace hE := hE.below hb7
        replace sl5 := sl5.below hb7
        replace t1 := t1.below hb7
        replace kx1 := kx1.below hb7 kx1.lt
        replace HVX := Lib.hid (fun w' (hb : Below w5.heap.size w7 w') => HVX.out w' ((show Below w5.heap.size w5.drew w7 from hb7).trans hb))
        replace HVY := Lib.hid (fun w' (hb : Below w5.heap.size w7 w') => HVY.out w' ((show Below w5.heap.size w5.drew w7 from hb7).trans hb))
        replace HCJ := Lib.hid (fun w' (hb : Below w5.heap.size w7 w') => HCJ.out w' ((show Below w5.heap.size w5.drew w7 from hb7).trans hb))
        refine hK.out _ _ hb7 ?_
        rw [Nra.out]
        clear hK K
        try simp only [List.setIfInBounds_toArray, List.set_cons_zero, List.set_cons_succ]
        refine regB_take (i := 6) (d := some 66) (v := (.bool true)) rfl rfl (by kernel_rfl) (by kernel_rfl) (by kernel_rfl) (fun _ _ _ h => h) (by rfl) (by intro w' hSw; go_simp) ?_
        try simp only [Act.put, List.setIfInBounds_toArray, List.set_cons_zero, List.set_cons_succ]
        refine regB_take (i := 7) (d := some 67) (v := (.bool true)) rfl rfl (by kernel_rfl) (by kernel_rfl) (by kernel_rfl) (fun _ _ _ h => h) (by rfl) (by intro w' hSw; go_simp) ?_
        try simp only [Act.put, List.setIfInBounds_toArray, List.set_cons_zero, List.set_cons_succ]
        refine regB_take (i := 8) (d := some 68) (v := (.bool true)) rfl rfl (by kernel_rfl) (by kernel_rfl) (by kernel_rfl) (fun _ _ _ h => h) (by rfl) (by intro w' hSw; go_simp) ?_
        try simp only [Act.put, List.setIfInBounds_toArray, List.set_cons_zero, List.set_cons_succ]
        refine regB_take (i := 9) (d := some 69) (v := (.slice B lb db)) rfl rfl (by kernel_rfl) (by kernel_rfl) (by kernel_rfl) (fun _ _ _ h => h) (by rfl) (by intro w' hSw; go_simp) ?_
        try simp only [Act.put, List.setIfInBounds_toArray, List.set_cons_zero, List.set_cons_succ]
        refine regB_take (i := 10) (d := some 70) (v := (.string X)) rfl rfl (by kernel_rfl) (by kernel_rfl) (by kernel_rfl) (fun _ _ _ h => h) (by rfl) (by intro w' hSw; have h9 := HVX.out w' hSw; go_simp) ?_
        try simp only [Act.put, List.setIfInBounds_toArray, List.set_cons_zero, List.set_cons_succ]
        refine regB_take (i := 11) (d := some 71) (v := (.slice (some ⟨ba, oa, none⟩) l c)) rfl rfl (by kernel_rfl) (by kernel_rfl) (by kernel_rfl) (fun _ _ _ h => h) (by rfl) (by intro w' hSw; go_simp) ?_
        try simp only [Act.put, List.setIfInBounds_toArray, List.set_cons_zero, List.set_cons_succ]
        refine regB_take (i := 12) (d := some 72) (v := (.int .i64 (j : Int))) rfl rfl (by kernel_rfl) (by kernel_rfl) (by kernel_rfl) (fun _ _ _ h => h) (by rfl) (by intro w' hSw; go_simp) ?_
        try simp only [Act.put, List.setIfInBounds_toArray, List.set_cons_zero, List.set_cons_succ]
        refine regB_take (i := 13) (d := some 73) (v := (.pointer (some ⟨ba, oa + j, none⟩))) rfl rfl (by kernel_rfl) (by kernel_rfl) (by kernel_rfl) (fun _ _ _ h => h) (by rfl) (by intro w' hSw; go_simp) ?_
        try simp only [Act.put, List.setIfInBounds_toArray, List.set_cons_zero, List.set_cons_succ]
        refine regB_take (i := 14) (d := some 74) (v := (.slice E le de)) rfl rfl (by kernel_rfl) (by kernel_rfl) (by kernel_rfl) (fun _ _ _ h => h) (by rfl) (by intro w' hSw; have h9 := HCJ.out w' hSw; go_simp) ?_
        try simp only [Act.put, List.setIfInBounds_toArray, List.set_cons_zero, List.set_cons_succ]
        refine regB_take (i := 15) (d := some 75) (v := (.string Y)) rfl rfl (by kernel_rfl) (by kernel_rfl) (by kernel_rfl) (fun _ _ _ h => h) (by rfl) (by intro w' hSw; have h9 := HVY.out w' hSw; go_simp) ?_
        try simp only [Act.put, List.setIfInBounds_toArray, List.set_cons_zero, List.set_cons_succ]
        refine regB_take (i := 16) (d := some 76) (v := (.bool false)) rfl rfl (by kernel_rfl) (by kernel_rfl) (by kernel_rfl) (fun _ _ _ h => h) (by rfl) (by intro w' hSw; go_simp) ?_
        try simp only [Act.put, List.setIfInBounds_toArray, List.set_cons_zero, List.set_cons_succ]
        refine regB_take (i := 17) (d := some 77) (v := (.bool false)) rfl rfl (by kernel_rfl) (by kernel_rfl) (by kernel_rfl) (fun _ _ _ h => h) (by rfl) (by intro w' hSw; go_simp) ?_
        try simp only [Act.put, List.setIfInBounds_toArray, List.set_cons_zero, List.set_cons_succ]
        refine wpAnyH_done (by kernel_rfl) ?_ _
        clear HVX HVY HCJ
        clear e1 e2
        go_wp2_with fail
        refine (path_ok A5 l c5 (bss.map lf) j _ (HT.out _ b7) HMA.out sl5 (lf_digs bss) hj hc5 (by omega)).mono ?_
        rintro e w8 ⟨v7, rfl, hown7, hb8⟩
        have b8 := b7.trans (hb8.mono b7.size)
        replace hA := hA.below hb8
        replace HR := Lib.hid (HR.out.below hb8)
        replace hB := hB.below hb8
        replace hC := hC.below hb8
        replace hE := hE.below hb8
        replace sl5 := sl5.below hb8
        replace t1 := t1.below hb8
        replace kx1 := kx1.below hb8 kx1.lt
        obtain ⟨A7, c7, rfl, sl7, hc7, hm7, _⟩ := hown7.slice
        obtain ⟨p, hp⟩ : ∃ p, (path nd ed (bss.map lf) j).length = p := ⟨_, rfl⟩
        have HPL := Lib.hid hp
        rw [hp] at hc7 ⊢
        have hm8 : c7 ≤ 9223372036854775807 := by unfold maxLen at hm7; omega
        change Sl _ A7 (scells _) at sl7
        clear hown7 hp hm7
        have hcj2 := (b8.cell (p := ⟨ba, oa + j, none⟩) hblt).trans HCJ0.out
        go_wp2_with fail
        clear hcj2
        refine (Leaf_any (some ⟨ba, oa, none⟩) l c vs bss (j : Int) E le de row A7 p c7 (path nd ed (bss.map lf) j) _ (HT.out _ b8) HL.out hA HR.out hlc (by omega) HBDa.out HLE.out hE hEd (by unfold maxLen at hde; omega) (by rw [HLE.out]; exact HEZ.out) HPL.out sl7 hc7 hm8).mono ?_
        rintro e w9 ⟨A2, n2, c2, B2, m2, d2, q2, rfl, t2, hb9⟩
        have b9 := b8.trans (hb9.mono b8.size)
        replace hA := hA.below hb9
        replace HR := Lib.hid (HR.out.below hb9)
        replace hB := hB.below hb9
        replace hC := hC.below hb9
        replace hE := hE.below hb9
        replace sl5 := sl5.below hb9
        replace t1 := t1.below hb9
        replace kx1 := kx1.below hb9 kx1.lt
        replace sl7 := sl7.below hb9
        rw [HHO.out] at t2
        obtain ⟨e1, e2, e3⟩ := t2.isNone
        subst e1 e2 e3
        clear t2
        cases q1 with
        | false =>
          have k2 : At (w9.alloc (.cells #[.slice none 0 0, .slice none 0 0] 29)) w9.heap.size 29 [.slice none 0 0, .slice none 0 0] := At.new_ w9 _ 29 _ rfl
          go_wp2_with (refine wpList_storeB rfl rfl 29 (.tmp 16) (.tmp 101) rfl SealW.clashTy w9.heap.size rfl [.slice A2 0 c2, .slice B2 0 d2] rfl 29 _ k2 rfl rfl slices_one ?_; intro w10 kx2 ox2; have hb10 := kept _ _ _ _ ox2)
          have b10 := b9.trans (hb10.mono b9.size)
          replace hA := hA.below hb10
          replace HR := Lib.hid (HR.out.below hb10)
          replace hB := hB.below hb10
          replace hC := hC.below hb10
          replace hE := hE.below hb10
          replace sl5 := sl5.below hb10
          replace t1 := t1.below hb10
          replace kx1 := kx1.below hb10 kx1.lt
          replace sl7 := sl7.below hb10
          clear k2 ox2
          refine (knows_any _ (HT.out _ b10)).mono ?_
          rintro e wk ⟨rfl, hbk⟩
          have bk := b10.trans (hbk.mono b10.size)
          go_wp2_with fail
          go_ret
          exact ⟨rfl, bk⟩
        | true =>
          have k2 : At (w9.alloc (.cells #[.slice none 0 0, .slice none 0 0] 29)) w9.heap.size 29 [.slice none 0 0, .slice none 0 0] := At.new_ w9 _ 29 _ rfl
          go_wp2_with (refine wpList_storeB rfl rfl 29 (.tmp 16) (.tmp 101) rfl SealW.clashTy w9.heap.size rfl [.slice A2 0 c2, .slice B2 0 d2] rfl 29 _ k2 rfl rfl slices_one ?_; intro w10 kx2 ox2; have hb10 := kept _ _ _ _ ox2; have f2 := (kx1.below hb10 kx1.lt).cell 0; have f3 := (kx1.below hb10 kx1.lt).cell 1)
          have b10 := b9.trans (hb10.mono b9.size)
          replace hA := hA.below hb10
          replace HR := Lib.hid (HR.out.below hb10)
          replace hB := hB.below hb10
          replace hC := hC.below hb10
          replace hE := hE.below hb10
          replace sl5 := sl5.below hb10
          replace t1 := t1.below hb10
          replace kx1 := kx1.below hb10 kx1.lt
          replace sl7 := sl7.below hb10
          clear k2 ox2
          refine (isTold _ (lcx bss (j : Int) xs ps) HGD.out A1 n1 c1 B1 m1 d1 _ (HT.out _ b10) t1).mono ?_
          rintro e w11 ⟨rfl, hb11⟩
          have b11 := b10.trans (hb11.mono b10.size)
          replace hA := hA.below hb11
          replace HR := Lib.hid (HR.out.below hb11)
          replace hB := hB.below hb11
          replace hC := hC.below hb11
          replace hE := hE.below hb11
          replace sl5 := sl5.below hb11
          replace t1 := t1.below hb11
          replace kx1 := kx1.below hb11 kx1.lt
          replace sl7 := sl7.below hb11
          replace kx2 := kx2.below hb11 kx2.lt
          clear f2 f3
          go_wp2_with fail
          refine (knows_any _ (HT.out _ b11)).mono ?_
          rintro e wk ⟨rfl, hbk⟩
          have bk := b11.trans (hbk.mono b11.size)
          go_wp2_with fail
          go_ret
          exact ⟨rfl, bk⟩
      · have e2 : (X.toList == Y.toList) = false := SealW.beq_no (by rw [← HX.out, ← HY.out]; exact fun h => hx (SealW.mk_inj.1 h))
        have hq1 : q1 = true := by
          rw [t1.yes]
          refine lcx_finds ⟨by omega, by rw [HL.out]; omega, HOK.out.2, by rw [HLP.out, HL.out]; exact HOK.out.1⟩ ?_ (by rw [HRW.out]; exact hx)
          rw [HL.out, Nra.out, Nz.out, Nrc.out]; exact hr
        clear hr hx
        subst hq1
        have HVX : Hid (∀ w', Below w5.heap.size w5.drew w' → (convert 23 9 (.slice B lb db)).run Tryd.prog w' = .ok (.string X) w') := fun w' hb => by have := run_str (P := Tryd.prog) w' 23 9 5 SealW.underBytes SealW.underU8 SealW.underStr B xs lb db HLB.out ((hB.below ((Below.refl _ _).drew)).below hb); rwa [HX.out] at this
        have HVY : Hid (∀ w', Below w5.heap.size w5.drew w' → (convert 23 9 (.slice E le de)).run Tryd.prog w' = .ok (.string Y) w') := fun w' hb => by have := run_str (P := Tryd.prog) w' 23 9 5 SealW.underBytes SealW.underU8 SealW.underStr E row le de HLE.out ((hE.below ((Below.refl _ _).drew)).below hb); rwa [HY.out] at this
        have HCJ : Hid (∀ w', Below w5.heap.size w5.drew w' → w'.cell? ⟨ba, oa + j, none⟩ = some (.slice E le de)) := fun w' hb => ((b5.drew.trans (hb.mono b5.drew.size)).cell (p := ⟨ba, oa + j, none⟩) hblt).trans HCJ0.out
        have b6 := b5.drew
        replace hA := hA.below ((Below.refl _ _).drew : Below _ w5 w5.drew)
        replace HR := Lib.hid (HR.out.below ((Below.refl _ _).drew : Below _ w5 w5.drew))
        replace hB := hB.below ((Below.refl _ _).drew : Below _ w5 w5.drew)
        replace hC := hC.below ((Below.refl _ _).drew : Below _ w5 w5.drew)
        replace hE := hE.below ((Below.refl _ _).drew : Below _ w5 w5.drew)
        replace sl5 := sl5.below ((Below.refl _ _).drew : Below _ w5 w5.drew)
        replace t1 := t1.below ((Below.refl _ _).drew : Below _ w5 w5.drew)
        replace kx1 := kx1.below ((Below.refl _ _).drew : Below _ w5 w5.drew) kx1.lt
        refine regB_begin (w5.heap.size) (by kernel_rfl) ?_
        change wpAnyH _ _ _ _ _ 18 #[false, false, false, false, false, false, false, false, false, false, false, false, false, false, false, false, false, false] _ _
        refine regB_take (i := 0) (d := some 60) (v := (.int .i64 0)) rfl rfl (by kernel_rfl) (by kernel_rfl) (by kernel_rfl) (fun _ _ _ h => h) (by rfl) (by intro w' hSw; go_simp) ?_
        try simp only [Act.put, List.setIfInBounds_toArray, List.set_cons_zero, List.set_cons_succ]
        refine regB_take (i := 1) (d := some 61) (v := (.bool true)) rfl rfl (by kernel_rfl) (by kernel_rfl) (by kernel_rfl) (fun _ _ _ h => h) (by rfl) (by intro w' hSw; go_simp) ?_
        try simp only [Act.put, List.setIfInBounds_toArray, List.set_cons_zero, List.set_cons_succ]
        refine regB_take (i := 2) (d := some 62) (v := (.bool true)) rfl rfl (by kernel_rfl) (by kernel_rfl) (by kernel_rfl) (fun _ _ _ h => h) (by rfl) (by intro w' hSw; go_simp) ?_
        try simp only [Act.put, List.setIfInBounds_toArray, List.set_cons_zero, List.set_cons_succ]
        refine regB_take (i := 3) (d := some 63) (v := (.string rc)) rfl rfl (by kernel_rfl) (by kernel_rfl) (by kernel_rfl) (fun _ _ _ h => h) (by rfl) (by intro w' hSw; go_simp) ?_
        try simp only [Act.put, List.setIfInBounds_toArray, List.set_cons_zero, List.set_cons_succ]
        refine regB_take (i := 4) (d := some 64) (v := (.slice A5 l c5)) rfl rfl (by kernel_rfl) (by kernel_rfl) (by kernel_rfl) (fun _ _ _ h => h) (by rfl) (by intro w' hSw; go_simp) ?_
        try simp only [Act.put, List.setIfInBounds_toArray, List.set_cons_zero, List.set_cons_succ]
        refine regB_call (i := 5) rfl (by kernel_rfl) (by rfl) fun K hK => ?_
        go_simp
        refine (refRoot_any l A5 l c5 (bss.map lf) (Nat.le_refl _) _ HMA.out sl5 (lf_digs bss) hc5 (by omega)).mono ?_
        rintro e w7 ⟨rfl, hb7⟩
        have b7 := b6.trans (hb7.mono b6.size)
        replace hA := hA.below hb7
        replace HR := Lib.hid (HR.out.below hb7)
        replace hB := hB.below hb7
        replace hC := hC.below hb7
        replace hE := hE.below hb7
        replace sl5 := sl5.below hb7
        replace t1 := t1.below hb7
        replace kx1 := kx1.below hb7 kx1.lt
        replace HVX := Lib.hid (fun w' (hb : Below w5.heap.size w7 w') => HVX.out w' ((show Below w5.heap.size w5.drew w7 from hb7).trans hb))
        replace HVY := Lib.hid (fun w' (hb : Below w5.heap.size w7 w') => HVY.out w' ((show Below w5.heap.size w5.drew w7 from hb7).trans hb))
        replace HCJ := Lib.hid (fun w' (hb : Below w5.heap.size w7 w') => HCJ.out w' ((show Below w5.heap.size w5.drew w7 from hb7).trans hb))
        refine hK.out _ _ hb7 ?_
        rw [Nra.out]
        clear hK K
        try simp only [List.setIfInBounds_toArray, List.set_cons_zero, List.set_cons_succ]
        refine regB_take (i := 6) (d := some 66) (v := (.bool true)) rfl rfl (by kernel_rfl) (by kernel_rfl) (by kernel_rfl) (fun _ _ _ h => h) (by rfl) (by intro w' hSw; go_simp) ?_
        try simp only [Act.put, List.setIfInBounds_toArray, List.set_cons_zero, List.set_cons_succ]
        refine regB_take (i := 7) (d := some 67) (v := (.bool true)) rfl rfl (by kernel_rfl) (by kernel_rfl) (by kernel_rfl) (fun _ _ _ h => h) (by rfl) (by intro w' hSw; go_simp) ?_
        try simp only [Act.put, List.setIfInBounds_toArray, List.set_cons_zero, List.set_cons_succ]
        refine regB_take (i := 8) (d := some 68) (v := (.bool true)) rfl rfl (by kernel_rfl) (by kernel_rfl) (by kernel_rfl) (fun _ _ _ h => h) (by rfl) (by intro w' hSw; go_simp) ?_
        try simp only [Act.put, List.setIfInBounds_toArray, List.set_cons_zero, List.set_cons_succ]
        refine regB_take (i := 9) (d := some 69) (v := (.slice B lb db)) rfl rfl (by kernel_rfl) (by kernel_rfl) (by kernel_rfl) (fun _ _ _ h => h) (by rfl) (by intro w' hSw; go_simp) ?_
        try simp only [Act.put, List.setIfInBounds_toArray, List.set_cons_zero, List.set_cons_succ]
        refine regB_take (i := 10) (d := some 70) (v := (.string X)) rfl rfl (by kernel_rfl) (by kernel_rfl) (by kernel_rfl) (fun _ _ _ h => h) (by rfl) (by intro w' hSw; have h9 := HVX.out w' hSw; go_simp) ?_
        try simp only [Act.put, List.setIfInBounds_toArray, List.set_cons_zero, List.set_cons_succ]
        refine regB_take (i := 11) (d := some 71) (v := (.slice (some ⟨ba, oa, none⟩) l c)) rfl rfl (by kernel_rfl) (by kernel_rfl) (by kernel_rfl) (fun _ _ _ h => h) (by rfl) (by intro w' hSw; go_simp) ?_
        try simp only [Act.put, List.setIfInBounds_toArray, List.set_cons_zero, List.set_cons_succ]
        refine regB_take (i := 12) (d := some 72) (v := (.int .i64 (j : Int))) rfl rfl (by kernel_rfl) (by kernel_rfl) (by kernel_rfl) (fun _ _ _ h => h) (by rfl) (by intro w' hSw; go_simp) ?_
        try simp only [Act.put, List.setIfInBounds_toArray, List.set_cons_zero, List.set_cons_succ]
        refine regB_take (i := 13) (d := some 73) (v := (.pointer (some ⟨ba, oa + j, none⟩))) rfl rfl (by kernel_rfl) (by kernel_rfl) (by kernel_rfl) (fun _ _ _ h => h) (by rfl) (by intro w' hSw; go_simp) ?_
        try simp only [Act.put, List.setIfInBounds_toArray, List.set_cons_zero, List.set_cons_succ]
        refine regB_take (i := 14) (d := some 74) (v := (.slice E le de)) rfl rfl (by kernel_rfl) (by kernel_rfl) (by kernel_rfl) (fun _ _ _ h => h) (by rfl) (by intro w' hSw; have h9 := HCJ.out w' hSw; go_simp) ?_
        try simp only [Act.put, List.setIfInBounds_toArray, List.set_cons_zero, List.set_cons_succ]
        refine regB_take (i := 15) (d := some 75) (v := (.string Y)) rfl rfl (by kernel_rfl) (by kernel_rfl) (by kernel_rfl) (fun _ _ _ h => h) (by rfl) (by intro w' hSw; have h9 := HVY.out w' hSw; go_simp) ?_
        try simp only [Act.put, List.setIfInBounds_toArray, List.set_cons_zero, List.set_cons_succ]
        refine regB_take (i := 16) (d := some 76) (v := (.bool true)) rfl rfl (by kernel_rfl) (by kernel_rfl) (by kernel_rfl) (fun _ _ _ h => h) (by rfl) (by intro w' hSw; go_simp) ?_
        try simp only [Act.put, List.setIfInBounds_toArray, List.set_cons_zero, List.set_cons_succ]
        refine regB_take (i := 17) (d := some 77) (v := (.bool true)) rfl rfl (by kernel_rfl) (by kernel_rfl) (by kernel_rfl) (fun _ _ _ h => h) (by rfl) (by intro w' hSw; go_simp) ?_
        try simp only [Act.put, List.setIfInBounds_toArray, List.set_cons_zero, List.set_cons_succ]
        refine wpAnyH_done (by kernel_rfl) ?_ _
        clear HVX HVY HCJ
        clear e1 e2
        have f2 := kx1.cell 0
        have f3 := kx1.cell 1
        go_wp2_with fail
        refine (isTold _ (lcx bss (j : Int) xs ps) HGD.out A1 n1 c1 B1 m1 d1 _ (HT.out _ b7) t1).mono ?_
        rintro e w8 ⟨rfl, hb8⟩
        have b8 := b7.trans (hb8.mono b7.size)
        replace hA := hA.below hb8
        replace HR := Lib.hid (HR.out.below hb8)
        replace hB := hB.below hb8
        replace hC := hC.below hb8
        replace hE := hE.below hb8
        replace sl5 := sl5.below hb8
        replace t1 := t1.below hb8
        replace kx1 := kx1.below hb8 kx1.lt
        clear f2 f3
        go_wp2_with fail
        refine (knows_any _ (HT.out _ b8)).mono ?_
        rintro e wk ⟨rfl, hbk⟩
        have bk := b8.trans (hbk.mono b8.size)
        go_wp2_with fail
        go_ret
        exact ⟨rfl, bk⟩
    · have e1 := SealW.beq_no hr
      clear hr
      have HVX : Hid (∀ w', Below w5.heap.size w5.drew w' → (convert 23 9 (.slice B lb db)).run Tryd.prog w' = .ok (.string X) w') := fun w' hb => by have := run_str (P := Tryd.prog) w' 23 9 5 SealW.underBytes SealW.underU8 SealW.underStr B xs lb db HLB.out ((hB.below ((Below.refl _ _).drew)).below hb); rwa [HX.out] at this
      have HVY : Hid (∀ w', Below w5.heap.size w5.drew w' → (convert 23 9 (.slice E le de)).run Tryd.prog w' = .ok (.string Y) w') := fun w' hb => by have := run_str (P := Tryd.prog) w' 23 9 5 SealW.underBytes SealW.underU8 SealW.underStr E row le de HLE.out ((hE.below ((Below.refl _ _).drew)).below hb); rwa [HY.out] at this
      have HCJ : Hid (∀ w', Below w5.heap.size w5.drew w' → w'.cell? ⟨ba, oa + j, none⟩ = some (.slice E le de)) := fun w' hb => ((b5.drew.trans (hb.mono b5.drew.size)).cell (p := ⟨ba, oa + j, none⟩) hblt).trans HCJ0.out
      have b6 := b5.drew
      replace hA := hA.below ((Below.refl _ _).drew : Below _ w5 w5.drew)
      replace HR := Lib.hid (HR.out.below ((Below.refl _ _).drew : Below _ w5 w5.drew))
      replace hB := hB.below ((Below.refl _ _).drew : Below _ w5 w5.drew)
      replace hC := hC.below ((Below.refl _ _).drew : Below _ w5 w5.drew)
      replace hE := hE.below ((Below.refl _ _).drew : Below _ w5 w5.drew)
      replace sl5 := sl5.below ((Below.refl _ _).drew : Below _ w5 w5.drew)
      replace t1 := t1.below ((Below.refl _ _).drew : Below _ w5 w5.drew)
      replace kx1 := kx1.below ((Below.refl _ _).drew : Below _ w5 w5.drew) kx1.lt
      refine regB_begin (w5.heap.size) (by kernel_rfl) ?_
      change wpAnyH _ _ _ _ _ 18 #[false, false, false, false, false, false, false, false, false, false, false, false, false, false, false, false, false, false] _ _
      refine regB_take (i := 0) (d := some 60) (v := (.int .i64 0)) rfl rfl (by kernel_rfl) (by kernel_rfl) (by kernel_rfl) (fun _ _ _ h => h) (by rfl) (by intro w' hSw; go_simp) ?_
      try simp only [Act.put, List.setIfInBounds_toArray, List.set_cons_zero, List.set_cons_succ]
      refine regB_take (i := 1) (d := some 61) (v := (.bool true)) rfl rfl (by kernel_rfl) (by kernel_rfl) (by kernel_rfl) (fun _ _ _ h => h) (by rfl) (by intro w' hSw; go_simp) ?_
      try simp only [Act.put, List.setIfInBounds_toArray, List.set_cons_zero, List.set_cons_succ]
      refine regB_take (i := 2) (d := some 62) (v := (.bool true)) rfl rfl (by kernel_rfl) (by kernel_rfl) (by kernel_rfl) (fun _ _ _ h => h) (by rfl) (by intro w' hSw; go_simp) ?_
      try simp only [Act.put, List.setIfInBounds_toArray, List.set_cons_zero, List.set_cons_succ]
      refine regB_take (i := 3) (d := some 63) (v := (.string rc)) rfl rfl (by kernel_rfl) (by kernel_rfl) (by kernel_rfl) (fun _ _ _ h => h) (by rfl) (by intro w' hSw; go_simp) ?_
      try simp only [Act.put, List.setIfInBounds_toArray, List.set_cons_zero, List.set_cons_succ]
      refine regB_take (i := 4) (d := some 64) (v := (.slice A5 l c5)) rfl rfl (by kernel_rfl) (by kernel_rfl) (by kernel_rfl) (fun _ _ _ h => h) (by rfl) (by intro w' hSw; go_simp) ?_
      try simp only [Act.put, List.setIfInBounds_toArray, List.set_cons_zero, List.set_cons_succ]
      refine regB_call (i := 5) rfl (by kernel_rfl) (by rfl) fun K hK => ?_
      go_simp
      refine (refRoot_any l A5 l c5 (bss.map lf) (Nat.le_refl _) _ HMA.out sl5 (lf_digs bss) hc5 (by omega)).mono ?_
      rintro e w7 ⟨rfl, hb7⟩
      have b7 := b6.trans (hb7.mono b6.size)
      replace hA := hA.below hb7
      replace HR := Lib.hid (HR.out.below hb7)
      replace hB := hB.below hb7
      replace hC := hC.below hb7
      replace hE := hE.below hb7
      replace sl5 := sl5.below hb7
      replace t1 := t1.below hb7
      replace kx1 := kx1.below hb7 kx1.lt
      replace HVX := Lib.hid (fun w' (hb : Below w5.heap.size w7 w') => HVX.out w' ((show Below w5.heap.size w5.drew w7 from hb7).trans hb))
      replace HVY := Lib.hid (fun w' (hb : Below w5.heap.size w7 w') => HVY.out w' ((show Below w5.heap.size w5.drew w7 from hb7).trans hb))
      replace HCJ := Lib.hid (fun w' (hb : Below w5.heap.size w7 w') => HCJ.out w' ((show Below w5.heap.size w5.drew w7 from hb7).trans hb))
      refine hK.out _ _ hb7 ?_
      rw [Nra.out]
      clear hK K
      try simp only [List.setIfInBounds_toArray, List.set_cons_zero, List.set_cons_succ]
      refine regB_take (i := 6) (d := some 66) (v := (.bool false)) rfl rfl (by kernel_rfl) (by kernel_rfl) (by kernel_rfl) (fun _ _ _ h => h) (by rfl) (by intro w' hSw; go_simp) ?_
      try simp only [Act.put, List.setIfInBounds_toArray, List.set_cons_zero, List.set_cons_succ]
      refine regB_take (i := 7) (d := some 67) (v := (.bool false)) rfl rfl (by kernel_rfl) (by kernel_rfl) (by kernel_rfl) (fun _ _ _ h => h) (by rfl) (by intro w' hSw; go_simp) ?_
      try simp only [Act.put, List.setIfInBounds_toArray, List.set_cons_zero, List.set_cons_succ]
      refine regB_take (i := 8) (d := some 68) (v := (.bool false)) rfl rfl (by kernel_rfl) (by kernel_rfl) (by kernel_rfl) (fun _ _ _ h => h) (by rfl) (by intro w' hSw; go_simp) ?_
      try simp only [Act.put, List.setIfInBounds_toArray, List.set_cons_zero, List.set_cons_succ]
      refine regB_skip (i := 9) (d := some 69) rfl rfl (by kernel_rfl) (by kernel_rfl) (by kernel_rfl) (fun _ _ _ h => h) (by rfl) ?_
      try simp only [Act.put, List.setIfInBounds_toArray, List.set_cons_zero, List.set_cons_succ]
      refine regB_skip (i := 10) (d := some 70) rfl rfl (by kernel_rfl) (by kernel_rfl) (by kernel_rfl) (fun _ _ _ h => h) (by rfl) ?_
      try simp only [Act.put, List.setIfInBounds_toArray, List.set_cons_zero, List.set_cons_succ]
      refine regB_skip (i := 11) (d := some 71) rfl rfl (by kernel_rfl) (by kernel_rfl) (by kernel_rfl) (fun _ _ _ h => h) (by rfl) ?_
      try simp only [Act.put, List.setIfInBounds_toArray, List.set_cons_zero, List.set_cons_succ]
      refine regB_skip (i := 12) (d := some 72) rfl rfl (by kernel_rfl) (by kernel_rfl) (by kernel_rfl) (fun _ _ _ h => h) (by rfl) ?_
      try simp only [Act.put, List.setIfInBounds_toArray, List.set_cons_zero, List.set_cons_succ]
      refine regB_skip (i := 13) (d := some 73) rfl rfl (by kernel_rfl) (by kernel_rfl) (by kernel_rfl) (fun _ _ _ h => h) (by rfl) ?_
      try simp only [Act.put, List.setIfInBounds_toArray, List.set_cons_zero, List.set_cons_succ]
      refine regB_skip (i := 14) (d := some 74) rfl rfl (by kernel_rfl) (by kernel_rfl) (by kernel_rfl) (fun _ _ _ h => h) (by rfl) ?_
      try simp only [Act.put, List.setIfInBounds_toArray, List.set_cons_zero, List.set_cons_succ]
      refine regB_skip (i := 15) (d := some 75) rfl rfl (by kernel_rfl) (by kernel_rfl) (by kernel_rfl) (fun _ _ _ h => h) (by rfl) ?_
      try simp only [Act.put, List.setIfInBounds_toArray, List.set_cons_zero, List.set_cons_succ]
      refine regB_skip (i := 16) (d := some 76) rfl rfl (by kernel_rfl) (by kernel_rfl) (by kernel_rfl) (fun _ _ _ h => h) (by rfl) ?_
      try simp only [Act.put, List.setIfInBounds_toArray, List.set_cons_zero, List.set_cons_succ]
      refine regB_take (i := 17) (d := some 77) (v := (.bool false)) rfl rfl (by kernel_rfl) (by kernel_rfl) (by kernel_rfl) (fun _ _ _ h => h) (by rfl) (by intro w' hSw; go_simp) ?_
      try simp only [Act.put, List.setIfInBounds_toArray, List.set_cons_zero, List.set_cons_succ]
      refine wpAnyH_done (by kernel_rfl) ?_ _
      clear HVX HVY HCJ
      clear e1
      go_wp2_with fail
      refine (path_ok A5 l c5 (bss.map lf) j _ (HT.out _ b7) HMA.out sl5 (lf_digs bss) hj hc5 (by omega)).mono ?_
      rintro e w8 ⟨v7, rfl, hown7, hb8⟩
      have b8 := b7.trans (hb8.mono b7.size)
      replace hA := hA.below hb8
      replace HR := Lib.hid (HR.out.below hb8)
      replace hB := hB.below hb8
      replace hC := hC.below hb8
      replace hE := hE.below hb8
      replace sl5 := sl5.below hb8
      replace t1 := t1.below hb8
      replace kx1 := kx1.below hb8 kx1.lt
      obtain ⟨A7, c7, rfl, sl7, hc7, hm7, _⟩ := hown7.slice
      obtain ⟨p, hp⟩ : ∃ p, (path nd ed (bss.map lf) j).length = p := ⟨_, rfl⟩
      have HPL := Lib.hid hp
      rw [hp] at hc7 ⊢
      have hm8 : c7 ≤ 9223372036854775807 := by unfold maxLen at hm7; omega
      change Sl _ A7 (scells _) at sl7
      clear hown7 hp hm7
      have hcj2 := (b8.cell (p := ⟨ba, oa + j, none⟩) hblt).trans HCJ0.out
      go_wp2_with fail
      clear hcj2
      refine (Leaf_any (some ⟨ba, oa, none⟩) l c vs bss (j : Int) E le de row A7 p c7 (path nd ed (bss.map lf) j) _ (HT.out _ b8) HL.out hA HR.out hlc (by omega) HBDa.out HLE.out hE hEd (by unfold maxLen at hde; omega) (by rw [HLE.out]; exact HEZ.out) HPL.out sl7 hc7 hm8).mono ?_
      rintro e w9 ⟨A2, n2, c2, B2, m2, d2, q2, rfl, t2, hb9⟩
      have b9 := b8.trans (hb9.mono b8.size)
      replace hA := hA.below hb9
      replace HR := Lib.hid (HR.out.below hb9)
      replace hB := hB.below hb9
      replace hC := hC.below hb9
      replace hE := hE.below hb9
      replace sl5 := sl5.below hb9
      replace t1 := t1.below hb9
      replace kx1 := kx1.below hb9 kx1.lt
      replace sl7 := sl7.below hb9
      rw [HHO.out] at t2
      obtain ⟨e1, e2, e3⟩ := t2.isNone
      subst e1 e2 e3
      clear t2
      cases q1 with
      | false =>
        have k2 : At (w9.alloc (.cells #[.slice none 0 0, .slice none 0 0] 29)) w9.heap.size 29 [.slice none 0 0, .slice none 0 0] := At.new_ w9 _ 29 _ rfl
        go_wp2_with (refine wpList_storeB rfl rfl 29 (.tmp 16) (.tmp 101) rfl SealW.clashTy w9.heap.size rfl [.slice A2 0 c2, .slice B2 0 d2] rfl 29 _ k2 rfl rfl slices_one ?_; intro w10 kx2 ox2; have hb10 := kept _ _ _ _ ox2)
        have b10 := b9.trans (hb10.mono b9.size)
        replace hA := hA.below hb10
        replace HR := Lib.hid (HR.out.below hb10)
        replace hB := hB.below hb10
        replace hC := hC.below hb10
        replace hE := hE.below hb10
        replace sl5 := sl5.below hb10
        replace t1 := t1.below hb10
        replace kx1 := kx1.below hb10 kx1.lt
        replace sl7 := sl7.below hb10
        clear k2 ox2
        refine (knows_any _ (HT.out _ b10)).mono ?_
        rintro e wk ⟨rfl, hbk⟩
        have bk := b10.trans (hbk.mono b10.size)
        go_wp2_with fail
        go_ret
        exact ⟨rfl, bk⟩
      | true =>
        have k2 : At (w9.alloc (.cells #[.slice none 0 0, .slice none 0 0] 29)) w9.heap.size 29 [.slice none 0 0, .slice none 0 0] := At.new_ w9 _ 29 _ rfl
        go_wp2_with (refine wpList_storeB rfl rfl 29 (.tmp 16) (.tmp 101) rfl SealW.clashTy w9.heap.size rfl [.slice A2 0 c2, .slice B2 0 d2] rfl 29 _ k2 rfl rfl slices_one ?_; intro w10 kx2 ox2; have hb10 := kept _ _ _ _ ox2; have f2 := (kx1.below hb10 kx1.lt).cell 0; have f3 := (kx1.below hb10 kx1.lt).cell 1)
        have b10 := b9.trans (hb10.mono b9.size)
        replace hA := hA.below hb10
        replace HR := Lib.hid (HR.out.below hb10)
        replace hB := hB.below hb10
        replace hC := hC.below hb10
        replace hE := hE.below hb10
        replace sl5 := sl5.below hb10
        replace t1 := t1.below hb10
        replace kx1 := kx1.below hb10 kx1.lt
        replace sl7 := sl7.below hb10
        clear k2 ox2
        refine (isTold _ (lcx bss (j : Int) xs ps) HGD.out A1 n1 c1 B1 m1 d1 _ (HT.out _ b10) t1).mono ?_
        rintro e w11 ⟨rfl, hb11⟩
        have b11 := b10.trans (hb11.mono b10.size)
        replace hA := hA.below hb11
        replace HR := Lib.hid (HR.out.below hb11)
        replace hB := hB.below hb11
        replace hC := hC.below hb11
        replace hE := hE.below hb11
        replace sl5 := sl5.below hb11
        replace t1 := t1.below hb11
        replace kx1 := kx1.below hb11 kx1.lt
        replace sl7 := sl7.below hb11
        replace kx2 := kx2.below hb11 kx2.lt
        clear f2 f3
        go_wp2_with fail
        refine (knows_any _ (HT.out _ b11)).mono ?_
        rintro e wk ⟨rfl, hbk⟩
        have bk := b11.trans (hbk.mono b11.size)
        go_wp2_with fail
        go_ret
        exact ⟨rfl, bk⟩
  · have HOK : Hid (lp ≠ steps j l ∨ ¬ Digs ps) := by
      by_cases h : lp = steps j l
      · exact .inr (fun hd => hok ⟨h, hd⟩)
      · exact .inl h
    clear hok
    refine (climb_proof z j l C lp cp ps _ Zz.out hj (by omega) HLP.out hC (by omega) HOK.out).mono ?_
    rintro e w3 ⟨rfl, hb3⟩
    have b3 := b2.trans (hb3.mono b2.size)
    replace hA := hA.below hb3
    replace HR := Lib.hid (HR.out.below hb3)
    replace hB := hB.below hb3
    replace hC := hC.below hb3
    replace hE := hE.below hb3
    replace sl5 := sl5.below hb3
    go_wp2_with fail
    refine (Leaf_any (some ⟨ba, oa, none⟩) l c vs bss (j : Int) B lb db xs C lp cp ps _ (HT.out _ b3) HL.out hA HR.out hlc (by omega) HBDa.out HLB.out hB hlbd hdb (by rw [HLB.out]; omega) HLP.out hC hlpc hcp).mono ?_
    rintro e w4 ⟨A1, n1, c1, B1, m1, d1, q1, rfl, t1, hb4⟩
    have b4 := b3.trans (hb4.mono b3.size)
    replace hA := hA.below hb4
    replace HR := Lib.hid (HR.out.below hb4)
    replace hB := hB.below hb4
    replace hC := hC.below hb4
    replace hE := hE.below hb4
    replace sl5 := sl5.below hb4
    have k1 : At (w4.alloc (.cells #[.slice none 0 0, .slice none 0 0] 29)) w4.heap.size 29 [.slice none 0 0, .slice none 0 0] := At.new_ w4 _ 29 _ rfl
    go_wp2_with (refine wpList_storeB rfl rfl 29 (.tmp 12) (.tmp 58) rfl SealW.clashTy w4.heap.size rfl [.slice A1 n1 c1, .slice B1 m1 d1] rfl 29 _ k1 rfl rfl slices_one ?_; intro w5 kx1 ox1; have hb5 := kept _ _ _ _ ox1)
    have b5 := b4.trans (hb5.mono b4.size)
    replace hA := hA.below hb5
    replace HR := Lib.hid (HR.out.below hb5)
    replace hB := hB.below hb5
    replace hC := hC.below hb5
    replace hE := hE.below hb5
    replace sl5 := sl5.below hb5
    replace t1 := t1.below hb5
    clear k1 ox1
    have b6 := b5.drew
    replace hA := hA.below ((Below.refl _ _).drew : Below _ w5 w5.drew)
    replace HR := Lib.hid (HR.out.below ((Below.refl _ _).drew : Below _ w5 w5.drew))
    replace hB := hB.below ((Below.refl _ _).drew : Below _ w5 w5.drew)
    replace hC := hC.below ((Below.refl _ _).drew : Below _ w5 w5.drew)
    replace hE := hE.below ((Below.refl _ _).drew : Below _ w5 w5.drew)
    replace sl5 := sl5.below ((Below.refl _ _).drew : Below _ w5 w5.drew)
    replace t1 := t1.below ((Below.refl _ _).drew : Below _ w5 w5.drew)
    replace kx1 := kx1.below ((Below.refl _ _).drew : Below _ w5 w5.drew) kx1.lt
    refine regB_begin (w5.heap.size) (by kernel_rfl) ?_
    change wpAnyH _ _ _ _ _ 18 #[false, false, false, false, false, false, false, false, false, false, false, false, false, false, false, false, false, false] _ _
    refine regB_take (i := 0) (d := some 60) (v := (.int .i64 6)) rfl rfl (by kernel_rfl) (by kernel_rfl) (by kernel_rfl) (fun _ _ _ h => h) (by rfl) (by intro w' hSw; go_simp) ?_
    try simp only [Act.put, List.setIfInBounds_toArray, List.set_cons_zero, List.set_cons_succ]
    refine regB_take (i := 1) (d := some 61) (v := (.bool false)) rfl rfl (by kernel_rfl) (by kernel_rfl) (by kernel_rfl) (fun _ _ _ h => h) (by rfl) (by intro w' hSw; go_simp) ?_
    try simp only [Act.put, List.setIfInBounds_toArray, List.set_cons_zero, List.set_cons_succ]
    refine regB_take (i := 2) (d := some 62) (v := (.bool false)) rfl rfl (by kernel_rfl) (by kernel_rfl) (by kernel_rfl) (fun _ _ _ h => h) (by rfl) (by intro w' hSw; go_simp) ?_
    try simp only [Act.put, List.setIfInBounds_toArray, List.set_cons_zero, List.set_cons_succ]
    refine regB_skip (i := 3) (d := some 63) rfl rfl (by kernel_rfl) (by kernel_rfl) (by kernel_rfl) (fun _ _ _ h => h) (by rfl) ?_
    try simp only [Act.put, List.setIfInBounds_toArray, List.set_cons_zero, List.set_cons_succ]
    refine regB_skip (i := 4) (d := some 64) rfl rfl (by kernel_rfl) (by kernel_rfl) (by kernel_rfl) (fun _ _ _ h => h) (by rfl) ?_
    try simp only [Act.put, List.setIfInBounds_toArray, List.set_cons_zero, List.set_cons_succ]
    refine regB_skip (i := 5) (d := some 65) rfl rfl (by kernel_rfl) (by kernel_rfl) (by kernel_rfl) (fun _ _ _ h => h) (by rfl) ?_
    try simp only [Act.put, List.setIfInBounds_toArray, List.set_cons_zero, List.set_cons_succ]
    refine regB_skip (i := 6) (d := some 66) rfl rfl (by kernel_rfl) (by kernel_rfl) (by kernel_rfl) (fun _ _ _ h => h) (by rfl) ?_
    try simp only [Act.put, List.setIfInBounds_toArray, List.set_cons_zero, List.set_cons_succ]
    refine regB_take (i := 7) (d := some 67) (v := (.bool false)) rfl rfl (by kernel_rfl) (by kernel_rfl) (by kernel_rfl) (fun _ _ _ h => h) (by rfl) (by intro w' hSw; go_simp) ?_
    try simp only [Act.put, List.setIfInBounds_toArray, List.set_cons_zero, List.set_cons_succ]
    refine regB_take (i := 8) (d := some 68) (v := (.bool false)) rfl rfl (by kernel_rfl) (by kernel_rfl) (by kernel_rfl) (fun _ _ _ h => h) (by rfl) (by intro w' hSw; go_simp) ?_
    try simp only [Act.put, List.setIfInBounds_toArray, List.set_cons_zero, List.set_cons_succ]
    refine regB_skip (i := 9) (d := some 69) rfl rfl (by kernel_rfl) (by kernel_rfl) (by kernel_rfl) (fun _ _ _ h => h) (by rfl) ?_
    try simp only [Act.put, List.setIfInBounds_toArray, List.set_cons_zero, List.set_cons_succ]
    refine regB_skip (i := 10) (d := some 70) rfl rfl (by kernel_rfl) (by kernel_rfl) (by kernel_rfl) (fun _ _ _ h => h) (by rfl) ?_
    try simp only [Act.put, List.setIfInBounds_toArray, List.set_cons_zero, List.set_cons_succ]
    refine regB_skip (i := 11) (d := some 71) rfl rfl (by kernel_rfl) (by kernel_rfl) (by kernel_rfl) (fun _ _ _ h => h) (by rfl) ?_
    try simp only [Act.put, List.setIfInBounds_toArray, List.set_cons_zero, List.set_cons_succ]
    refine regB_skip (i := 12) (d := some 72) rfl rfl (by kernel_rfl) (by kernel_rfl) (by kernel_rfl) (fun _ _ _ h => h) (by rfl) ?_
    try simp only [Act.put, List.setIfInBounds_toArray, List.set_cons_zero, List.set_cons_succ]
    refine regB_skip (i := 13) (d := some 73) rfl rfl (by kernel_rfl) (by kernel_rfl) (by kernel_rfl) (fun _ _ _ h => h) (by rfl) ?_
    try simp only [Act.put, List.setIfInBounds_toArray, List.set_cons_zero, List.set_cons_succ]
    refine regB_skip (i := 14) (d := some 74) rfl rfl (by kernel_rfl) (by kernel_rfl) (by kernel_rfl) (fun _ _ _ h => h) (by rfl) ?_
    try simp only [Act.put, List.setIfInBounds_toArray, List.set_cons_zero, List.set_cons_succ]
    refine regB_skip (i := 15) (d := some 75) rfl rfl (by kernel_rfl) (by kernel_rfl) (by kernel_rfl) (fun _ _ _ h => h) (by rfl) ?_
    try simp only [Act.put, List.setIfInBounds_toArray, List.set_cons_zero, List.set_cons_succ]
    refine regB_skip (i := 16) (d := some 76) rfl rfl (by kernel_rfl) (by kernel_rfl) (by kernel_rfl) (fun _ _ _ h => h) (by rfl) ?_
    try simp only [Act.put, List.setIfInBounds_toArray, List.set_cons_zero, List.set_cons_succ]
    refine regB_take (i := 17) (d := some 77) (v := (.bool false)) rfl rfl (by kernel_rfl) (by kernel_rfl) (by kernel_rfl) (fun _ _ _ h => h) (by rfl) (by intro w' hSw; go_simp) ?_
    try simp only [Act.put, List.setIfInBounds_toArray, List.set_cons_zero, List.set_cons_succ]
    refine wpAnyH_done (by kernel_rfl) ?_ _
    go_wp2_with fail
    refine (path_ok A5 l c5 (bss.map lf) j _ (HT.out _ b6) HMA.out sl5 (lf_digs bss) hj hc5 (by omega)).mono ?_
    rintro e w7 ⟨v7, rfl, hown7, hb7⟩
    have b7 := b6.trans (hb7.mono b6.size)
    replace hA := hA.below hb7
    replace HR := Lib.hid (HR.out.below hb7)
    replace hB := hB.below hb7
    replace hC := hC.below hb7
    replace hE := hE.below hb7
    replace sl5 := sl5.below hb7
    replace t1 := t1.below hb7
    replace kx1 := kx1.below hb7 kx1.lt
    obtain ⟨A7, c7, rfl, sl7, hc7, hm7, _⟩ := hown7.slice
    obtain ⟨p, hp⟩ : ∃ p, (path nd ed (bss.map lf) j).length = p := ⟨_, rfl⟩
    have HPL := Lib.hid hp
    rw [hp] at hc7 ⊢
    have hm8 : c7 ≤ 9223372036854775807 := by unfold maxLen at hm7; omega
    change Sl _ A7 (scells _) at sl7
    clear hown7 hp hm7
    have hcj2 := (b7.cell (p := ⟨ba, oa + j, none⟩) hblt).trans HCJ0.out
    go_wp2_with fail
    clear hcj2
    refine (Leaf_any (some ⟨ba, oa, none⟩) l c vs bss (j : Int) E le de row A7 p c7 (path nd ed (bss.map lf) j) _ (HT.out _ b7) HL.out hA HR.out hlc (by omega) HBDa.out HLE.out hE hEd (by unfold maxLen at hde; omega) (by rw [HLE.out]; exact HEZ.out) HPL.out sl7 hc7 hm8).mono ?_
    rintro e w8 ⟨A2, n2, c2, B2, m2, d2, q2, rfl, t2, hb8⟩
    have b8 := b7.trans (hb8.mono b7.size)
    replace hA := hA.below hb8
    replace HR := Lib.hid (HR.out.below hb8)
    replace hB := hB.below hb8
    replace hC := hC.below hb8
    replace hE := hE.below hb8
    replace sl5 := sl5.below hb8
    replace t1 := t1.below hb8
    replace kx1 := kx1.below hb8 kx1.lt
    replace sl7 := sl7.below hb8
    rw [HHO.out] at t2
    obtain ⟨e1, e2, e3⟩ := t2.isNone
    subst e1 e2 e3
    clear t2
    cases q1 with
    | false =>
      have k2 : At (w8.alloc (.cells #[.slice none 0 0, .slice none 0 0] 29)) w8.heap.size 29 [.slice none 0 0, .slice none 0 0] := At.new_ w8 _ 29 _ rfl
      go_wp2_with (refine wpList_storeB rfl rfl 29 (.tmp 16) (.tmp 101) rfl SealW.clashTy w8.heap.size rfl [.slice A2 0 c2, .slice B2 0 d2] rfl 29 _ k2 rfl rfl slices_one ?_; intro w9 kx2 ox2; have hb9 := kept _ _ _ _ ox2)
      have b9 := b8.trans (hb9.mono b8.size)
      replace hA := hA.below hb9
      replace HR := Lib.hid (HR.out.below hb9)
      replace hB := hB.below hb9
      replace hC := hC.below hb9
      replace hE := hE.below hb9
      replace sl5 := sl5.below hb9
      replace t1 := t1.below hb9
      replace kx1 := kx1.below hb9 kx1.lt
      replace sl7 := sl7.below hb9
      clear k2 ox2
      refine (knows_any _ (HT.out _ b9)).mono ?_
      rintro e wk ⟨rfl, hbk⟩
      have bk := b9.trans (hbk.mono b9.size)
      go_wp2_with fail
      go_ret
      exact ⟨rfl, bk⟩
    | true =>
      have k2 : At (w8.alloc (.cells #[.slice none 0 0, .slice none 0 0] 29)) w8.heap.size 29 [.slice none 0 0, .slice none 0 0] := At.new_ w8 _ 29 _ rfl
      go_wp2_with (refine wpList_storeB rfl rfl 29 (.tmp 16) (.tmp 101) rfl SealW.clashTy w8.heap.size rfl [.slice A2 0 c2, .slice B2 0 d2] rfl 29 _ k2 rfl rfl slices_one ?_; intro w9 kx2 ox2; have hb9 := kept _ _ _ _ ox2; have f2 := (kx1.below hb9 kx1.lt).cell 0; have f3 := (kx1.below hb9 kx1.lt).cell 1)
      have b9 := b8.trans (hb9.mono b8.size)
      replace hA := hA.below hb9
      replace HR := Lib.hid (HR.out.below hb9)
      replace hB := hB.below hb9
      replace hC := hC.below hb9
      replace hE := hE.below hb9
      replace sl5 := sl5.below hb9
      replace t1 := t1.below hb9
      replace kx1 := kx1.below hb9 kx1.lt
      replace sl7 := sl7.below hb9
      clear k2 ox2
      refine (isTold _ (lcx bss (j : Int) xs ps) HGD.out A1 n1 c1 B1 m1 d1 _ (HT.out _ b9) t1).mono ?_
      rintro e w10 ⟨rfl, hb10⟩
      have b10 := b9.trans (hb10.mono b9.size)
      replace hA := hA.below hb10
      replace HR := Lib.hid (HR.out.below hb10)
      replace hB := hB.below hb10
      replace hC := hC.below hb10
      replace hE := hE.below hb10
      replace sl5 := sl5.below hb10
      replace t1 := t1.below hb10
      replace kx1 := kx1.below hb10 kx1.lt
      replace sl7 := sl7.below hb10
      replace kx2 := kx2.below hb10 kx2.lt
      clear f2 f3
      go_wp2_with fail
      refine (knows_any _ (HT.out _ b10)).mono ?_
      rintro e wk ⟨rfl, hbk⟩
      have bk := b10.trans (hbk.mono b10.size)
      go_wp2_with fail
      go_ret
      exact ⟨rfl, bk⟩
end Go.Proofs.YtihkfomldbjpoaaDoor.ClW
