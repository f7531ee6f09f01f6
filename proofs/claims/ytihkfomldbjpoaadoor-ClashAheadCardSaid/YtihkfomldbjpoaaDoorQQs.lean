/- ClashAhead. -/
import Derived.Test.YtihkfomldbjpoaaDoorJ7
import Derived.Test.YtihkfomldbjpoaaDoorQQi
import Derived.Test.YtihkfomldbjpoaaDoorQPc
namespace Go.Proofs.YtihkfomldbjpoaaDoor.ClW
open Go.RowKit TreeW ConsW TrW ClashW CoW
open ShaW Sha
set_option maxRecDepth 1000000 in
set_option maxHeartbeats 4000000 in
theorem lawAhead (A : Option Addr) (l c : Nat) (vs : List Value) (bss : List (List UInt8)) (B : Option Addr) (m cb : Nat) (us : List Value) (b : List (List UInt8)) (C : Option Addr) (lp cp : Nat) (ps : List ByteArray) (w : World) (hT : Tab w) (hl : bss.length = l) (hA : Sl w A vs) (hR : RowsAt w vs bss) (hlc : l ≤ c) (hc63 : c ≤ 9223372036854775807) (hlb : b.length = m) (hB : Sl w B us) (hS : RowsAt w us b) (hlcb : m ≤ cb) (hcb63 : cb ≤ 9223372036854775807) (hlp : ps.length = lp) (hC : Sl w C (scells ps)) (hlpc : lp ≤ cp) (hcp : cp ≤ 9223372036854775807) :
    Calls Tryd.prog 8 #[.slice A l c, .slice B m cb, .slice C lp cp] w fun e w' => e = .returned (.bool true) ∧ Below w.heap.size w w' := by
  have hpos := hT.pos
  have HT := Lib.hid (fun W (hb : Below w.heap.size w W) => hT.below hb hpos)
  have b0 : Below w.heap.size w w := Below.refl _ _
  have HL := Lib.hid hl
  have HR := Lib.hid hR
  have HLB := Lib.hid hlb
  have HS := Lib.hid hS
  have HLP := Lib.hid hlp
  by_cases hg0 : Grt8 bss
  · have HGa : Hid (decide (Grt8 bss) = true) := decide_eq_true hg0
    clear hg0 hT hpos
    clear hl hR hlb hS hlp
    go_enter Tryd.func8, Tryd.ntmps8
    go_wp2_with fail
    refine (great8_any A l c vs bss _ HL.out hA HR.out (by omega)).mono ?_
    rintro e w9 ⟨rfl, rfl⟩
    rw [HGa.out]
    go_wp2_with fail
    refine (knows_any _ (HT.out _ b0)).mono ?_
    rintro e wk ⟨rfl, hbk⟩
    have bk := b0.trans (hbk.mono b0.size)
    go_wp2_with fail
    go_ret
    exact ⟨rfl, bk⟩
  have HGa : Hid (decide (Grt8 bss) = false) := decide_eq_false hg0
  have hma : l ≤ 25 := by have := (grt8_no hg0).1; have := HL.out; omega
  have HBDa : Hid (∀ x ∈ bss, x.length ≤ 100000000000) := fun x hx => by have := (grt8_no hg0).2 x hx; omega
  by_cases hg1 : Grt8 b
  · have HGb : Hid (decide (Grt8 b) = true) := decide_eq_true hg1
    clear hg0 hg1 hT hpos
    clear hl hR hlb hS hlp
    go_enter Tryd.func8, Tryd.ntmps8
    go_wp2_with fail
    refine (great8_any A l c vs bss _ HL.out hA HR.out (by omega)).mono ?_
    rintro e w9 ⟨rfl, rfl⟩
    rw [HGa.out]
    go_wp2_with fail
    refine (great8_any B m cb us b _ HLB.out hB HS.out (by omega)).mono ?_
    rintro e w9 ⟨rfl, rfl⟩
    rw [HGb.out]
    go_wp2_with fail
    refine (knows_any _ (HT.out _ b0)).mono ?_
    rintro e wk ⟨rfl, hbk⟩
    have bk := b0.trans (hbk.mono b0.size)
    go_wp2_with fail
    go_ret
    exact ⟨rfl, bk⟩
  have HGb : Hid (decide (Grt8 b) = false) := decide_eq_false hg1
  have hmb : m ≤ 25 := by have := (grt8_no hg1).1; have := HLB.out; omega
  have HBDb : Hid (∀ x ∈ b, x.length ≤ 100000000000) := fun x hx => by have := (grt8_no hg1).2 x hx; omega
  by_cases hg2 : Grt ps
  · have HGP := Lib.hid hg2
    clear hg0 hg1 hg2 hT hpos
    clear hl hR hlb hS hlp
    go_enter Tryd.func8, Tryd.ntmps8
    go_wp2_with fail
    refine (great8_any A l c vs bss _ HL.out hA HR.out (by omega)).mono ?_
    rintro e w9 ⟨rfl, rfl⟩
    rw [HGa.out]
    go_wp2_with fail
    refine (great8_any B m cb us b _ HLB.out hB HS.out (by omega)).mono ?_
    rintro e w9 ⟨rfl, rfl⟩
    rw [HGb.out]
    go_wp2_with fail
    refine (great_yes C lp cp ps _ HLP.out hC (by omega) HGP.out).mono ?_
    rintro e w9 ⟨rfl, rfl⟩
    go_wp2_with fail
    refine (knows_any _ (HT.out _ b0)).mono ?_
    rintro e wk ⟨rfl, hbk⟩
    have bk := b0.trans (hbk.mono b0.size)
    go_wp2_with fail
    go_ret
    exact ⟨rfl, bk⟩
  have HGP := Lib.hid hg2
  by_cases hg3 : m < l
  · have glm : (l : Int) > (m : Int) := by omega
    clear hg0 hg1 hg2 hg3 hT hpos
    clear hl hR hlb hS hlp
    go_enter Tryd.func8, Tryd.ntmps8
    go_wp2_with fail
    refine (great8_any A l c vs bss _ HL.out hA HR.out (by omega)).mono ?_
    rintro e w9 ⟨rfl, rfl⟩
    rw [HGa.out]
    go_wp2_with fail
    refine (great8_any B m cb us b _ HLB.out hB HS.out (by omega)).mono ?_
    rintro e w9 ⟨rfl, rfl⟩
    rw [HGb.out]
    go_wp2_with fail
    refine (great_not C lp cp ps _ HLP.out hC (by omega) HGP.out).mono ?_
    rintro e w9 ⟨rfl, rfl⟩
    go_wp2_with fail
    refine (knows_any _ (HT.out _ b0)).mono ?_
    rintro e wk ⟨rfl, hbk⟩
    have bk := b0.trans (hbk.mono b0.size)
    go_wp2_with fail
    go_ret
    exact ⟨rfl, bk⟩
  have glm : ¬ (l : Int) > (m : Int) := by omega
  have gml : l ≤ m := by omega
  clear hg0 hg1 hg2 hg3 hT hpos
  clear hl hR hlb hS hlp
  have HGD : Hid (Good (cc bss b ps)) := cc_good HBDa.out HBDb.out
  have HMA : Hid ((bss.map lf).length = l) := by show _ = _; rw [List.length_map, HL.out]
  have HMB : Hid ((b.map lf).length = m) := by show _ = _; rw [List.length_map, HLB.out]
  have HTL : Hid ((b.take l).length = l) := by show _ = _; rw [List.length_take, HLB.out]; omega
  have HBDt : Hid (∀ x ∈ b.take l, x.length ≤ 100000000000) := fun x hx => HBDb.out x (List.mem_of_mem_take hx)
  have HHO : Hid (cc (b.take l) b (pv (b.map lf) l) = none) := cc_honest (by rw [HLB.out]; omega)
  have HTO := Lib.hid (fun w9 => run_to (P := Tryd.prog) rowsTy w9 B m cb l .i64 (by omega))
  have ZA : Hid ((rt (bss.map lf)).size = 32) := rt_size _ _ (Nat.le_refl _) (lf_digs bss)
  have ZB : Hid ((rt (b.map lf)).size = 32) := rt_size _ _ (Nat.le_refl _) (lf_digs b)
  obtain ⟨ra, hra⟩ : ∃ r, rt (bss.map lf) = r := ⟨_, rfl⟩
  have Nra := Lib.hid hra
  obtain ⟨rb, hrb⟩ : ∃ r, rt (b.map lf) = r := ⟨_, rfl⟩
  have Nrb := Lib.hid hrb
  rw [hra] at ZA
  rw [hrb] at ZB
  clear hra hrb
  go_enter Tryd.func8, Tryd.ntmps8
  go_wp2_with fail
  refine (great8_any A l c vs bss _ HL.out hA HR.out (by omega)).mono ?_
  rintro e w9 ⟨rfl, rfl⟩
  rw [HGa.out]
  go_wp2_with fail
  refine (great8_any B m cb us b _ HLB.out hB HS.out (by omega)).mono ?_
  rintro e w9 ⟨rfl, rfl⟩
  rw [HGb.out]
  go_wp2_with fail
  refine (great_not C lp cp ps _ HLP.out hC (by omega) HGP.out).mono ?_
  rintro e w9 ⟨rfl, rfl⟩
  go_wp2_with fail
  refine (refLeaves_any A l c vs bss _ HL.out hA HR.out (by omega) (fun x hx => Nat.le_trans (HBDa.out x hx) (by omega))).mono ?_
  rintro e w1 ⟨v5, rfl, hown5, hb1⟩
  have b1 := b0.trans (hb1.mono b0.size)
  replace hA := hA.below hb1
  replace HR := Lib.hid (HR.out.below hb1)
  replace hB := hB.below hb1
  replace HS := Lib.hid (HS.out.below hb1)
  replace hC := hC.below hb1
  obtain ⟨A5, c5, rfl, sl5, hc5, _, _⟩ := hown5.slice
  rw [HMA.out] at hc5 ⊢
  clear hown5
  go_wp2_with fail
  refine (refLeaves_any B m cb us b _ HLB.out hB HS.out (by omega) (fun x hx => Nat.le_trans (HBDb.out x hx) (by omega))).mono ?_
  rintro e w2 ⟨v6, rfl, hown6, hb2⟩
  have b2 := b1.trans (hb2.mono b1.size)
  replace hA := hA.below hb2
  replace HR := Lib.hid (HR.out.below hb2)
  replace hB := hB.below hb2
  replace HS := Lib.hid (HS.out.below hb2)
  replace hC := hC.below hb2
  replace sl5 := sl5.below hb2
  obtain ⟨A6, c6, rfl, sl6, hc6, _, _⟩ := hown6.slice
  rw [HMB.out] at hc6 ⊢
  clear hown6
  go_wp2_with fail
  refine (Cons_any A l c vs bss B m cb us b C lp cp ps _ (HT.out _ b2) HL.out hA HR.out HLB.out hB HS.out hlc hlcb (by omega) (by omega) HBDa.out HBDb.out HLP.out hC hlpc hcp).mono ?_
  rintro e w3 ⟨A1, n1, c1, B1, m1, d1, q1, rfl, t1, hb3⟩
  have b3 := b2.trans (hb3.mono b2.size)
  replace hA := hA.below hb3
  replace HR := Lib.hid (HR.out.below hb3)
  replace hB := hB.below hb3
  replace HS := Lib.hid (HS.out.below hb3)
  replace hC := hC.below hb3
  replace sl5 := sl5.below hb3
  replace sl6 := sl6.below hb3
  have k1 : At (w3.alloc (.cells #[.slice none 0 0, .slice none 0 0] 29)) w3.heap.size 29 [.slice none 0 0, .slice none 0 0] := At.new_ w3 _ 29 _ rfl
  go_wp2_with (refine wpList_storeB rfl rfl 29 (.tmp 9) (.tmp 43) rfl SealW.clashTy w3.heap.size rfl [.slice A1 n1 c1, .slice B1 m1 d1] rfl 29 _ k1 rfl rfl slices_one ?_; intro w4 kx1 ox1; have hb4 := kept _ _ _ _ ox1)
  have b4 := b3.trans (hb4.mono b3.size)
  replace hA := hA.below hb4
  replace HR := Lib.hid (HR.out.below hb4)
  replace hB := hB.below hb4
  replace HS := Lib.hid (HS.out.below hb4)
  replace hC := hC.below hb4
  replace sl5 := sl5.below hb4
  replace sl6 := sl6.below hb4
  replace t1 := t1.below hb4
  clear k1 ox1
  refine (refRoot_any l A5 l c5 (bss.map lf) (Nat.le_refl _) _ HMA.out sl5 (lf_digs bss) hc5 (by omega)).mono ?_
  rintro e w5 ⟨rfl, hb5⟩
  have b5 := b4.trans (hb5.mono b4.size)
  replace hA := hA.below hb5
  replace HR := Lib.hid (HR.out.below hb5)
  replace hB := hB.below hb5
  replace HS := Lib.hid (HS.out.below hb5)
  replace hC := hC.below hb5
  replace sl5 := sl5.below hb5
  replace sl6 := sl6.below hb5
  replace t1 := t1.below hb5
  replace kx1 := kx1.below hb5 kx1.lt
  rw [Nra.out]
  go_wp2_with fail
  refine (refRoot_any m A6 m c6 (b.map lf) (Nat.le_refl _) _ HMB.out sl6 (lf_digs b) hc6 (by omega)).mono ?_
  rintro e w6 ⟨rfl, hb6⟩
  have b6 := b5.trans (hb6.mono b5.size)
  replace hA := hA.below hb6
  replace HR := Lib.hid (HR.out.below hb6)
  replace hB := hB.below hb6
  replace HS := Lib.hid (HS.out.below hb6)
  replace hC := hC.below hb6
  replace sl5 := sl5.below hb6
  replace sl6 := sl6.below hb6
  replace t1 := t1.below hb6
  replace kx1 := kx1.below hb6 kx1.lt
  rw [Nrb.out]
  go_wp2_with fail
  by_cases hok : Digs ps ∧ acc l m ra rb ps
  · have HOK := Lib.hid hok
    clear hok
    refine (Check_yes l m ra rb C lp cp ps _ (HT.out _ b6) (by omega) (by omega) ZA.out ZB.out HLP.out hC hlpc hcp HOK.out.1 HOK.out.2).mono ?_
    rintro e w7 ⟨rfl, hb7⟩
    have b7 := b6.trans (hb7.mono b6.size)
    replace hA := hA.below hb7
    replace HR := Lib.hid (HR.out.below hb7)
    replace hB := hB.below hb7
    replace HS := Lib.hid (HS.out.below hb7)
    replace hC := hC.below hb7
    replace sl5 := sl5.below hb7
    replace sl6 := sl6.below hb7
    replace t1 := t1.below hb7
    replace kx1 := kx1.below hb7 kx1.lt
    have hto := HTO.out
    go_wp2_with fail
    clear hto
    refine (like_any A l c vs bss B cb (us.take l) (b.take l) _ HL.out hA HR.out HTL.out (hB.take l) (rows_take HS.out l) (by omega)).mono ?_
    rintro e w8 ⟨rfl, hb8⟩
    have b8 := b7.trans (hb8.mono b7.size)
    replace hA := hA.below hb8
    replace HR := Lib.hid (HR.out.below hb8)
    replace hB := hB.below hb8
    replace HS := Lib.hid (HS.out.below hb8)
    replace hC := hC.below hb8
    replace sl5 := sl5.below hb8
    replace sl6 := sl6.below hb8
    replace t1 := t1.below hb8
    replace kx1 := kx1.below hb8 kx1.lt
    by_cases hab : bss = b.take l
    · have HLK : Hid (decide (bss = b.take l) = true) := decide_eq_true hab
      clear hab
      rw [HLK.out]
      go_wp2_with fail
      refine (Prove_ok A6 m c6 (b.map lf) l _ (HT.out _ b8) HMB.out sl6 (lf_digs b) (by omega) hc6 (by omega)).mono ?_
      rintro e w9 ⟨v7, rfl, hown7, hb9⟩
      have b9 := b8.trans (hb9.mono b8.size)
      replace hA := hA.below hb9
      replace HR := Lib.hid (HR.out.below hb9)
      replace hB := hB.below hb9
      replace HS := Lib.hid (HS.out.below hb9)
      replace hC := hC.below hb9
      replace sl5 := sl5.below hb9
      replace sl6 := sl6.below hb9
      replace t1 := t1.below hb9
      replace kx1 := kx1.below hb9 kx1.lt
      obtain ⟨A7, c7, rfl, sl7, hc7, hm7, _⟩ := hown7.slice
      obtain ⟨p, hp⟩ : ∃ p, (pv (b.map lf) l).length = p := ⟨_, rfl⟩
      have HPL := Lib.hid hp
      rw [hp] at hc7 ⊢
      have hm8 : c7 ≤ 9223372036854775807 := by unfold maxLen at hm7; omega
      change Sl _ A7 (scells _) at sl7
      clear hown7 hp hm7
      have hto := HTO.out
      go_wp2_with fail
      clear hto
      refine (Cons_any B l cb (us.take l) (b.take l) B m cb us b A7 p c7 (pv (b.map lf) l) _ (HT.out _ b9) HTL.out (hB.take l) (rows_take HS.out l) HLB.out hB HS.out (by omega) hlcb (by omega) (by omega) HBDt.out HBDb.out HPL.out sl7 hc7 hm8).mono ?_
      rintro e w10 ⟨A2, n2, c2, B2, m2, d2, q2, rfl, t2, hb10⟩
      have b10 := b9.trans (hb10.mono b9.size)
      replace hA := hA.below hb10
      replace HR := Lib.hid (HR.out.below hb10)
      replace hB := hB.below hb10
      replace HS := Lib.hid (HS.out.below hb10)
      replace hC := hC.below hb10
      replace sl5 := sl5.below hb10
      replace sl6 := sl6.below hb10
      replace t1 := t1.below hb10
      replace kx1 := kx1.below hb10 kx1.lt
      replace sl7 := sl7.below hb10
      rw [HHO.out] at t2
      obtain ⟨e1, e2, e3⟩ := t2.isNone
      subst e1 e2 e3
      clear t2
      cases q1 with
      | false =>
        have k2 : At (w10.alloc (.cells #[.slice none 0 0, .slice none 0 0] 29)) w10.heap.size 29 [.slice none 0 0, .slice none 0 0] := At.new_ w10 _ 29 _ rfl
        go_wp2_with (refine wpList_storeB rfl rfl 29 (.tmp 14) (.tmp 89) rfl SealW.clashTy w10.heap.size rfl [.slice A2 0 c2, .slice B2 0 d2] rfl 29 _ k2 rfl rfl slices_one ?_; intro w11 kx2 ox2; have hb11 := kept _ _ _ _ ox2)
        have b11 := b10.trans (hb11.mono b10.size)
        replace hA := hA.below hb11
        replace HR := Lib.hid (HR.out.below hb11)
        replace hB := hB.below hb11
        replace HS := Lib.hid (HS.out.below hb11)
        replace hC := hC.below hb11
        replace sl5 := sl5.below hb11
        replace sl6 := sl6.below hb11
        replace t1 := t1.below hb11
        replace kx1 := kx1.below hb11 kx1.lt
        replace sl7 := sl7.below hb11
        clear k2 ox2
        refine (knows_any _ (HT.out _ b11)).mono ?_
        rintro e wk ⟨rfl, hbk⟩
        have bk := b11.trans (hbk.mono b11.size)
        go_wp2_with fail
        go_ret
        exact ⟨rfl, bk⟩
      | true =>
        have k2 : At (w10.alloc (.cells #[.slice none 0 0, .slice none 0 0] 29)) w10.heap.size 29 [.slice none 0 0, .slice none 0 0] := At.new_ w10 _ 29 _ rfl
        go_wp2_with (refine wpList_storeB rfl rfl 29 (.tmp 14) (.tmp 89) rfl SealW.clashTy w10.heap.size rfl [.slice A2 0 c2, .slice B2 0 d2] rfl 29 _ k2 rfl rfl slices_one ?_; intro w11 kx2 ox2; have hb11 := kept _ _ _ _ ox2; have f2 := (kx1.below hb11 kx1.lt).cell 0; have f3 := (kx1.below hb11 kx1.lt).cell 1)
        have b11 := b10.trans (hb11.mono b10.size)
        replace hA := hA.below hb11
        replace HR := Lib.hid (HR.out.below hb11)
        replace hB := hB.below hb11
        replace HS := Lib.hid (HS.out.below hb11)
        replace hC := hC.below hb11
        replace sl5 := sl5.below hb11
        replace sl6 := sl6.below hb11
        replace t1 := t1.below hb11
        replace kx1 := kx1.below hb11 kx1.lt
        replace sl7 := sl7.below hb11
        clear k2 ox2
        refine (isTold _ (cc bss b ps) HGD.out A1 n1 c1 B1 m1 d1 _ (HT.out _ b11) t1).mono ?_
        rintro e w12 ⟨rfl, hb12⟩
        have b12 := b11.trans (hb12.mono b11.size)
        replace hA := hA.below hb12
        replace HR := Lib.hid (HR.out.below hb12)
        replace hB := hB.below hb12
        replace HS := Lib.hid (HS.out.below hb12)
        replace hC := hC.below hb12
        replace sl5 := sl5.below hb12
        replace sl6 := sl6.below hb12
        replace t1 := t1.below hb12
        replace kx1 := kx1.below hb12 kx1.lt
        replace sl7 := sl7.below hb12
        replace kx2 := kx2.below hb12 kx2.lt
        clear f2 f3
        go_wp2_with fail
        refine (knows_any _ (HT.out _ b12)).mono ?_
        rintro e wk ⟨rfl, hbk⟩
        have bk := b12.trans (hbk.mono b12.size)
        go_wp2_with fail
        go_ret
        exact ⟨rfl, bk⟩
    · have HLK : Hid (decide (bss = b.take l) = false) := decide_eq_false hab
      have hq1 : q1 = true := by
        rw [t1.yes]
        refine cc_finds ⟨fun h => hab ?_, by rw [HL.out, HLB.out]; omega, HOK.out.1, by rw [HL.out, HLB.out, Nra.out, Nrb.out]; exact HOK.out.2⟩ (by rw [HL.out]; exact hab)
        have h0 : l = 0 := by rw [← HL.out]; exact h
        rw [List.eq_nil_of_length_eq_zero h, h0]; rfl
      clear hab
      subst hq1
      rw [HLK.out]
      have f2 := kx1.cell 0
      have f3 := kx1.cell 1
      go_wp2_with fail
      refine (isTold _ (cc bss b ps) HGD.out A1 n1 c1 B1 m1 d1 _ (HT.out _ b8) t1).mono ?_
      rintro e w9 ⟨rfl, hb9⟩
      have b9 := b8.trans (hb9.mono b8.size)
      replace hA := hA.below hb9
      replace HR := Lib.hid (HR.out.below hb9)
      replace hB := hB.below hb9
      replace HS := Lib.hid (HS.out.below hb9)
      replace hC := hC.below hb9
      replace sl5 := sl5.below hb9
      replace sl6 := sl6.below hb9
      replace t1 := t1.below hb9
      replace kx1 := kx1.below hb9 kx1.lt
      clear f2 f3
      go_wp2_with fail
      refine (knows_any _ (HT.out _ b9)).mono ?_
      rintro e wk ⟨rfl, hbk⟩
      have bk := b9.trans (hbk.mono b9.size)
      go_wp2_with fail
      go_ret
      exact ⟨rfl, bk⟩
  · have HOK := Lib.hid hok
    clear hok
    refine (Check_no l m ra rb C lp cp ps _ (HT.out _ b6) (by omega) (by omega) ZA.out ZB.out HLP.out hC hlpc hcp HOK.out).mono ?_
    rintro e w7 ⟨rfl, hb7⟩
    have b7 := b6.trans (hb7.mono b6.size)
    replace hA := hA.below hb7
    replace HR := Lib.hid (HR.out.below hb7)
    replace hB := hB.below hb7
    replace HS := Lib.hid (HS.out.below hb7)
    replace hC := hC.below hb7
    replace sl5 := sl5.below hb7
    replace sl6 := sl6.below hb7
    replace t1 := t1.below hb7
    replace kx1 := kx1.below hb7 kx1.lt
    go_wp2_with fail
    refine (Prove_ok A6 m c6 (b.map lf) l _ (HT.out _ b7) HMB.out sl6 (lf_digs b) (by omega) hc6 (by omega)).mono ?_
    rintro e w8 ⟨v7, rfl, hown7, hb8⟩
    have b8 := b7.trans (hb8.mono b7.size)
    replace hA := hA.below hb8
    replace HR := Lib.hid (HR.out.below hb8)
    replace hB := hB.below hb8
    replace HS := Lib.hid (HS.out.below hb8)
    replace hC := hC.below hb8
    replace sl5 := sl5.below hb8
    replace sl6 := sl6.below hb8
    replace t1 := t1.below hb8
    replace kx1 := kx1.below hb8 kx1.lt
    obtain ⟨A7, c7, rfl, sl7, hc7, hm7, _⟩ := hown7.slice
    obtain ⟨p, hp⟩ : ∃ p, (pv (b.map lf) l).length = p := ⟨_, rfl⟩
    have HPL := Lib.hid hp
    rw [hp] at hc7 ⊢
    have hm8 : c7 ≤ 9223372036854775807 := by unfold maxLen at hm7; omega
    change Sl _ A7 (scells _) at sl7
    clear hown7 hp hm7
    have hto := HTO.out
    go_wp2_with fail
    clear hto
    refine (Cons_any B l cb (us.take l) (b.take l) B m cb us b A7 p c7 (pv (b.map lf) l) _ (HT.out _ b8) HTL.out (hB.take l) (rows_take HS.out l) HLB.out hB HS.out (by omega) hlcb (by omega) (by omega) HBDt.out HBDb.out HPL.out sl7 hc7 hm8).mono ?_
    rintro e w9 ⟨A2, n2, c2, B2, m2, d2, q2, rfl, t2, hb9⟩
    have b9 := b8.trans (hb9.mono b8.size)
    replace hA := hA.below hb9
    replace HR := Lib.hid (HR.out.below hb9)
    replace hB := hB.below hb9
    replace HS := Lib.hid (HS.out.below hb9)
    replace hC := hC.below hb9
    replace sl5 := sl5.below hb9
    replace sl6 := sl6.below hb9
    replace t1 := t1.below hb9
    replace kx1 := kx1.below hb9 kx1.lt
    replace sl7 := sl7.below hb9
    rw [HHO.out] at t2
    obtain ⟨e1, e2, e3⟩ := t2.isNone
    subst e1 e2 e3
    clear t2
    cases q1 with
    | false =>
      have k2 : At (w9.alloc (.cells #[.slice none 0 0, .slice none 0 0] 29)) w9.heap.size 29 [.slice none 0 0, .slice none 0 0] := At.new_ w9 _ 29 _ rfl
      go_wp2_with (refine wpList_storeB rfl rfl 29 (.tmp 14) (.tmp 89) rfl SealW.clashTy w9.heap.size rfl [.slice A2 0 c2, .slice B2 0 d2] rfl 29 _ k2 rfl rfl slices_one ?_; intro w10 kx2 ox2; have hb10 := kept _ _ _ _ ox2)
      have b10 := b9.trans (hb10.mono b9.size)
      replace hA := hA.below hb10
      replace HR := Lib.hid (HR.out.below hb10)
      replace hB := hB.below hb10
      replace HS := Lib.hid (HS.out.below hb10)
      replace hC := hC.below hb10
      replace sl5 := sl5.below hb10
      replace sl6 := sl6.below hb10
      replace t1 := t1.below hb10
      replace kx1 := kx1.below hb10 kx1.lt
      replace sl7 := sl7.below hb10
      clear k2 ox2
      refine (knows_any _ (HT.out _ b10)).mono ?_
      rintro e wk ⟨rfl, hbk⟩
      have bk := b10.trans (hbk.mono b10.size)
      go_wp2_with fail
      go_ret
      exact ⟨rfl, bk⟩
    | true =>
      have k2 : At (w9.alloc (.cells #[.slice none 0 0, .slice none 0 0] 29)) w9.heap.size 29 [.slice none 0 0, .slice none 0 0] := At.new_ w9 _ 29 _ rfl
      go_wp2_with (refine wpList_storeB rfl rfl 29 (.tmp 14) (.tmp 89) rfl SealW.clashTy w9.heap.size rfl [.slice A2 0 c2, .slice B2 0 d2] rfl 29 _ k2 rfl rfl slices_one ?_; intro w10 kx2 ox2; have hb10 := kept _ _ _ _ ox2; have f2 := (kx1.below hb10 kx1.lt).cell 0; have f3 := (kx1.below hb10 kx1.lt).cell 1)
      have b10 := b9.trans (hb10.mono b9.size)
      replace hA := hA.below hb10
      replace HR := Lib.hid (HR.out.below hb10)
      replace hB := hB.below hb10
      replace HS := Lib.hid (HS.out.below hb10)
      replace hC := hC.below hb10
      replace sl5 := sl5.below hb10
      replace sl6 := sl6.below hb10
      replace t1 := t1.below hb10
      replace kx1 := kx1.below hb10 kx1.lt
      replace sl7 := sl7.below hb10
      clear k2 ox2
      refine (isTold _ (cc bss b ps) HGD.out A1 n1 c1 B1 m1 d1 _ (HT.out _ b10) t1).mono ?_
      rintro e w11 ⟨rfl, hb11⟩
      have b11 := b10.trans (hb11.mono b10.size)
      replace hA := hA.below hb11
      replace HR := Lib.hid (HR.out.below hb11)
      replace hB := hB.below hb11
      replace HS := Lib.hid (HS.out.below hb11)
      replace hC := hC.below hb11
      replace sl5 := sl5.below hb11
      replace sl6 := sl6.below hb11
      replace t1 := t1.below hb11
      replace kx1 := kx1.below hb11 kx1.lt
      replace sl7 := sl7.below hb11
      replace kx2 := kx2.below hb11 kx2.lt
      clear f2 f3
      go_wp2_with fail
      refine (knows_any _ (HT.out _ b11)).mono ?_
      rintro e wk ⟨rfl, hbk⟩
      have bk := b11.trans (hbk.mono b11.size)
      go_wp2_with fail
      go_ret
      exact ⟨rfl, bk⟩
end Go.Proofs.YtihkfomldbjpoaaDoor.ClW
