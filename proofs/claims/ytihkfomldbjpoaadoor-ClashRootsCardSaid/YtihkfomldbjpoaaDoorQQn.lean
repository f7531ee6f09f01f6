/- ClashRoots. -/
import Derived.Test.YtihkfomldbjpoaaDoorJ7
import Derived.Test.YtihkfomldbjpoaaDoorQQi
namespace Go.Proofs.YtihkfomldbjpoaaDoor.ClW
open Go.RowKit TreeW ConsW TrW ClashW CoW
open ShaW Sha
set_option maxRecDepth 1000000 in
set_option maxHeartbeats 4000000 in
theorem lawRoots (A : Option Addr) (l c : Nat) (vs : List Value) (bss : List (List UInt8)) (B : Option Addr) (m cb : Nat) (us : List Value) (b : List (List UInt8)) (w : World) (hT : Tab w) (hl : bss.length = l) (hA : Sl w A vs) (hR : RowsAt w vs bss) (hlc : l ≤ c) (hc63 : c ≤ 9223372036854775807) (hlb : b.length = m) (hB : Sl w B us) (hS : RowsAt w us b) (hlcb : m ≤ cb) (hcb63 : cb ≤ 9223372036854775807) :
    Calls Tryd.prog 7 #[.slice A l c, .slice B m cb] w fun e w' => e = .returned (.bool true) ∧ Below w.heap.size w w' := by
  have hpos := hT.pos
  have HT := Lib.hid (fun W (hb : Below w.heap.size w W) => hT.below hb hpos)
  have b0 : Below w.heap.size w w := Below.refl _ _
  have HL := Lib.hid hl
  have HR := Lib.hid hR
  have HLB := Lib.hid hlb
  have HS := Lib.hid hS
  by_cases hg0 : Grt8 bss
  · have HGa : Hid (decide (Grt8 bss) = true) := decide_eq_true hg0
    clear hg0 hT hpos
    clear hl hR hlb hS
    go_enter Tryd.func7, Tryd.ntmps7
    go_wp2_with fail
    refine (great8_any A l c vs bss _ HL.out hA HR.out (by omega)).mono ?_
    rintro e w9 ⟨rfl, rfl⟩
    rw [HGa.out]
    go_wp2_with fail
    refine (knows_any _ (HT.out _ b0)).mono ?_
    rintro e wk ⟨rfl, hbk⟩
    have bk := b0.trans (hbk.mono b0.size)
    go_wp2_with fail
    go_ret
    exact ⟨rfl, bk⟩
  have HGa : Hid (decide (Grt8 bss) = false) := decide_eq_false hg0
  have hma : l ≤ 25 := by have := (grt8_no hg0).1; have := HL.out; omega
  have HBDa : Hid (∀ x ∈ bss, x.length ≤ 100000000000) := fun x hx => by have := (grt8_no hg0).2 x hx; omega
  by_cases hg1 : Grt8 b
  · have HGb : Hid (decide (Grt8 b) = true) := decide_eq_true hg1
    clear hg0 hg1 hT hpos
    clear hl hR hlb hS
    go_enter Tryd.func7, Tryd.ntmps7
    go_wp2_with fail
    refine (great8_any A l c vs bss _ HL.out hA HR.out (by omega)).mono ?_
    rintro e w9 ⟨rfl, rfl⟩
    rw [HGa.out]
    go_wp2_with fail
    refine (great8_any B m cb us b _ HLB.out hB HS.out (by omega)).mono ?_
    rintro e w9 ⟨rfl, rfl⟩
    rw [HGb.out]
    go_wp2_with fail
    refine (knows_any _ (HT.out _ b0)).mono ?_
    rintro e wk ⟨rfl, hbk⟩
    have bk := b0.trans (hbk.mono b0.size)
    go_wp2_with fail
    go_ret
    exact ⟨rfl, bk⟩
  have HGb : Hid (decide (Grt8 b) = false) := decide_eq_false hg1
  have hmb : m ≤ 25 := by have := (grt8_no hg1).1; have := HLB.out; omega
  have HBDb : Hid (∀ x ∈ b, x.length ≤ 100000000000) := fun x hx => by have := (grt8_no hg1).2 x hx; omega
  clear hg0 hg1 hT hpos
  clear hl hR hlb hS
  have HGD : Hid (Good (tcx bss b)) := tcx_good HBDa.out HBDb.out
  have HSM : Hid (tcx bss bss = none) := tcx_same bss
  go_enter Tryd.func7, Tryd.ntmps7
  go_wp2_with fail
  refine (great8_any A l c vs bss _ HL.out hA HR.out (by omega)).mono ?_
  rintro e w9 ⟨rfl, rfl⟩
  rw [HGa.out]
  go_wp2_with fail
  refine (great8_any B m cb us b _ HLB.out hB HS.out (by omega)).mono ?_
  rintro e w9 ⟨rfl, rfl⟩
  rw [HGb.out]
  go_wp2_with fail
  refine (Two_any A l c vs bss B m cb us b _ (HT.out _ b0) HL.out hA HR.out HLB.out hB HS.out hlc hlcb (by omega) (by omega) HBDa.out HBDb.out).mono ?_
  rintro e w1 ⟨A1, n1, c1, B1, m1, d1, q1, rfl, t1, hb1⟩
  have b1 := b0.trans (hb1.mono b0.size)
  replace hA := hA.below hb1
  replace HR := Lib.hid (HR.out.below hb1)
  replace hB := hB.below hb1
  replace HS := Lib.hid (HS.out.below hb1)
  have k1 : At (w1.alloc (.cells #[.slice none 0 0, .slice none 0 0] 29)) w1.heap.size 29 [.slice none 0 0, .slice none 0 0] := At.new_ w1 _ 29 _ rfl
  go_wp2_with (refine wpList_storeB rfl rfl 29 (.tmp 5) (.tmp 20) rfl SealW.clashTy w1.heap.size rfl [.slice A1 n1 c1, .slice B1 m1 d1] rfl 29 _ k1 rfl rfl slices_one ?_; intro w2 kx1 ox1; have hb2 := kept _ _ _ _ ox1)
  have b2 := b1.trans (hb2.mono b1.size)
  replace hA := hA.below hb2
  replace HR := Lib.hid (HR.out.below hb2)
  replace hB := hB.below hb2
  replace HS := Lib.hid (HS.out.below hb2)
  replace t1 := t1.below hb2
  clear k1 ox1
  refine (Two_any A l c vs bss A l c vs bss _ (HT.out _ b2) HL.out hA HR.out HL.out hA HR.out hlc hlc (by omega) (by omega) HBDa.out HBDa.out).mono ?_
  rintro e w3 ⟨A2, n2, c2, B2, m2, d2, q2, rfl, t2, hb3⟩
  have b3 := b2.trans (hb3.mono b2.size)
  replace hA := hA.below hb3
  replace HR := Lib.hid (HR.out.below hb3)
  replace hB := hB.below hb3
  replace HS := Lib.hid (HS.out.below hb3)
  replace t1 := t1.below hb3
  replace kx1 := kx1.below hb3 kx1.lt
  rw [HSM.out] at t2
  obtain ⟨e1, e2, e3⟩ := t2.isNone
  subst e1 e2 e3
  clear t2
  by_cases hlm : l = m
  · subst hlm
    by_cases hab : bss = b
    · have HLK : Hid (decide (bss = b) = true) := decide_eq_true hab
      have HEQ : Hid (tcx bss b = none) := by show _ = _; rw [← hab]; exact tcx_same _
      clear hab
      rw [HEQ.out] at t1
      obtain ⟨e1, e2, e3⟩ := t1.isNone
      subst e1 e2 e3
      clear t1
      have k2 : At (w3.alloc (.cells #[.slice none 0 0, .slice none 0 0] 29)) w3.heap.size 29 [.slice none 0 0, .slice none 0 0] := At.new_ w3 _ 29 _ rfl
      go_wp2_with (refine wpList_storeB rfl rfl 29 (.tmp 7) (.tmp 26) rfl SealW.clashTy w3.heap.size rfl [.slice A2 0 c2, .slice B2 0 d2] rfl 29 _ k2 rfl rfl slices_one ?_; intro w4 kx2 ox2; have hb4 := kept _ _ _ _ ox2)
      have b4 := b3.trans (hb4.mono b3.size)
      replace hA := hA.below hb4
      replace HR := Lib.hid (HR.out.below hb4)
      replace hB := hB.below hb4
      replace HS := Lib.hid (HS.out.below hb4)
      replace kx1 := kx1.below hb4 kx1.lt
      clear k2 ox2
      refine (like_any A l c vs bss B cb us b _ HL.out hA HR.out HLB.out hB HS.out (by omega)).mono ?_
      rintro e w5 ⟨rfl, hb5⟩
      have b5 := b4.trans (hb5.mono b4.size)
      replace hA := hA.below hb5
      replace HR := Lib.hid (HR.out.below hb5)
      replace hB := hB.below hb5
      replace HS := Lib.hid (HS.out.below hb5)
      replace kx1 := kx1.below hb5 kx1.lt
      replace kx2 := kx2.below hb5 kx2.lt
      rw [HLK.out]
      go_wp2_with fail
      refine (knows_any _ (HT.out _ b5)).mono ?_
      rintro e wk ⟨rfl, hbk⟩
      have bk := b5.trans (hbk.mono b5.size)
      go_wp2_with fail
      go_ret
      exact ⟨rfl, bk⟩
    · have HLK : Hid (decide (bss = b) = false) := decide_eq_false hab
      have HMA : Hid ((bss.map lf).length = l) := by show _ = _; rw [List.length_map, HL.out]
      have HMB : Hid ((b.map lf).length = l) := by show _ = _; rw [List.length_map, HLB.out]
      obtain ⟨ra, hra⟩ : ∃ r, rt (bss.map lf) = r := ⟨_, rfl⟩
      have Nra := Lib.hid hra
      obtain ⟨rb, hrb⟩ : ∃ r, rt (b.map lf) = r := ⟨_, rfl⟩
      have Nrb := Lib.hid hrb
      have k2 : At (w3.alloc (.cells #[.slice none 0 0, .slice none 0 0] 29)) w3.heap.size 29 [.slice none 0 0, .slice none 0 0] := At.new_ w3 _ 29 _ rfl
      go_wp2_with (refine wpList_storeB rfl rfl 29 (.tmp 7) (.tmp 26) rfl SealW.clashTy w3.heap.size rfl [.slice A2 0 c2, .slice B2 0 d2] rfl 29 _ k2 rfl rfl slices_one ?_; intro w4 kx2 ox2; have hb4 := kept _ _ _ _ ox2)
      have b4 := b3.trans (hb4.mono b3.size)
      replace hA := hA.below hb4
      replace HR := Lib.hid (HR.out.below hb4)
      replace hB := hB.below hb4
      replace HS := Lib.hid (HS.out.below hb4)
      replace t1 := t1.below hb4
      replace kx1 := kx1.below hb4 kx1.lt
      clear k2 ox2
      refine (like_any A l c vs bss B cb us b _ HL.out hA HR.out HLB.out hB HS.out (by omega)).mono ?_
      rintro e w5 ⟨rfl, hb5⟩
      have b5 := b4.trans (hb5.mono b4.size)
      replace hA := hA.below hb5
      replace HR := Lib.hid (HR.out.below hb5)
      replace hB := hB.below hb5
      replace HS := Lib.hid (HS.out.below hb5)
      replace t1 := t1.below hb5
      replace kx1 := kx1.below hb5 kx1.lt
      replace kx2 := kx2.below hb5 kx2.lt
      rw [HLK.out]
      go_wp2_with fail
      refine (refLeaves_any A l c vs bss _ HL.out hA HR.out (by omega) (fun x hx => Nat.le_trans (HBDa.out x hx) (by omega))).mono ?_
      rintro e w6 ⟨v5, rfl, hown5, hb6⟩
      have b6 := b5.trans (hb6.mono b5.size)
      replace hA := hA.below hb6
      replace HR := Lib.hid (HR.out.below hb6)
      replace hB := hB.below hb6
      replace HS := Lib.hid (HS.out.below hb6)
      replace t1 := t1.below hb6
      replace kx1 := kx1.below hb6 kx1.lt
      replace kx2 := kx2.below hb6 kx2.lt
      obtain ⟨A5, c5, rfl, sl5, hc5, _, _⟩ := hown5.slice
      rw [HMA.out] at hc5 ⊢
      clear hown5
      go_wp2_with fail
      refine (refRoot_any l A5 l c5 (bss.map lf) (Nat.le_refl _) _ HMA.out sl5 (lf_digs bss) hc5 (by omega)).mono ?_
      rintro e w7 ⟨rfl, hb7⟩
      have b7 := b6.trans (hb7.mono b6.size)
      replace hA := hA.below hb7
      replace HR := Lib.hid (HR.out.below hb7)
      replace hB := hB.below hb7
      replace HS := Lib.hid (HS.out.below hb7)
      replace t1 := t1.below hb7
      replace kx1 := kx1.below hb7 kx1.lt
      replace kx2 := kx2.below hb7 kx2.lt
      replace sl5 := sl5.below hb7
      rw [Nra.out]
      go_wp2_with fail
      refine (refLeaves_any B l cb us b _ HLB.out hB HS.out (by omega) (fun x hx => Nat.le_trans (HBDb.out x hx) (by omega))).mono ?_
      rintro e w8 ⟨v6, rfl, hown6, hb8⟩
      have b8 := b7.trans (hb8.mono b7.size)
      replace hA := hA.below hb8
      replace HR := Lib.hid (HR.out.below hb8)
      replace hB := hB.below hb8
      replace HS := Lib.hid (HS.out.below hb8)
      replace t1 := t1.below hb8
      replace kx1 := kx1.below hb8 kx1.lt
      replace kx2 := kx2.below hb8 kx2.lt
      replace sl5 := sl5.below hb8
      obtain ⟨A6, c6, rfl, sl6, hc6, _, _⟩ := hown6.slice
      rw [HMB.out] at hc6 ⊢
      clear hown6
      go_wp2_with fail
      refine (refRoot_any l A6 l c6 (b.map lf) (Nat.le_refl _) _ HMB.out sl6 (lf_digs b) hc6 (by omega)).mono ?_
      rintro e w9 ⟨rfl, hb9⟩
      have b9 := b8.trans (hb9.mono b8.size)
      replace hA := hA.below hb9
      replace HR := Lib.hid (HR.out.below hb9)
      replace hB := hB.below hb9
      replace HS := Lib.hid (HS.out.below hb9)
      replace t1 := t1.below hb9
      replace kx1 := kx1.below hb9 kx1.lt
      replace kx2 := kx2.below hb9 kx2.lt
      replace sl5 := sl5.below hb9
      replace sl6 := sl6.below hb9
      rw [Nrb.out]
      by_cases hr : ra = rb
      · have e1 := SealW.beq_yes hr
        have hq1 : q1 = true := by rw [t1.yes]; exact tcx_finds (by rw [HL.out, HLB.out]) hab (by rw [Nra.out, Nrb.out]; exact hr)
        clear hr hab hra hrb
        subst hq1
        have f2 := kx1.cell 0
        have f3 := kx1.cell 1
        go_wp2_with fail
        refine (isTold _ (tcx bss b) HGD.out A1 n1 c1 B1 m1 d1 _ (HT.out _ b9) t1).mono ?_
        rintro e w10 ⟨rfl, hb10⟩
        have b10 := b9.trans (hb10.mono b9.size)
        replace hA := hA.below hb10
        replace HR := Lib.hid (HR.out.below hb10)
        replace hB := hB.below hb10
        replace HS := Lib.hid (HS.out.below hb10)
        replace t1 := t1.below hb10
        replace kx1 := kx1.below hb10 kx1.lt
        replace kx2 := kx2.below hb10 kx2.lt
        replace sl5 := sl5.below hb10
        replace sl6 := sl6.below hb10
        clear f2 f3
        go_wp2_with fail
        refine (knows_any _ (HT.out _ b10)).mono ?_
        rintro e wk ⟨rfl, hbk⟩
        have bk := b10.trans (hbk.mono b10.size)
        go_wp2_with fail
        go_ret
        exact ⟨rfl, bk⟩
      · have e1 := SealW.beq_no hr
        clear hr hab hra hrb
        cases q1 with
        | false =>
          go_wp2_with fail
          refine (knows_any _ (HT.out _ b9)).mono ?_
          rintro e wk ⟨rfl, hbk⟩
          have bk := b9.trans (hbk.mono b9.size)
          go_wp2_with fail
          go_ret
          exact ⟨rfl, bk⟩
        | true =>
          have f2 := kx1.cell 0
          have f3 := kx1.cell 1
          go_wp2_with fail
          refine (isTold _ (tcx bss b) HGD.out A1 n1 c1 B1 m1 d1 _ (HT.out _ b9) t1).mono ?_
          rintro e w10 ⟨rfl, hb10⟩
          have b10 := b9.trans (hb10.mono b9.size)
          replace hA := hA.below hb10
          replace HR := Lib.hid (HR.out.below hb10)
          replace hB := hB.below hb10
          replace HS := Lib.hid (HS.out.below hb10)
          replace t1 := t1.below hb10
          replace kx1 := kx1.below hb10 kx1.lt
          replace kx2 := kx2.below hb10 kx2.lt
          replace sl5 := sl5.below hb10
          replace sl6 := sl6.below hb10
          clear f2 f3
          go_wp2_with fail
          refine (like_any A l c vs bss B cb us b _ HL.out hA HR.out HLB.out hB HS.out (by omega)).mono ?_
          rintro e w11 ⟨rfl, hb11⟩
          have b11 := b10.trans (hb11.mono b10.size)
          replace hA := hA.below hb11
          replace HR := Lib.hid (HR.out.below hb11)
          replace hB := hB.below hb11
          replace HS := Lib.hid (HS.out.below hb11)
          replace t1 := t1.below hb11
          replace kx1 := kx1.below hb11 kx1.lt
          replace kx2 := kx2.below hb11 kx2.lt
          replace sl5 := sl5.below hb11
          replace sl6 := sl6.below hb11
          rw [HLK.out]
          go_wp2_with fail
          refine (knows_any _ (HT.out _ b11)).mono ?_
          rintro e wk ⟨rfl, hbk⟩
          have bk := b11.trans (hbk.mono b11.size)
          go_wp2_with fail
          go_ret
          exact ⟨rfl, bk⟩
  · have hne : ((l : Int) == (m : Int)) = false := by simpa using (show ¬ (l : Int) = (m : Int) by omega)
    have HEQ : Hid (tcx bss b = none) := tcx_no (fun h => hlm (by rw [← HL.out, ← HLB.out]; exact h.1))
    clear hlm
    rw [HEQ.out] at t1
    obtain ⟨e1, e2, e3⟩ := t1.isNone
    subst e1 e2 e3
    clear t1
    have k2 : At (w3.alloc (.cells #[.slice none 0 0, .slice none 0 0] 29)) w3.heap.size 29 [.slice none 0 0, .slice none 0 0] := At.new_ w3 _ 29 _ rfl
    go_wp2_with (refine wpList_storeB rfl rfl 29 (.tmp 7) (.tmp 26) rfl SealW.clashTy w3.heap.size rfl [.slice A2 0 c2, .slice B2 0 d2] rfl 29 _ k2 rfl rfl slices_one ?_; intro w4 kx2 ox2; have hb4 := kept _ _ _ _ ox2)
    have b4 := b3.trans (hb4.mono b3.size)
    replace hA := hA.below hb4
    replace HR := Lib.hid (HR.out.below hb4)
    replace hB := hB.below hb4
    replace HS := Lib.hid (HS.out.below hb4)
    replace kx1 := kx1.below hb4 kx1.lt
    clear k2 ox2
    refine (knows_any _ (HT.out _ b4)).mono ?_
    rintro e wk ⟨rfl, hbk⟩
    have bk := b4.trans (hbk.mono b4.size)
    go_wp2_with fail
    go_ret
    exact ⟨rfl, bk⟩
end Go.Proofs.YtihkfomldbjpoaaDoor.ClW
