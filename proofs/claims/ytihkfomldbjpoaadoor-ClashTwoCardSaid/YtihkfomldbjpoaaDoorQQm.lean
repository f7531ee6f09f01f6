/- ClashTwo. -/
import Derived.Test.YtihkfomldbjpoaaDoorJ7
namespace Go.Proofs.YtihkfomldbjpoaaDoor.ClW
open Go.RowKit TreeW ConsW TrW ClashW CoW
open ShaW Sha
set_option maxRecDepth 1000000 in
set_option maxHeartbeats 4000000 in
theorem lawTwo (A : Option Addr) (l c : Nat) (vs : List Value) (bss : List (List UInt8)) (B : Option Addr) (m cb : Nat) (us : List Value) (b : List (List UInt8)) (X : Option Addr) (lx dx : Nat) (xs : List UInt8) (Y : Option Addr) (ly dy : Nat) (ys : List UInt8) (w : World) (hT : Tab w) (hl : bss.length = l) (hA : Sl w A vs) (hR : RowsAt w vs bss) (hlc : l ≤ c) (hc63 : c ≤ 9223372036854775807) (hlb : b.length = m) (hB : Sl w B us) (hS : RowsAt w us b) (hlcb : m ≤ cb) (hcb63 : cb ≤ 9223372036854775807) (hlx : xs.length = lx) (hX : Sl w X (bcells xs)) (_hlxd : lx ≤ dx) (_hdx : dx ≤ 9223372036854775807) (hly : ys.length = ly) (hY : Sl w Y (bcells ys)) (_hlyd : ly ≤ dy) (_hdy : dy ≤ 9223372036854775807) :
    Calls Tryd.prog 4 #[.slice A l c, .slice B m cb, .slice X lx dx, .slice Y ly dy] w fun e w' => e = .returned (.bool true) ∧ Below w.heap.size w w' := by
  have hpos := hT.pos
  have HT := Lib.hid (fun W (hb : Below w.heap.size w W) => hT.below hb hpos)
  have b0 : Below w.heap.size w w := Below.refl _ _
  have HL := Lib.hid hl
  have HR := Lib.hid hR
  have HLB := Lib.hid hlb
  have HS := Lib.hid hS
  have HLX := Lib.hid hlx
  have HLY := Lib.hid hly
  by_cases hg0 : Grt8 bss
  · have HGa : Hid (decide (Grt8 bss) = true) := decide_eq_true hg0
    clear hg0 hT hpos
    clear hl hR hlb hS hlx hly
    go_enter Tryd.func4, Tryd.ntmps4
    go_wp2_with fail
    refine (great8_any A l c vs bss _ HL.out hA HR.out (by omega)).mono ?_
    rintro e w9 ⟨rfl, rfl⟩
    rw [HGa.out]
    go_wp2_with fail
    refine (knows_any _ (HT.out _ b0)).mono ?_
    rintro e wk ⟨rfl, hbk⟩
    have bk := b0.trans (hbk.mono b0.size)
    go_wp2_with fail
    go_ret
    exact ⟨rfl, bk⟩
  have HGa : Hid (decide (Grt8 bss) = false) := decide_eq_false hg0
  have hma : l ≤ 25 := by have := (grt8_no hg0).1; have := HL.out; omega
  have HBDa : Hid (∀ x ∈ bss, x.length ≤ 100000000000) := fun x hx => by have := (grt8_no hg0).2 x hx; omega
  by_cases hg1 : Grt8 b
  · have HGb : Hid (decide (Grt8 b) = true) := decide_eq_true hg1
    clear hg0 hg1 hT hpos
    clear hl hR hlb hS hlx hly
    go_enter Tryd.func4, Tryd.ntmps4
    go_wp2_with fail
    refine (great8_any A l c vs bss _ HL.out hA HR.out (by omega)).mono ?_
    rintro e w9 ⟨rfl, rfl⟩
    rw [HGa.out]
    go_wp2_with fail
    refine (great8_any B m cb us b _ HLB.out hB HS.out (by omega)).mono ?_
    rintro e w9 ⟨rfl, rfl⟩
    rw [HGb.out]
    go_wp2_with fail
    refine (knows_any _ (HT.out _ b0)).mono ?_
    rintro e wk ⟨rfl, hbk⟩
    have bk := b0.trans (hbk.mono b0.size)
    go_wp2_with fail
    go_ret
    exact ⟨rfl, bk⟩
  have HGb : Hid (decide (Grt8 b) = false) := decide_eq_false hg1
  have hmb : m ≤ 25 := by have := (grt8_no hg1).1; have := HLB.out; omega
  have HBDb : Hid (∀ x ∈ b, x.length ≤ 100000000000) := fun x hx => by have := (grt8_no hg1).2 x hx; omega
  by_cases hg2 : 1000 < lx
  · have glx : (lx : Int) > 1000 := by omega
    clear hg0 hg1 hg2 hT hpos
    clear hl hR hlb hS hlx hly
    go_enter Tryd.func4, Tryd.ntmps4
    go_wp2_with fail
    refine (great8_any A l c vs bss _ HL.out hA HR.out (by omega)).mono ?_
    rintro e w9 ⟨rfl, rfl⟩
    rw [HGa.out]
    go_wp2_with fail
    refine (great8_any B m cb us b _ HLB.out hB HS.out (by omega)).mono ?_
    rintro e w9 ⟨rfl, rfl⟩
    rw [HGb.out]
    go_wp2_with fail
    refine (knows_any _ (HT.out _ b0)).mono ?_
    rintro e wk ⟨rfl, hbk⟩
    have bk := b0.trans (hbk.mono b0.size)
    go_wp2_with fail
    go_ret
    exact ⟨rfl, bk⟩
  have glx : ¬ (lx : Int) > 1000 := by omega
  have gmx : lx ≤ 1000 := by omega
  by_cases hg3 : 1000 < ly
  · have gly : (ly : Int) > 1000 := by omega
    clear hg0 hg1 hg2 hg3 hT hpos
    clear hl hR hlb hS hlx hly
    go_enter Tryd.func4, Tryd.ntmps4
    go_wp2_with fail
    refine (great8_any A l c vs bss _ HL.out hA HR.out (by omega)).mono ?_
    rintro e w9 ⟨rfl, rfl⟩
    rw [HGa.out]
    go_wp2_with fail
    refine (great8_any B m cb us b _ HLB.out hB HS.out (by omega)).mono ?_
    rintro e w9 ⟨rfl, rfl⟩
    rw [HGb.out]
    go_wp2_with fail
    refine (knows_any _ (HT.out _ b0)).mono ?_
    rintro e wk ⟨rfl, hbk⟩
    have bk := b0.trans (hbk.mono b0.size)
    go_wp2_with fail
    go_ret
    exact ⟨rfl, bk⟩
  have gly : ¬ (ly : Int) > 1000 := by omega
  have gmy : ly ≤ 1000 := by omega
  clear hg0 hg1 hg2 hg3 hT hpos
  clear hl hR hlb hS hlx hly
  go_enter Tryd.func4, Tryd.ntmps4
  go_wp2_with fail
  refine (great8_any A l c vs bss _ HL.out hA HR.out (by omega)).mono ?_
  rintro e w9 ⟨rfl, rfl⟩
  rw [HGa.out]
  go_wp2_with fail
  refine (great8_any B m cb us b _ HLB.out hB HS.out (by omega)).mono ?_
  rintro e w9 ⟨rfl, rfl⟩
  rw [HGb.out]
  go_wp2_with fail
  refine (Posts_any X lx dx xs Y ly dy ys _ (HT.out _ b0) HLX.out hX HLY.out hY (by omega) (by omega)).mono ?_
  rintro e w1 ⟨A1, n1, c1, B1, m1, d1, q1, rfl, t1, hb1⟩
  have b1 := b0.trans (hb1.mono b0.size)
  replace hA := hA.below hb1
  replace HR := Lib.hid (HR.out.below hb1)
  replace hB := hB.below hb1
  replace HS := Lib.hid (HS.out.below hb1)
  replace hX := hX.below hb1
  replace hY := hY.below hb1
  have k1 : At (w1.alloc (.cells #[.slice none 0 0, .slice none 0 0] 29)) w1.heap.size 29 [.slice none 0 0, .slice none 0 0] := At.new_ w1 _ 29 _ rfl
  go_wp2_with (refine wpList_storeB rfl rfl 29 (.tmp 9) (.tmp 42) rfl SealW.clashTy w1.heap.size rfl [.slice A1 n1 c1, .slice B1 m1 d1] rfl 29 _ k1 rfl rfl slices_one ?_; intro w2 kx1 ox1; have hb2 := kept _ _ _ _ ox1)
  have b2 := b1.trans (hb2.mono b1.size)
  replace hA := hA.below hb2
  replace HR := Lib.hid (HR.out.below hb2)
  replace hB := hB.below hb2
  replace HS := Lib.hid (HS.out.below hb2)
  replace hX := hX.below hb2
  replace hY := hY.below hb2
  replace t1 := t1.below hb2
  clear k1 ox1
  refine (SealW.refBytes_new 2 X lx dx xs _ HLX.out hX (by omega)).mono ?_
  rintro e w3 ⟨P1, p1, rfl, sp1, pc1, pm1, _, hb3⟩
  have b3 := b2.trans (hb3.mono b2.size)
  replace hA := hA.below hb3
  replace HR := Lib.hid (HR.out.below hb3)
  replace hB := hB.below hb3
  replace HS := Lib.hid (HS.out.below hb3)
  replace hX := hX.below hb3
  replace hY := hY.below hb3
  replace t1 := t1.below hb3
  replace kx1 := kx1.below hb3 kx1.lt
  go_wp2_with fail
  refine (SealW.refBytes_new 2 Y ly dy ys _ HLY.out hY (by omega)).mono ?_
  rintro e w4 ⟨Q1, r1, rfl, sq1, qc1, qm1, _, hb4⟩
  have b4 := b3.trans (hb4.mono b3.size)
  replace hA := hA.below hb4
  replace HR := Lib.hid (HR.out.below hb4)
  replace hB := hB.below hb4
  replace HS := Lib.hid (HS.out.below hb4)
  replace hX := hX.below hb4
  replace hY := hY.below hb4
  replace t1 := t1.below hb4
  replace kx1 := kx1.below hb4 kx1.lt
  replace sp1 := sp1.below hb4
  go_wp2_with fail
  refine (refBetween_any 0 P1 (lx + 1) p1 (2 :: xs) Q1 (ly + 1) r1 (2 :: ys) _ (by rw [List.length_cons, HLX.out]) sp1 (by rw [List.length_cons, HLY.out]) sq1 (by omega) (by omega) pc1 pm1 qc1 qm1 (fun _ _ _ _ => Nat.zero_le _) (fun _ _ _ _ => Nat.zero_le _)).mono ?_
  rintro e w5 ⟨A2, n2, c2, B2, m2, d2, q2, rfl, t2, hb5⟩
  have b5 := b4.trans (hb5.mono b4.size)
  replace hA := hA.below hb5
  replace HR := Lib.hid (HR.out.below hb5)
  replace hB := hB.below hb5
  replace HS := Lib.hid (HS.out.below hb5)
  replace hX := hX.below hb5
  replace hY := hY.below hb5
  replace t1 := t1.below hb5
  replace kx1 := kx1.below hb5 kx1.lt
  replace sp1 := sp1.below hb5
  replace sq1 := sq1.below hb5
  clear sp1 sq1
  have k2 : At (w5.alloc (.cells #[.slice none 0 0, .slice none 0 0] 33)) w5.heap.size 33 [.slice none 0 0, .slice none 0 0] := At.new_ w5 _ 33 _ rfl
  go_wp2_with (refine wpList_storeB rfl rfl 33 (.tmp 11) (.tmp 50) rfl clTy w5.heap.size rfl [.slice A2 n2 c2, .slice B2 m2 d2] rfl 33 _ k2 rfl rfl slices_one ?_; intro w6 kx2 ox2; have hb6 := kept _ _ _ _ ox2)
  have b6 := b5.trans (hb6.mono b5.size)
  replace hA := hA.below hb6
  replace HR := Lib.hid (HR.out.below hb6)
  replace hB := hB.below hb6
  replace HS := Lib.hid (HS.out.below hb6)
  replace hX := hX.below hb6
  replace hY := hY.below hb6
  replace t1 := t1.below hb6
  replace kx1 := kx1.below hb6 kx1.lt
  replace t2 := t2.below hb6
  clear k2 ox2
  refine (Head_any X lx dx xs Y ly dy ys _ (HT.out _ b6) HLX.out hX HLY.out hY (by omega) (by omega)).mono ?_
  rintro e w7 ⟨A3, n3, c3, B3, m3, d3, q3, rfl, t3, hb7⟩
  have b7 := b6.trans (hb7.mono b6.size)
  replace hA := hA.below hb7
  replace HR := Lib.hid (HR.out.below hb7)
  replace hB := hB.below hb7
  replace HS := Lib.hid (HS.out.below hb7)
  replace hX := hX.below hb7
  replace hY := hY.below hb7
  replace t1 := t1.below hb7
  replace kx1 := kx1.below hb7 kx1.lt
  replace t2 := t2.below hb7
  replace kx2 := kx2.below hb7 kx2.lt
  have k3 : At (w7.alloc (.cells #[.slice none 0 0, .slice none 0 0] 29)) w7.heap.size 29 [.slice none 0 0, .slice none 0 0] := At.new_ w7 _ 29 _ rfl
  go_wp2_with (refine wpList_storeB rfl rfl 29 (.tmp 13) (.tmp 56) rfl SealW.clashTy w7.heap.size rfl [.slice A3 n3 c3, .slice B3 m3 d3] rfl 29 _ k3 rfl rfl slices_one ?_; intro w8 kx3 ox3; have hb8 := kept _ _ _ _ ox3)
  have b8 := b7.trans (hb8.mono b7.size)
  replace hA := hA.below hb8
  replace HR := Lib.hid (HR.out.below hb8)
  replace hB := hB.below hb8
  replace HS := Lib.hid (HS.out.below hb8)
  replace hX := hX.below hb8
  replace hY := hY.below hb8
  replace t1 := t1.below hb8
  replace kx1 := kx1.below hb8 kx1.lt
  replace t2 := t2.below hb8
  replace kx2 := kx2.below hb8 kx2.lt
  replace t3 := t3.below hb8
  clear k3 ox3
  refine (SealW.refBytes_new 3 X lx dx xs _ HLX.out hX (by omega)).mono ?_
  rintro e w9 ⟨P3, p3, rfl, sp3, pc3, pm3, _, hb9⟩
  have b9 := b8.trans (hb9.mono b8.size)
  replace hA := hA.below hb9
  replace HR := Lib.hid (HR.out.below hb9)
  replace hB := hB.below hb9
  replace HS := Lib.hid (HS.out.below hb9)
  replace hX := hX.below hb9
  replace hY := hY.below hb9
  replace t1 := t1.below hb9
  replace kx1 := kx1.below hb9 kx1.lt
  replace t2 := t2.below hb9
  replace kx2 := kx2.below hb9 kx2.lt
  replace t3 := t3.below hb9
  replace kx3 := kx3.below hb9 kx3.lt
  go_wp2_with fail
  refine (SealW.refBytes_new 3 Y ly dy ys _ HLY.out hY (by omega)).mono ?_
  rintro e w10 ⟨Q3, r3, rfl, sq3, qc3, qm3, _, hb10⟩
  have b10 := b9.trans (hb10.mono b9.size)
  replace hA := hA.below hb10
  replace HR := Lib.hid (HR.out.below hb10)
  replace hB := hB.below hb10
  replace HS := Lib.hid (HS.out.below hb10)
  replace hX := hX.below hb10
  replace hY := hY.below hb10
  replace t1 := t1.below hb10
  replace kx1 := kx1.below hb10 kx1.lt
  replace t2 := t2.below hb10
  replace kx2 := kx2.below hb10 kx2.lt
  replace t3 := t3.below hb10
  replace kx3 := kx3.below hb10 kx3.lt
  replace sp3 := sp3.below hb10
  go_wp2_with fail
  refine (refBetween_any 0 P3 (lx + 1) p3 (3 :: xs) Q3 (ly + 1) r3 (3 :: ys) _ (by rw [List.length_cons, HLX.out]) sp3 (by rw [List.length_cons, HLY.out]) sq3 (by omega) (by omega) pc3 pm3 qc3 qm3 (fun _ _ _ _ => Nat.zero_le _) (fun _ _ _ _ => Nat.zero_le _)).mono ?_
  rintro e w11 ⟨A4, n4, c4, B4, m4, d4, q4, rfl, t4, hb11⟩
  have b11 := b10.trans (hb11.mono b10.size)
  replace hA := hA.below hb11
  replace HR := Lib.hid (HR.out.below hb11)
  replace hB := hB.below hb11
  replace HS := Lib.hid (HS.out.below hb11)
  replace hX := hX.below hb11
  replace hY := hY.below hb11
  replace t1 := t1.below hb11
  replace kx1 := kx1.below hb11 kx1.lt
  replace t2 := t2.below hb11
  replace kx2 := kx2.below hb11 kx2.lt
  replace t3 := t3.below hb11
  replace kx3 := kx3.below hb11 kx3.lt
  replace sp3 := sp3.below hb11
  replace sq3 := sq3.below hb11
  clear sp3 sq3
  have k4 : At (w11.alloc (.cells #[.slice none 0 0, .slice none 0 0] 33)) w11.heap.size 33 [.slice none 0 0, .slice none 0 0] := At.new_ w11 _ 33 _ rfl
  go_wp2_with (refine wpList_storeB rfl rfl 33 (.tmp 15) (.tmp 64) rfl clTy w11.heap.size rfl [.slice A4 n4 c4, .slice B4 m4 d4] rfl 33 _ k4 rfl rfl slices_one ?_; intro w12 kx4 ox4; have hb12 := kept _ _ _ _ ox4; have f2 := (kx1.below hb12 kx1.lt).cell 0; have f3 := (kx1.below hb12 kx1.lt).cell 1; have f4 := (kx2.below hb12 kx2.lt).cell 0; have f5 := (kx2.below hb12 kx2.lt).cell 1)
  have b12 := b11.trans (hb12.mono b11.size)
  replace hA := hA.below hb12
  replace HR := Lib.hid (HR.out.below hb12)
  replace hB := hB.below hb12
  replace HS := Lib.hid (HS.out.below hb12)
  replace hX := hX.below hb12
  replace hY := hY.below hb12
  replace t1 := t1.below hb12
  replace kx1 := kx1.below hb12 kx1.lt
  replace t2 := t2.below hb12
  replace kx2 := kx2.below hb12 kx2.lt
  replace t3 := t3.below hb12
  replace kx3 := kx3.below hb12 kx3.lt
  replace t4 := t4.below hb12
  clear k4 ox4
  refine (same_any _ _ (btw sha (2 :: xs) (2 :: ys)) (btw_good (by rw [List.length_cons, HLX.out]; omega) (by rw [List.length_cons, HLY.out]; omega)) A1 n1 c1 B1 m1 d1 q1 A2 n2 c2 B2 m2 d2 q2 _ (HT.out _ b12) t1 t2).mono ?_
  rintro e w13 ⟨rfl, hb13⟩
  have b13 := b12.trans (hb13.mono b12.size)
  replace hA := hA.below hb13
  replace HR := Lib.hid (HR.out.below hb13)
  replace hB := hB.below hb13
  replace HS := Lib.hid (HS.out.below hb13)
  replace hX := hX.below hb13
  replace hY := hY.below hb13
  replace t1 := t1.below hb13
  replace kx1 := kx1.below hb13 kx1.lt
  replace t2 := t2.below hb13
  replace kx2 := kx2.below hb13 kx2.lt
  replace t3 := t3.below hb13
  replace kx3 := kx3.below hb13 kx3.lt
  replace t4 := t4.below hb13
  replace kx4 := kx4.below hb13 kx4.lt
  clear f2 f3 f4 f5
  clear t1 t2 kx1 kx2
  have f6 := kx3.cell 0
  have f7 := kx3.cell 1
  have f8 := kx4.cell 0
  have f9 := kx4.cell 1
  go_wp2_with fail
  refine (same_any _ _ (btw sha (3 :: xs) (3 :: ys)) (btw_good (by rw [List.length_cons, HLX.out]; omega) (by rw [List.length_cons, HLY.out]; omega)) A3 n3 c3 B3 m3 d3 q3 A4 n4 c4 B4 m4 d4 q4 _ (HT.out _ b13) t3 t4).mono ?_
  rintro e w14 ⟨rfl, hb14⟩
  have b14 := b13.trans (hb14.mono b13.size)
  replace hA := hA.below hb14
  replace HR := Lib.hid (HR.out.below hb14)
  replace hB := hB.below hb14
  replace HS := Lib.hid (HS.out.below hb14)
  replace hX := hX.below hb14
  replace hY := hY.below hb14
  replace t3 := t3.below hb14
  replace kx3 := kx3.below hb14 kx3.lt
  replace t4 := t4.below hb14
  replace kx4 := kx4.below hb14 kx4.lt
  clear f6 f7 f8 f9
  clear t3 t4 kx3 kx4
  go_wp2_with fail
  refine (Two_any A l c vs bss B m cb us b _ (HT.out _ b14) HL.out hA HR.out HLB.out hB HS.out hlc hlcb (by omega) (by omega) HBDa.out HBDb.out).mono ?_
  rintro e w15 ⟨A5, n5, c5, B5, m5, d5, q5, rfl, t5, hb15⟩
  have b15 := b14.trans (hb15.mono b14.size)
  replace hA := hA.below hb15
  replace HR := Lib.hid (HR.out.below hb15)
  replace hB := hB.below hb15
  replace HS := Lib.hid (HS.out.below hb15)
  by_cases hf : l = m ∧ l ≠ 0
  · obtain ⟨hlm, h0⟩ := hf
    subst hlm
    have HEQ : Hid (tcx bss b = tc bss b) := tcx_yes ⟨by rw [HL.out, HLB.out], by rw [HL.out]; exact h0⟩
    have HGD : Hid (Good (tcx bss b)) := tcx_good HBDa.out HBDb.out
    have hne : ((l : Int) == 0) = false := by simpa using h0
    have hl1 : 1 ≤ l := by omega
    clear h0
    have k5 : At (w15.alloc (.cells #[.slice none 0 0, .slice none 0 0] 29)) w15.heap.size 29 [.slice none 0 0, .slice none 0 0] := At.new_ w15 _ 29 _ rfl
    go_wp2_with (refine wpList_storeB rfl rfl 29 (.tmp 17) (.tmp 84) rfl SealW.clashTy w15.heap.size rfl [.slice A5 n5 c5, .slice B5 m5 d5] rfl 29 _ k5 rfl rfl slices_one ?_; intro w16 kx5 ox5; have hb16 := kept _ _ _ _ ox5)
    have b16 := b15.trans (hb16.mono b15.size)
    replace hA := hA.below hb16
    replace HR := Lib.hid (HR.out.below hb16)
    replace hB := hB.below hb16
    replace HS := Lib.hid (HS.out.below hb16)
    replace t5 := t5.below hb16
    clear k5 ox5
    refine (refTwo8 l A l c vs bss B cb us b (Nat.le_refl _) _ HL.out hA HR.out HLB.out hB HS.out hl1 hlc hlcb (by omega) HBDa.out HBDb.out).mono ?_
    rintro e w17 ⟨A6, n6, c6, B6, m6, d6, q6, rfl, t6, hb17⟩
    have b17 := b16.trans (hb17.mono b16.size)
    replace hA := hA.below hb17
    replace HR := Lib.hid (HR.out.below hb17)
    replace hB := hB.below hb17
    replace HS := Lib.hid (HS.out.below hb17)
    replace t5 := t5.below hb17
    replace kx5 := kx5.below hb17 kx5.lt
    have k6 : At (w17.alloc (.cells #[.slice none 0 0, .slice none 0 0] 33)) w17.heap.size 33 [.slice none 0 0, .slice none 0 0] := At.new_ w17 _ 33 _ rfl
    go_wp2_with (refine wpList_storeB rfl rfl 33 (.tmp 19) (.tmp 111) rfl clTy w17.heap.size rfl [.slice A6 n6 c6, .slice B6 m6 d6] rfl 33 _ k6 rfl rfl slices_one ?_; intro w18 kx6 ox6; have hb18 := kept _ _ _ _ ox6; have f10 := (kx5.below hb18 kx5.lt).cell 0; have f11 := (kx5.below hb18 kx5.lt).cell 1; have f12 := kx6.cell 0; have f13 := kx6.cell 1)
    have b18 := b17.trans (hb18.mono b17.size)
    replace hA := hA.below hb18
    replace HR := Lib.hid (HR.out.below hb18)
    replace hB := hB.below hb18
    replace HS := Lib.hid (HS.out.below hb18)
    replace t5 := t5.below hb18
    replace kx5 := kx5.below hb18 kx5.lt
    replace t6 := t6.below hb18
    clear k6 ox6
    have t66 := t6
    rw [← HEQ.out] at t66
    refine (same_any _ _ (tcx bss b) HGD.out A5 n5 c5 B5 m5 d5 q5 A6 n6 c6 B6 m6 d6 q6 _ (HT.out _ b18) t5 t66).mono ?_
    rintro e w19 ⟨rfl, hb19⟩
    have b19 := b18.trans (hb19.mono b18.size)
    replace hA := hA.below hb19
    replace HR := Lib.hid (HR.out.below hb19)
    replace hB := hB.below hb19
    replace HS := Lib.hid (HS.out.below hb19)
    replace t5 := t5.below hb19
    replace kx5 := kx5.below hb19 kx5.lt
    replace t6 := t6.below hb19
    replace kx6 := kx6.below hb19 kx6.lt
    clear f10 f11 f12 f13
    go_wp2_with fail
    refine (knows_any _ (HT.out _ b19)).mono ?_
    rintro e wk ⟨rfl, hbk⟩
    have bk := b19.trans (hbk.mono b19.size)
    go_wp2_with fail
    go_ret
    exact ⟨rfl, bk⟩
  have HEQ : Hid (tcx bss b = none) := tcx_no (by rw [HL.out, HLB.out]; exact hf)
  rw [HEQ.out] at t5
  obtain ⟨e1, e2, e3⟩ := t5.isNone
  subst e1 e2 e3
  clear t5
  by_cases hlm : l = m
  · have h0 : l = 0 := Classical.byContradiction fun h => hf ⟨hlm, h⟩
    subst hlm
    subst h0
    clear hf
    have k5 : At (w15.alloc (.cells #[.slice none 0 0, .slice none 0 0] 29)) w15.heap.size 29 [.slice none 0 0, .slice none 0 0] := At.new_ w15 _ 29 _ rfl
    go_wp2_with (refine wpList_storeB rfl rfl 29 (.tmp 17) (.tmp 84) rfl SealW.clashTy w15.heap.size rfl [.slice A5 0 c5, .slice B5 0 d5] rfl 29 _ k5 rfl rfl slices_one ?_; intro w16 kx5 ox5; have hb16 := kept _ _ _ _ ox5; have f10 := kx5.cell 0; have f11 := kx5.cell 1)
    have b16 := b15.trans (hb16.mono b15.size)
    replace hA := hA.below hb16
    replace HR := Lib.hid (HR.out.below hb16)
    replace hB := hB.below hb16
    replace HS := Lib.hid (HS.out.below hb16)
    clear k5 ox5
    refine (knows_any _ (HT.out _ b16)).mono ?_
    rintro e wk ⟨rfl, hbk⟩
    have bk := b16.trans (hbk.mono b16.size)
    go_wp2_with fail
    go_ret
    exact ⟨rfl, bk⟩
  have hne : ((l : Int) == (m : Int)) = false := by simpa using (show ¬ (l : Int) = (m : Int) by omega)
  clear hf hlm
  have k5 : At (w15.alloc (.cells #[.slice none 0 0, .slice none 0 0] 29)) w15.heap.size 29 [.slice none 0 0, .slice none 0 0] := At.new_ w15 _ 29 _ rfl
  go_wp2_with (refine wpList_storeB rfl rfl 29 (.tmp 17) (.tmp 84) rfl SealW.clashTy w15.heap.size rfl [.slice A5 0 c5, .slice B5 0 d5] rfl 29 _ k5 rfl rfl slices_one ?_; intro w16 kx5 ox5; have hb16 := kept _ _ _ _ ox5; have f10 := kx5.cell 0; have f11 := kx5.cell 1)
  have b16 := b15.trans (hb16.mono b15.size)
  replace hA := hA.below hb16
  replace HR := Lib.hid (HR.out.below hb16)
  replace hB := hB.below hb16
  replace HS := Lib.hid (HS.out.below hb16)
  clear k5 ox5
  refine (knows_any _ (HT.out _ b16)).mono ?_
  rintro e wk ⟨rfl, hbk⟩
  have bk := b16.trans (hbk.mono b16.size)
  go_wp2_with fail
  go_ret
  exact ⟨rfl, bk⟩
end Go.Proofs.YtihkfomldbjpoaaDoor.ClW
