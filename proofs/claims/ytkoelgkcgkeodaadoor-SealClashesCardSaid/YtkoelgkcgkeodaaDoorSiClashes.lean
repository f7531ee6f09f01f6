/- The law SealClashes. -/
import Derived.Test.YtkoelgkcgkeodaaDoorSg
import Derived.Test.YtkoelgkcgkeodaaDoorSfBetween
import Derived.Test.YtkoelgkcgkeodaaDoorRsClash
import Derived.Test.YtkoelgkcgkeodaaDoorOnly
namespace Go.Proofs.YtkoelgkcgkeodaaDoor.SealW
open Go.RowKit
open ShaW Sha
set_option maxRecDepth 100000 in
set_option maxHeartbeats 4000000 in
theorem lawClashes (A : Option Addr) (n c : Nat) (xs : List UInt8) (B : Option Addr) (l d : Nat) (ys : List UInt8) (w : World) (hT : Tab w) (hn : xs.length = n) (hA : Sl w A (bcells xs)) (hl : ys.length = l) (hB : Sl w B (bcells ys))
    (hnc : n ≤ c) (hc : c ≤ 9223372036854775807) (hld : l ≤ d) (hd63 : d ≤ 9223372036854775807) :
    Calls Tryd.prog 4 #[.slice A n c, .slice B l d] w fun e w' => e = .returned (.bool true) ∧ Below w.heap.size w w' := by
  have HN : Hid (xs.length = n) := hn
  have HL : Hid (ys.length = l) := hl
  have hpos := hT.pos
  clear hn hl
  by_cases hg : 2000 < n
  · have hd : decide (2000 < n) = true := decide_eq_true hg
    clear hg
    go_enter Tryd.func4, Tryd.ntmps4
    go_wp2_with fail
    refine (great_any A n c _).mono ?_
    rintro e w1 ⟨rfl, rfl⟩
    rw [hd]
    go_wp2_with fail
    refine (knows_any _ hT).mono ?_
    rintro e w2 ⟨rfl, hb2⟩
    go_wp2_with fail
    go_ret
    exact ⟨rfl, hb2⟩
  have hd : decide (2000 < n) = false := decide_eq_false hg
  by_cases hg2 : 2000 < l
  · have hd2 : decide (2000 < l) = true := decide_eq_true hg2
    clear hg hg2
    go_enter Tryd.func4, Tryd.ntmps4
    go_wp2_with fail
    refine (great_any A n c _).mono ?_
    rintro e w1 ⟨rfl, rfl⟩
    rw [hd]
    go_wp2_with fail
    refine (great_any B l d _).mono ?_
    rintro e w1 ⟨rfl, rfl⟩
    rw [hd2]
    go_wp2_with fail
    refine (knows_any _ hT).mono ?_
    rintro e w2 ⟨rfl, hb2⟩
    go_wp2_with fail
    go_ret
    exact ⟨rfl, hb2⟩
  have hd2 : decide (2000 < l) = false := decide_eq_false hg2
  have hn2 : n ≤ 2000 := by omega
  have hl2 : l ≤ 2000 := by omega
  clear hg hg2
  by_cases hyes : xs ≠ ys ∧ sha xs = sha ys
  · have HR : Hid (decide (xs ≠ ys ∧ sha xs = sha ys) = true) := decide_eq_true hyes
    go_enter Tryd.func4, Tryd.ntmps4
    go_wp2_with fail
    refine (great_any A n c _).mono ?_
    rintro e w1 ⟨rfl, rfl⟩
    rw [hd]
    go_wp2_with fail
    refine (great_any B l d _).mono ?_
    rintro e w1 ⟨rfl, rfl⟩
    rw [hd2]
    go_wp2_with fail
    refine (between_yes A n c xs B l d ys _ hT HN.out hA HL.out hB (by omega) (by omega) hnc hc hld hd63 hyes).mono ?_
    rintro e w2 ⟨A', c', B', d', rfl, hA', hnc', hcm', hB', hld', hdm', hb2⟩
    clear hyes
    have t2 := hT.below hb2 hpos
    have hA2 := hA.below hb2
    have hB2 := hB.below hb2
    have k3 : At (w2.alloc (.cells #[.slice none 0 0, .slice none 0 0] 36)) w2.heap.size 36 [.slice none 0 0, .slice none 0 0] := At.new_ w2 _ 36 _ rfl
    have l3 : Below w2.heap.size w2 (w2.alloc (.cells #[.slice none 0 0, .slice none 0 0] 36)) := (Below.refl _ _).alloc (Nat.le_refl _) _
    go_wp2_with (refine wpList_storeB rfl rfl 36 (.tmp 5) (.tmp 19) rfl clashTy w2.heap.size rfl [.slice A' n c', .slice B' l d'] rfl 36 _ k3 rfl rfl slices_one ?_; intro x3 kx3 ox3)
    have q3 := ox3.below _ _ l3 (Nat.le_refl _)
    have t3 := t2.below q3 t2.pos
    have hA3 := hA2.below q3
    have hB3 := hB2.below q3
    have hA3' := hA'.below q3
    have hB3' := hB'.below q3
    have b3 := hb2.trans (q3.mono hb2.size)
    have s3 := kx3.lt
    clear k3 l3 ox3 q3 hb2 t2 hA2 hB2 hA' hB'
    generalize w2.heap.size = G at *
    refine (refClash_any A n c xs B l d ys _ HN.out hA3 HL.out hB3 (by omega) (by omega)).mono ?_
    rintro e w4 ⟨rfl, hb4⟩
    rw [HR.out]
    have t4 := t3.below hb4 t3.pos
    have hA4 := hA3.below hb4
    have hB4 := hB3.below hb4
    have hA4' := hA3'.below hb4
    have hB4' := hB3'.below hb4
    have kx4 := kx3.below hb4 s3
    have b4 := b3.trans (hb4.mono b3.size)
    clear t3 hA3 hB3 hA3' hB3' kx3 b3 s3 hb4
    go_wp2_with fail
    refine (is_any A n c xs B l d ys _ t4 HN.out hA4 HL.out hB4 (by omega) (by omega) hnc hc hld hd63).mono ?_
    rintro e w5 ⟨rfl, hb5⟩
    rw [HR.out]
    have t5 := t4.below hb5 t4.pos
    have kx5 := kx4.below hb5 kx4.lt
    have b5 := b4.trans (hb5.mono b4.size)
    have cA : w5.cell? ⟨G, 0, none⟩ = some (.slice A' n c') := (kx5.cell 0).trans rfl
    have cB : w5.cell? ⟨G, 1, none⟩ = some (.slice B' l d') := (kx5.cell 1).trans rfl
    have v1 := run_str (P := Tryd.prog) w5 22 9 5 underBytes underU8 underStr A xs n c HN.out (hA4.below hb5)
    have v2 := run_str (P := Tryd.prog) w5 22 9 5 underBytes underU8 underStr B ys l d HL.out (hB4.below hb5)
    have v3 := run_str (P := Tryd.prog) w5 22 9 5 underBytes underU8 underStr A' xs n c' HN.out (hA4'.below hb5)
    have v4 := run_str (P := Tryd.prog) w5 22 9 5 underBytes underU8 underStr B' ys l d' HL.out (hB4'.below hb5)
    generalize (⟨xs.toArray⟩ : ByteArray) = X at *
    generalize (⟨ys.toArray⟩ : ByteArray) = Y at *
    clear t4 kx4 kx5 b4 hA4 hB4 hA4' hB4' hb5
    go_wp2_with fail
    refine (knows_any _ t5).mono ?_
    rintro e w6 ⟨rfl, hb6⟩
    have b6 := b5.trans (hb6.mono b5.size)
    go_wp2_with fail
    go_ret
    exact ⟨rfl, b6⟩
  · have HR : Hid (decide (xs ≠ ys ∧ sha xs = sha ys) = false) := decide_eq_false hyes
    go_enter Tryd.func4, Tryd.ntmps4
    go_wp2_with fail
    refine (great_any A n c _).mono ?_
    rintro e w1 ⟨rfl, rfl⟩
    rw [hd]
    go_wp2_with fail
    refine (great_any B l d _).mono ?_
    rintro e w1 ⟨rfl, rfl⟩
    rw [hd2]
    go_wp2_with fail
    refine (between_no A n c xs B l d ys _ hT HN.out hA HL.out hB (by omega) (by omega) hnc hc hld hd63 hyes).mono ?_
    rintro e w2 ⟨rfl, hb2⟩
    clear hyes
    have t2 := hT.below hb2 hpos
    have hA2 := hA.below hb2
    have hB2 := hB.below hb2
    have k3 : At (w2.alloc (.cells #[.slice none 0 0, .slice none 0 0] 36)) w2.heap.size 36 [.slice none 0 0, .slice none 0 0] := At.new_ w2 _ 36 _ rfl
    have l3 : Below w2.heap.size w2 (w2.alloc (.cells #[.slice none 0 0, .slice none 0 0] 36)) := (Below.refl _ _).alloc (Nat.le_refl _) _
    go_wp2_with (refine wpList_storeB rfl rfl 36 (.tmp 5) (.tmp 19) rfl clashTy w2.heap.size rfl [.slice none 0 0, .slice none 0 0] rfl 36 _ k3 rfl rfl slices_one ?_; intro x3 kx3 ox3)
    have q3 := ox3.below _ _ l3 (Nat.le_refl _)
    have t3 := t2.below q3 t2.pos
    have hA3 := hA2.below q3
    have hB3 := hB2.below q3
    have b3 := hb2.trans (q3.mono hb2.size)
    have s3 := kx3.lt
    clear k3 l3 ox3 q3 hb2 t2 hA2 hB2
    generalize w2.heap.size = G at *
    refine (refClash_any A n c xs B l d ys _ HN.out hA3 HL.out hB3 (by omega) (by omega)).mono ?_
    rintro e w4 ⟨rfl, hb4⟩
    rw [HR.out]
    have t4 := t3.below hb4 t3.pos
    have hA4 := hA3.below hb4
    have hB4 := hB3.below hb4
    have kx4 := kx3.below hb4 s3
    have b4 := b3.trans (hb4.mono b3.size)
    clear t3 hA3 hB3 kx3 b3 s3 hb4
    go_wp2_with fail
    refine (is_any A n c xs B l d ys _ t4 HN.out hA4 HL.out hB4 (by omega) (by omega) hnc hc hld hd63).mono ?_
    rintro e w5 ⟨rfl, hb5⟩
    rw [HR.out]
    have t5 := t4.below hb5 t4.pos
    have kx5 := kx4.below hb5 kx4.lt
    have b5 := b4.trans (hb5.mono b4.size)
    have cA : w5.cell? ⟨G, 0, none⟩ = some (.slice none 0 0) := (kx5.cell 0).trans rfl
    have cB : w5.cell? ⟨G, 1, none⟩ = some (.slice none 0 0) := (kx5.cell 1).trans rfl
    clear t4 kx4 kx5 b4 hA4 hB4 hb5
    go_wp2_with fail
    refine (knows_any _ t5).mono ?_
    rintro e w6 ⟨rfl, hb6⟩
    have b6 := b5.trans (hb6.mono b5.size)
    go_wp2_with fail
    go_ret
    exact ⟨rfl, b6⟩
end Go.Proofs.YtkoelgkcgkeodaaDoor.SealW
