import Derived.Test.YtfaheebinkmjlaaDoorE0
import Derived.Test.YtfaheebinkmjlaaDoorE1
namespace Go.Proofs.YtfaheebinkmjlaaDoor
open Go.RowKit
open Sha
theorem digest_nil : digestSt iv [] 0 = sha [] := rfl
set_option maxRecDepth 100000 in
set_option maxHeartbeats 2000000 in
theorem lawBad (A : Option Addr) (m c : Nat) (n : Int) (B : Option Addr) (l d : Nat) (bs : List UInt8) (w : World) (hT : Tab w) (hm63 : m ≤ 9223372036854775807) (hl : bs.length = l) (hb : Sl w B (bcells bs)) (hld : l ≤ d) (hd63 : d ≤ 9223372036854775807) :
    Calls Tryd.prog 5 #[.slice A m c, .int .i64 n, .slice B l d] w fun e w' => e = .returned (.bool true) ∧ Below w.heap.size w w' := by
  have hpos := hT.pos
  have HL : Hid (bs.length = l) := hl
  clear hl
  by_cases hm : 1000 < m
  · go_enter Tryd.func5, Tryd.ntmps5
    go_wp2_with fail
    refine (knows_any _ hT).mono ?_
    rintro e w1 ⟨rfl, hb1⟩
    go_wp2_with fail
    go_ret
    exact ⟨rfl, hb1⟩
  · by_cases hl : 1000 < l
    · go_enter Tryd.func5, Tryd.ntmps5
      go_wp2_with fail
      refine (knows_any _ hT).mono ?_
      rintro e w1 ⟨rfl, hb1⟩
      go_wp2_with fail
      go_ret
      exact ⟨rfl, hb1⟩
    · by_cases h0 : 0 ≤ n
      · by_cases h1 : n ≤ 1099511627776
        · by_cases h2 : (m : Int) = n % 64
          · have h3' : ((m : Int) == n % 64) = true := by simpa using h2
            clear h2
            go_enter Tryd.func5, Tryd.ntmps5
            go_wp2_with fail
            refine (knows_any _ hT).mono ?_
            rintro e w1 ⟨rfl, hb1⟩
            go_wp2_with fail
            go_ret
            exact ⟨rfl, hb1⟩
          · have h3' : ((m : Int) == n % 64) = false := by simpa using h2
            have HN : Hid (¬ okN m n) := fun h => h2 h.2.2
            have at0 : At (w.alloc (.cells (stc ⟨0, 0, 0, 0, 0, 0, 0, 0⟩ (.slice A m c) n).toArray 30)) w.heap.size 30 (stc ⟨0, 0, 0, 0, 0, 0, 0, 0⟩ (.slice A m c) n) := At.new_ w _ 30 _ rfl
            have b0 : Below w.heap.size w (w.alloc (.cells (stc ⟨0, 0, 0, 0, 0, 0, 0, 0⟩ (.slice A m c) n).toArray 30)) := (Below.refl _ _).alloc (Nat.le_refl _) _
            go_enter Tryd.func5, Tryd.ntmps5
            go_wp2_with fail
            refine (end_bad ⟨0, 0, 0, 0, 0, 0, 0, 0⟩ A m c n _ (hT.below b0 hpos) hm63 HN.out).mono ?_
            rintro e w1 ⟨rfl, hb1⟩
            have at1 := at0.below hb1 at0.lt
            have b1 := b0.trans (hb1.mono b0.size)
            clear at0 b0 hb1
            go_wp2_with fail
            refine (refSum_any none 0 0 [] _ rfl Sl.nil (by omega)).mono ?_
            rintro e w2 ⟨rfl, hb2⟩
            have at2 := at1.below hb2 at1.lt
            have b2 := b1.trans (hb2.mono b1.size)
            have t2 := hT.below b2 hpos
            clear at1 b1 hb2
            rw [digest_nil]
            obtain ⟨S, hS⟩ : ∃ S : ByteArray, S = ⟨(sha []).toArray⟩ := ⟨_, rfl⟩
            rw [← hS]
            clear hS
            have k0 : w2.cell? ⟨w.heap.size, 0, none⟩ = some (.int .u32 0) := (at2.cell 0).trans rfl
            have k1 : w2.cell? ⟨w.heap.size, 1, none⟩ = some (.int .u32 0) := (at2.cell 1).trans rfl
            have k2 : w2.cell? ⟨w.heap.size, 2, none⟩ = some (.int .u32 0) := (at2.cell 2).trans rfl
            have k3 : w2.cell? ⟨w.heap.size, 3, none⟩ = some (.int .u32 0) := (at2.cell 3).trans rfl
            have k4 : w2.cell? ⟨w.heap.size, 4, none⟩ = some (.int .u32 0) := (at2.cell 4).trans rfl
            have k5 : w2.cell? ⟨w.heap.size, 5, none⟩ = some (.int .u32 0) := (at2.cell 5).trans rfl
            have k6 : w2.cell? ⟨w.heap.size, 6, none⟩ = some (.int .u32 0) := (at2.cell 6).trans rfl
            have k7 : w2.cell? ⟨w.heap.size, 7, none⟩ = some (.int .u32 0) := (at2.cell 7).trans rfl
            have k8 : w2.cell? ⟨w.heap.size, 8, none⟩ = some (.slice A m c) := (at2.cell 8).trans rfl
            have k9 : w2.cell? ⟨w.heap.size, 9, none⟩ = some (.int .i64 n) := (at2.cell 9).trans rfl
            clear at2
            go_wp2_with fail
            refine (add_wide ⟨0, 0, 0, 0, 0, 0, 0, 0⟩ A m c n B l d bs _ t2 HL.out (hb.below b2) hm63 (.inl HN.out) hld hd63 (by omega)).mono ?_
            rintro e w3 ⟨A', m', c', rfl, hA', hm', hb3⟩
            have b3 := b2.trans (hb3.mono b2.size)
            have t3 := hT.below b3 hpos
            have HM : Hid ((absorb iv bs).2.length = m') := hm'
            clear k0 k1 k2 k3 k4 k5 k6 k7 k8 k9 b2 t2 hb3 hm'
            go_wp2_with fail
            refine (end_ok (absorb iv bs).1 A' m' c' l (absorb iv bs).2 w3 t3 HM.out hA' (okN_abs bs l m' HL.out HM.out (by omega))).mono ?_
            rintro e w4 ⟨rfl, hb4⟩
            have b4 := b3.trans (hb4.mono b3.size)
            have s4 := hb.below b4
            clear b3 t3 hb4 hA'
            go_wp2_with fail
            refine (refSum_any B l d bs _ HL.out s4 (by omega)).mono ?_
            rintro e w5 ⟨rfl, hb5⟩
            have b5 := b4.trans (hb5.mono b4.size)
            have t5 := hT.below b5 hpos
            clear b4 s4 hb5
            rw [show digestSt (absorb iv bs).1 (absorb iv bs).2 l = sha bs by rw [← HL.out]; rfl]
            obtain ⟨S2, hS2⟩ : ∃ S : ByteArray, S = ⟨(sha bs).toArray⟩ := ⟨_, rfl⟩
            rw [← hS2]
            clear hS2 HM
            go_wp2_with fail
            refine (knows_any _ t5).mono ?_
            rintro e w6 ⟨rfl, hb6⟩
            go_wp2_with fail
            go_ret
            exact ⟨rfl, b5.trans (hb6.mono b5.size)⟩
        · have _ := h1
          have HN : Hid (¬ okN m n) := fun h => h1 h.2.1
          have at0 : At (w.alloc (.cells (stc ⟨0, 0, 0, 0, 0, 0, 0, 0⟩ (.slice A m c) n).toArray 30)) w.heap.size 30 (stc ⟨0, 0, 0, 0, 0, 0, 0, 0⟩ (.slice A m c) n) := At.new_ w _ 30 _ rfl
          have b0 : Below w.heap.size w (w.alloc (.cells (stc ⟨0, 0, 0, 0, 0, 0, 0, 0⟩ (.slice A m c) n).toArray 30)) := (Below.refl _ _).alloc (Nat.le_refl _) _
          go_enter Tryd.func5, Tryd.ntmps5
          go_wp2_with fail
          refine (end_bad ⟨0, 0, 0, 0, 0, 0, 0, 0⟩ A m c n _ (hT.below b0 hpos) hm63 HN.out).mono ?_
          rintro e w1 ⟨rfl, hb1⟩
          have at1 := at0.below hb1 at0.lt
          have b1 := b0.trans (hb1.mono b0.size)
          clear at0 b0 hb1
          go_wp2_with fail
          refine (refSum_any none 0 0 [] _ rfl Sl.nil (by omega)).mono ?_
          rintro e w2 ⟨rfl, hb2⟩
          have at2 := at1.below hb2 at1.lt
          have b2 := b1.trans (hb2.mono b1.size)
          have t2 := hT.below b2 hpos
          clear at1 b1 hb2
          rw [digest_nil]
          obtain ⟨S, hS⟩ : ∃ S : ByteArray, S = ⟨(sha []).toArray⟩ := ⟨_, rfl⟩
          rw [← hS]
          clear hS
          have k0 : w2.cell? ⟨w.heap.size, 0, none⟩ = some (.int .u32 0) := (at2.cell 0).trans rfl
          have k1 : w2.cell? ⟨w.heap.size, 1, none⟩ = some (.int .u32 0) := (at2.cell 1).trans rfl
          have k2 : w2.cell? ⟨w.heap.size, 2, none⟩ = some (.int .u32 0) := (at2.cell 2).trans rfl
          have k3 : w2.cell? ⟨w.heap.size, 3, none⟩ = some (.int .u32 0) := (at2.cell 3).trans rfl
          have k4 : w2.cell? ⟨w.heap.size, 4, none⟩ = some (.int .u32 0) := (at2.cell 4).trans rfl
          have k5 : w2.cell? ⟨w.heap.size, 5, none⟩ = some (.int .u32 0) := (at2.cell 5).trans rfl
          have k6 : w2.cell? ⟨w.heap.size, 6, none⟩ = some (.int .u32 0) := (at2.cell 6).trans rfl
          have k7 : w2.cell? ⟨w.heap.size, 7, none⟩ = some (.int .u32 0) := (at2.cell 7).trans rfl
          have k8 : w2.cell? ⟨w.heap.size, 8, none⟩ = some (.slice A m c) := (at2.cell 8).trans rfl
          have k9 : w2.cell? ⟨w.heap.size, 9, none⟩ = some (.int .i64 n) := (at2.cell 9).trans rfl
          clear at2
          go_wp2_with fail
          refine (add_wide ⟨0, 0, 0, 0, 0, 0, 0, 0⟩ A m c n B l d bs _ t2 HL.out (hb.below b2) hm63 (.inl HN.out) hld hd63 (by omega)).mono ?_
          rintro e w3 ⟨A', m', c', rfl, hA', hm', hb3⟩
          have b3 := b2.trans (hb3.mono b2.size)
          have t3 := hT.below b3 hpos
          have HM : Hid ((absorb iv bs).2.length = m') := hm'
          clear k0 k1 k2 k3 k4 k5 k6 k7 k8 k9 b2 t2 hb3 hm'
          go_wp2_with fail
          refine (end_ok (absorb iv bs).1 A' m' c' l (absorb iv bs).2 w3 t3 HM.out hA' (okN_abs bs l m' HL.out HM.out (by omega))).mono ?_
          rintro e w4 ⟨rfl, hb4⟩
          have b4 := b3.trans (hb4.mono b3.size)
          have s4 := hb.below b4
          clear b3 t3 hb4 hA'
          go_wp2_with fail
          refine (refSum_any B l d bs _ HL.out s4 (by omega)).mono ?_
          rintro e w5 ⟨rfl, hb5⟩
          have b5 := b4.trans (hb5.mono b4.size)
          have t5 := hT.below b5 hpos
          clear b4 s4 hb5
          rw [show digestSt (absorb iv bs).1 (absorb iv bs).2 l = sha bs by rw [← HL.out]; rfl]
          obtain ⟨S2, hS2⟩ : ∃ S : ByteArray, S = ⟨(sha bs).toArray⟩ := ⟨_, rfl⟩
          rw [← hS2]
          clear hS2 HM
          go_wp2_with fail
          refine (knows_any _ t5).mono ?_
          rintro e w6 ⟨rfl, hb6⟩
          go_wp2_with fail
          go_ret
          exact ⟨rfl, b5.trans (hb6.mono b5.size)⟩
      · have _ := h0
        have HN : Hid (¬ okN m n) := fun h => h0 h.1
        have at0 : At (w.alloc (.cells (stc ⟨0, 0, 0, 0, 0, 0, 0, 0⟩ (.slice A m c) n).toArray 30)) w.heap.size 30 (stc ⟨0, 0, 0, 0, 0, 0, 0, 0⟩ (.slice A m c) n) := At.new_ w _ 30 _ rfl
        have b0 : Below w.heap.size w (w.alloc (.cells (stc ⟨0, 0, 0, 0, 0, 0, 0, 0⟩ (.slice A m c) n).toArray 30)) := (Below.refl _ _).alloc (Nat.le_refl _) _
        go_enter Tryd.func5, Tryd.ntmps5
        go_wp2_with fail
        refine (end_bad ⟨0, 0, 0, 0, 0, 0, 0, 0⟩ A m c n _ (hT.below b0 hpos) hm63 HN.out).mono ?_
        rintro e w1 ⟨rfl, hb1⟩
        have at1 := at0.below hb1 at0.lt
        have b1 := b0.trans (hb1.mono b0.size)
        clear at0 b0 hb1
        go_wp2_with fail
        refine (refSum_any none 0 0 [] _ rfl Sl.nil (by omega)).mono ?_
        rintro e w2 ⟨rfl, hb2⟩
        have at2 := at1.below hb2 at1.lt
        have b2 := b1.trans (hb2.mono b1.size)
        have t2 := hT.below b2 hpos
        clear at1 b1 hb2
        rw [digest_nil]
        obtain ⟨S, hS⟩ : ∃ S : ByteArray, S = ⟨(sha []).toArray⟩ := ⟨_, rfl⟩
        rw [← hS]
        clear hS
        have k0 : w2.cell? ⟨w.heap.size, 0, none⟩ = some (.int .u32 0) := (at2.cell 0).trans rfl
        have k1 : w2.cell? ⟨w.heap.size, 1, none⟩ = some (.int .u32 0) := (at2.cell 1).trans rfl
        have k2 : w2.cell? ⟨w.heap.size, 2, none⟩ = some (.int .u32 0) := (at2.cell 2).trans rfl
        have k3 : w2.cell? ⟨w.heap.size, 3, none⟩ = some (.int .u32 0) := (at2.cell 3).trans rfl
        have k4 : w2.cell? ⟨w.heap.size, 4, none⟩ = some (.int .u32 0) := (at2.cell 4).trans rfl
        have k5 : w2.cell? ⟨w.heap.size, 5, none⟩ = some (.int .u32 0) := (at2.cell 5).trans rfl
        have k6 : w2.cell? ⟨w.heap.size, 6, none⟩ = some (.int .u32 0) := (at2.cell 6).trans rfl
        have k7 : w2.cell? ⟨w.heap.size, 7, none⟩ = some (.int .u32 0) := (at2.cell 7).trans rfl
        have k8 : w2.cell? ⟨w.heap.size, 8, none⟩ = some (.slice A m c) := (at2.cell 8).trans rfl
        have k9 : w2.cell? ⟨w.heap.size, 9, none⟩ = some (.int .i64 n) := (at2.cell 9).trans rfl
        clear at2
        go_wp2_with fail
        refine (add_wide ⟨0, 0, 0, 0, 0, 0, 0, 0⟩ A m c n B l d bs _ t2 HL.out (hb.below b2) hm63 (.inl HN.out) hld hd63 (by omega)).mono ?_
        rintro e w3 ⟨A', m', c', rfl, hA', hm', hb3⟩
        have b3 := b2.trans (hb3.mono b2.size)
        have t3 := hT.below b3 hpos
        have HM : Hid ((absorb iv bs).2.length = m') := hm'
        clear k0 k1 k2 k3 k4 k5 k6 k7 k8 k9 b2 t2 hb3 hm'
        go_wp2_with fail
        refine (end_ok (absorb iv bs).1 A' m' c' l (absorb iv bs).2 w3 t3 HM.out hA' (okN_abs bs l m' HL.out HM.out (by omega))).mono ?_
        rintro e w4 ⟨rfl, hb4⟩
        have b4 := b3.trans (hb4.mono b3.size)
        have s4 := hb.below b4
        clear b3 t3 hb4 hA'
        go_wp2_with fail
        refine (refSum_any B l d bs _ HL.out s4 (by omega)).mono ?_
        rintro e w5 ⟨rfl, hb5⟩
        have b5 := b4.trans (hb5.mono b4.size)
        have t5 := hT.below b5 hpos
        clear b4 s4 hb5
        rw [show digestSt (absorb iv bs).1 (absorb iv bs).2 l = sha bs by rw [← HL.out]; rfl]
        obtain ⟨S2, hS2⟩ : ∃ S : ByteArray, S = ⟨(sha bs).toArray⟩ := ⟨_, rfl⟩
        rw [← hS2]
        clear hS2 HM
        go_wp2_with fail
        refine (knows_any _ t5).mono ?_
        rintro e w6 ⟨rfl, hb6⟩
        go_wp2_with fail
        go_ret
        exact ⟨rfl, b5.trans (hb6.mono b5.size)⟩
end Go.Proofs.YtfaheebinkmjlaaDoor
