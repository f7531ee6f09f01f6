/- rubrickref03: Clash. -/
import Derived.Test.YtkoelgkcgkeodaaDoorSd
import Derived.Test.YtkoelgkcgkeodaaDoorD5
namespace Go.Proofs.YtkoelgkcgkeodaaDoor.SealW
open Go.RowKit
open ShaW Sha
set_option maxHeartbeats 1000000 in
theorem refClash_any (A : Option Addr) (n c : Nat) (xs : List UInt8) (B : Option Addr) (l d : Nat) (ys : List UInt8) (w : World) (hn : xs.length = n) (hA : Sl w A (bcells xs)) (hl : ys.length = l) (hB : Sl w B (bcells ys)) (hn40 : n ≤ 1000000000000) (hl40 : l ≤ 1000000000000) :
    Calls Tryd.prog 22 #[.slice A n c, .slice B l d] w fun e w' => e = .returned (.bool (decide (xs ≠ ys ∧ sha xs = sha ys))) ∧ Below w.heap.size w w' := by
  have HN : Hid (xs.length = n) := hn
  have HL : Hid (ys.length = l) := hl
  clear hn hl
  go_enter Tryd.func22, Tryd.ntmps22
  go_wp2_with fail
  refine (refSum_any A n c xs _ HN.out hA (by omega)).mono ?_
  rintro e w1 ⟨rfl, hb1⟩
  have hA1 := hA.below hb1
  have hB1 := hB.below hb1
  clear hA hB
  go_wp2_with fail
  refine (refSum_any B l d ys _ HL.out hB1 (by omega)).mono ?_
  rintro e w2 ⟨rfl, hb2⟩
  have hbel := hb1.trans (hb2.mono hb1.size)
  have e1 := run_str (P := Tryd.prog) w2 22 9 5 underBytes underU8 underStr A xs n c HN.out (hA1.below hb2)
  have e2 := run_str (P := Tryd.prog) w2 22 9 5 underBytes underU8 underStr B ys l d HL.out (hB1.below hb2)
  have HD : Hid (((⟨(sha xs).toArray⟩ : ByteArray) = ⟨(sha ys).toArray⟩) ↔ sha xs = sha ys) := mk_inj
  have HE : Hid (((⟨xs.toArray⟩ : ByteArray) = ⟨ys.toArray⟩) ↔ xs = ys) := mk_inj
  generalize (⟨(sha xs).toArray⟩ : ByteArray) = S at *
  generalize (⟨(sha ys).toArray⟩ : ByteArray) = T at *
  generalize (⟨xs.toArray⟩ : ByteArray) = X at *
  generalize (⟨ys.toArray⟩ : ByteArray) = Y at *
  clear hb1 hb2 hA1 hB1
  by_cases hS : S = T
  · have HS : Hid (sha xs = sha ys) := HD.out.1 hS
    have q1 := beq_yes hS
    clear hS
    by_cases hX : X = Y
    · have HX : Hid (xs = ys) := HE.out.1 hX
      have q2 := beq_yes hX
      clear hX
      go_wp2_with fail
      go_ret
      refine ⟨?_, hbel⟩
      simp [HX.out]
    · have HX : Hid (xs ≠ ys) := fun h => hX (HE.out.2 h)
      have q2 := beq_no hX
      have q3 : ¬ X.toList = Y.toList := by simpa using q2
      clear hX
      go_wp2_with fail
      go_ret
      refine ⟨?_, hbel⟩
      simp [HX.out, HS.out]
  · have HS : Hid (sha xs ≠ sha ys) := fun h => hS (HD.out.2 h)
    have q1 := beq_no hS
    have q3 : ¬ S.toList = T.toList := by simpa using q1
    clear hS
    go_wp2_with fail
    go_ret
    refine ⟨?_, hbel⟩
    simp [HS.out]
end Go.Proofs.YtkoelgkcgkeodaaDoor.SealW
