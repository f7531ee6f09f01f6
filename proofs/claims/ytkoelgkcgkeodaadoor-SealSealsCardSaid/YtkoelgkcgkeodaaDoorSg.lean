/- layer 3: what is known. -/
import Derived.Test.YtkoelgkcgkeodaaDoorSeIs
import Derived.Test.YtkoelgkcgkeodaaDoorScLeaf
import Derived.Test.YtkoelgkcgkeodaaDoorScNode
import Derived.Test.YtkoelgkcgkeodaaDoorB1
namespace Go.Proofs.YtkoelgkcgkeodaaDoor.SealW
open Go.RowKit
open ShaW Sha
theorem sha_len (l : List UInt8) : (sha l).length = 32 := by unfold sha digestSt; rw [textB_len]; rfl
theorem self_no (l : List UInt8) : decide (l ≠ l ∧ sha l = sha l) = false := by simp
theorem mk_size (l : List UInt8) : (⟨l.toArray⟩ : ByteArray).size = l.length := by simp [ByteArray.size]
theorem sha_size (l : List UInt8) : (⟨(sha l).toArray⟩ : ByteArray).size = 32 := by rw [mk_size, sha_len]
theorem hex_leaf : hexL (sha [0]) = [54, 101, 51, 52, 48, 98, 57, 99, 102, 102, 98, 51, 55, 97, 57, 56, 57, 99, 97, 53, 52, 52, 101, 54, 98, 98, 55, 56, 48, 97, 50, 99, 55, 56, 57, 48, 49, 100, 51, 102, 98, 51, 51, 55, 51, 56, 55, 54, 56, 53, 49, 49, 97, 51, 48, 54, 49, 55, 97, 102, 97, 48, 49, 100] := by
  decide +kernel
theorem great_any (A : Option Addr) (n c : Nat) (w : World) : Calls Tryd.prog 8 #[.slice A n c] w fun e w' => e = .returned (.bool (decide (2000 < n))) ∧ w = w' := by
  by_cases h : 2000 < n
  · have h1 : (2000 : Int) < (n : Int) := by omega
    rw [decide_eq_true h]
    clear h
    go_enter Tryd.func8, Tryd.ntmps8
    go_wp2_with fail
    go_ret
    exact ⟨rfl, rfl⟩
  · have h1 : ¬ (2000 : Int) < (n : Int) := by omega
    rw [decide_eq_false h]
    clear h
    go_enter Tryd.func8, Tryd.ntmps8
    go_wp2_with fail
    go_ret
    exact ⟨rfl, rfl⟩
set_option maxRecDepth 100000 in
set_option maxHeartbeats 2000000 in
theorem knows_any (w : World) (hT : Tab w) : Calls Tryd.prog 9 #[] w fun e w' => e = .returned (.bool true) ∧ Below w.heap.size w w' := by
  have hpos := hT.pos
  obtain ⟨L0, hL0⟩ : ∃ S : ByteArray, (⟨(sha [0]).toArray⟩ : ByteArray) = S := ⟨_, rfl⟩
  obtain ⟨L1, hL1⟩ : ∃ S : ByteArray, (⟨(sha [0, 1]).toArray⟩ : ByteArray) = S := ⟨_, rfl⟩
  have HL0 : Hid ((⟨(sha [0]).toArray⟩ : ByteArray) = L0) := hL0
  have HL1 : Hid ((⟨(sha [0, 1]).toArray⟩ : ByteArray) = L1) := hL1
  have HZ0 : Hid (L0.size = 32) := by show _ = _; rw [← hL0, sha_size]
  have HZ1 : Hid (L1.size = 32) := by show _ = _; rw [← hL1, sha_size]
  have HH : Hid ((⟨(hexL L0.data.toList).toArray⟩ : ByteArray) = ⟨#[54, 101, 51, 52, 48, 98, 57, 99, 102, 102, 98, 51, 55, 97, 57, 56, 57, 99, 97, 53, 52, 52, 101, 54, 98, 98, 55, 56, 48, 97, 50, 99, 55, 56, 57, 48, 49, 100, 51, 102, 98, 51, 51, 55, 51, 56, 55, 54, 56, 53, 49, 49, 97, 51, 48, 54, 49, 55, 97, 102, 97, 48, 49, 100]⟩) := by
    show _ = _; rw [← hL0]; exact congrArg (fun l : List UInt8 => (⟨l.toArray⟩ : ByteArray)) hex_leaf
  clear hL0 hL1
  go_enter Tryd.func9, Tryd.ntmps9
  go_wp2_with fail
  refine (leaf_any none 0 0 [] _ hT rfl Sl.nil (by omega)).mono ?_
  rintro e w1 ⟨rfl, hb1⟩
  rw [HL0.out]
  have t1 := hT.below hb1 hpos
  have h1 : Below w1.heap.size w1 (w1.alloc (.cells #[.int .u8 1] 5)) := (Below.refl _ _).alloc (Nat.le_refl _) _
  have s1 : Sl (w1.alloc (.cells #[.int .u8 1] 5)) (some ⟨w1.heap.size, 0, none⟩) (bcells [1]) := Sl.of_at_all (At.new_ w1 _ 5 (bcells [1]) rfl)
  go_wp2_with fail
  refine (leaf_any (some ⟨w1.heap.size, 0, none⟩) 1 1 [1] _ (t1.below h1 t1.pos) rfl s1 (by omega)).mono ?_
  rintro e w2 ⟨rfl, hb2⟩
  rw [HL1.out]
  have t2 := (t1.below h1 t1.pos).below hb2 (t1.below h1 t1.pos).pos
  have b2 := (hb1.trans (h1.mono hb1.size)).trans (hb2.mono (hb1.trans (h1.mono hb1.size)).size)
  clear hb1 h1 s1 hb2 t1
  go_wp2_with fail
  refine (node_any L0 L1 _ t2 HZ0.out HZ1.out).mono ?_
  rintro e w3 ⟨rfl, hb3⟩
  have t3 := t2.below hb3 t2.pos
  have b3 := b2.trans (hb3.mono b2.size)
  have HN : Hid ((⟨(sha (1 :: (L0.data.toList ++ L1.data.toList))).toArray⟩ : ByteArray).size = 32) := sha_size _
  generalize (⟨(sha (1 :: (L0.data.toList ++ L1.data.toList))).toArray⟩ : ByteArray) = N at *
  have hN : ((N.size : Nat) : Int) = 32 := by rw [HN.out]; rfl
  clear hb3 b2 t2
  go_wp2_with fail
  refine (leaf_any none 0 0 [] _ t3 rfl Sl.nil (by omega)).mono ?_
  rintro e w4 ⟨rfl, hb4⟩
  rw [HL0.out]
  have t4 := t3.below hb4 t3.pos
  have b4 := b3.trans (hb4.mono b3.size)
  clear hb4 b3 t3
  go_wp2_with fail
  refine (node_bad ⟨#[]⟩ L0 _ (.inl (by decide))).mono ?_
  rintro e w5 ⟨rfl, rfl⟩
  go_wp2_with fail
  refine (leaf_any none 0 0 [] _ t4 rfl Sl.nil (by omega)).mono ?_
  rintro e w6 ⟨rfl, hb6⟩
  rw [HL0.out]
  have t6 := t4.below hb6 t4.pos
  have b6 := b4.trans (hb6.mono b4.size)
  clear hb6 b4 t4
  go_wp2_with fail
  refine (hex_any L0 _ (by rw [HZ0.out]; omega)).mono ?_
  rintro e w7 ⟨rfl, hb7⟩
  rw [HH.out]
  have t7 := t6.below hb7 t6.pos
  have b7 := b6.trans (hb7.mono b6.size)
  clear hb7 b6 t6
  have h8 : Below w7.heap.size w7 (w7.alloc (.cells #[.int .u8 1] 5)) := (Below.refl _ _).alloc (Nat.le_refl _) _
  have s8 : Sl (w7.alloc (.cells #[.int .u8 1] 5)) (some ⟨w7.heap.size, 0, none⟩) (bcells [1]) := Sl.of_at_all (At.new_ w7 _ 5 (bcells [1]) rfl)
  have h9 : Below (w7.alloc (.cells #[.int .u8 1] 5)).heap.size (w7.alloc (.cells #[.int .u8 1] 5)) ((w7.alloc (.cells #[.int .u8 1] 5)).alloc (.cells #[.int .u8 1] 5)) := (Below.refl _ _).alloc (Nat.le_refl _) _
  have s9 : Sl ((w7.alloc (.cells #[.int .u8 1] 5)).alloc (.cells #[.int .u8 1] 5)) (some ⟨w7.heap.size + 1, 0, none⟩) (bcells [1]) := Sl.of_at_all (At.new_ _ _ 5 (bcells [1]) (by simp))
  have t8 := t7.below h8 t7.pos
  have t9 := t8.below h9 t8.pos
  have b8 := b7.trans (h8.mono b7.size)
  have b9 := b8.trans (h9.mono b8.size)
  have s8' := s8.below h9
  clear h8 h9 b8 b7 t7 t8 s8
  go_wp2_with fail
  refine (is_any (some ⟨w7.heap.size, 0, none⟩) 1 1 [1] (some ⟨w7.heap.size + 1, 0, none⟩) 1 1 [1] _ t9 rfl s8' rfl s9 (by omega) (by omega) (by omega) (by omega) (by omega) (by omega)).mono ?_
  rintro e w10 ⟨rfl, hb10⟩
  rw [self_no]
  have b10 := b9.trans (hb10.mono b9.size)
  go_wp2_with fail
  go_ret
  exact ⟨rfl, b10⟩
end Go.Proofs.YtkoelgkcgkeodaaDoor.SealW
