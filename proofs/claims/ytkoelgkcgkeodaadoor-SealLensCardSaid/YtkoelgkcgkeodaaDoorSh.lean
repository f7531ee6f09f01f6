/- The law SealLens. -/
import Derived.Test.YtkoelgkcgkeodaaDoorSg
import Derived.Test.YtkoelgkcgkeodaaDoorScPosts
import Derived.Test.YtkoelgkcgkeodaaDoorScHead
namespace Go.Proofs.YtkoelgkcgkeodaaDoor.SealW
open Go.RowKit
open ShaW Sha
set_option maxRecDepth 100000 in
set_option maxHeartbeats 4000000 in
theorem lawLens (A : Option Addr) (n c : Nat) (bs : List UInt8) (l r : ByteArray) (w : World) (hT : Tab w) (hn : bs.length = n) (hb : Sl w A (bcells bs)) :
    Calls Tryd.prog 7 #[.slice A n c, .string l, .string r] w fun e w' => e = .returned (.bool true) ∧ Below w.heap.size w w' := by
  have HN : Hid (bs.length = n) := hn
  have hpos := hT.pos
  clear hn
  by_cases hg : 2000 < n
  · have hd : decide (2000 < n) = true := decide_eq_true hg
    clear hg
    go_enter Tryd.func7, Tryd.ntmps7
    go_wp2_with fail
    refine (great_any A n c _).mono ?_
    rintro e w1 ⟨rfl, rfl⟩
    rw [hd]
    go_wp2_with fail
    refine (knows_any _ hT).mono ?_
    rintro e w2 ⟨rfl, hb2⟩
    go_wp2_with fail
    go_ret
    exact ⟨rfl, hb2⟩
  have hd : decide (2000 < n) = false := decide_eq_false hg
  by_cases hl : l.size = 32
  rotate_left
  · have e1 : ¬ ((l.size : Nat) : Int) = 32 := by omega
    clear hg hl
    go_enter Tryd.func7, Tryd.ntmps7
    go_wp2_with fail
    refine (great_any A n c _).mono ?_
    rintro e w1 ⟨rfl, rfl⟩
    rw [hd]
    go_wp2_with fail
    refine (knows_any _ hT).mono ?_
    rintro e w2 ⟨rfl, hb2⟩
    go_wp2_with fail
    go_ret
    exact ⟨rfl, hb2⟩
  have e1 : ((l.size : Nat) : Int) = 32 := by omega
  have HZL : Hid (l.size = 32) := hl
  clear hl
  by_cases hr : r.size = 32
  rotate_left
  · have e2 : ¬ ((r.size : Nat) : Int) = 32 := by omega
    clear hg hr
    go_enter Tryd.func7, Tryd.ntmps7
    go_wp2_with fail
    refine (great_any A n c _).mono ?_
    rintro e w1 ⟨rfl, rfl⟩
    rw [hd]
    go_wp2_with fail
    refine (knows_any _ hT).mono ?_
    rintro e w2 ⟨rfl, hb2⟩
    go_wp2_with fail
    go_ret
    exact ⟨rfl, hb2⟩
  have e2 : ((r.size : Nat) : Int) = 32 := by omega
  have HZR : Hid (r.size = 32) := hr
  have hn2 : n ≤ 2000 := by omega
  clear hg hr
  obtain ⟨N, hN⟩ : ∃ S : ByteArray, (⟨(sha (1 :: (l.data.toList ++ r.data.toList))).toArray⟩ : ByteArray) = S := ⟨_, rfl⟩
  have HNN : Hid ((⟨(sha (1 :: (l.data.toList ++ r.data.toList))).toArray⟩ : ByteArray) = N) := hN
  have z1 : ((N.size : Nat) : Int) = 32 := by rw [← hN, sha_size]; rfl
  obtain ⟨L, hL⟩ : ∃ S : ByteArray, (⟨(sha (0 :: bs)).toArray⟩ : ByteArray) = S := ⟨_, rfl⟩
  have HL : Hid ((⟨(sha (0 :: bs)).toArray⟩ : ByteArray) = L) := hL
  have z2 : ((L.size : Nat) : Int) = 32 := by rw [← hL, sha_size]; rfl
  obtain ⟨P, hP⟩ : ∃ S : ByteArray, (⟨(sha (2 :: bs)).toArray⟩ : ByteArray) = S := ⟨_, rfl⟩
  have HP : Hid ((⟨(sha (2 :: bs)).toArray⟩ : ByteArray) = P) := hP
  have z3 : ((P.size : Nat) : Int) = 32 := by rw [← hP, sha_size]; rfl
  obtain ⟨H, hH⟩ : ∃ S : ByteArray, (⟨(sha (3 :: bs)).toArray⟩ : ByteArray) = S := ⟨_, rfl⟩
  have HH : Hid ((⟨(sha (3 :: bs)).toArray⟩ : ByteArray) = H) := hH
  have z4 : ((H.size : Nat) : Int) = 32 := by rw [← hH, sha_size]; rfl
  clear hN hL hP hH
  go_enter Tryd.func7, Tryd.ntmps7
  go_wp2_with fail
  refine (great_any A n c _).mono ?_
  rintro e w1 ⟨rfl, rfl⟩
  rw [hd]
  go_wp2_with fail
  refine (node_any l r _ hT HZL.out HZR.out).mono ?_
  rintro e w2 ⟨rfl, hb2⟩
  rw [HNN.out]
  have t2 := hT.below hb2 hpos
  go_wp2_with fail
  refine (node_any l r _ t2 HZL.out HZR.out).mono ?_
  rintro e w3 ⟨rfl, hb3⟩
  rw [HNN.out]
  have t3 := t2.below hb3 t2.pos
  have b3 := hb2.trans (hb3.mono hb2.size)
  clear hb2 hb3 t2
  have h4 : Below w3.heap.size w3 (w3.alloc (.cells #[] 5)) := (Below.refl _ _).alloc (Nat.le_refl _) _
  have o4 := own_lit w3 w3.heap.size 5 [] 0 rfl (Nat.le_refl _) (by omega)
  have hb3' := (hb.below b3).below h4
  go_wp2_with (refine wpList_app rfl (.tmp 37) (.tmp 38) 22 rfl bytesTy w3.heap.size (.slice (some ⟨w3.heap.size, 0, none⟩) 0 0) 0 [] rfl o4 A n c (bcells bs) rfl (by rw [bcells_len]; exact HN.out) hb3' (bcells_one _) (by omega) h4.size ?_; intro v4 w4 hown4 hgr4 hbl4)
  rw [Nat.zero_add, List.nil_append] at hown4
  have hb4 := below_app h4 hgr4 o4 (Nat.le_refl _) h4.size
  obtain ⟨A4, c4, rfl, hs4, hc4, _, hm4, ha4⟩ := own_slice hown4
  have t4 := t3.below hb4 t3.pos
  have b4 := b3.trans (hb4.mono b3.size)
  have hA4 := hb.below b4
  clear h4 o4 hb3' hown4 hb4 t3 b3 hgr4
  refine (leaf_any A n c bs _ t4 HN.out hA4 (by omega)).mono ?_
  rintro e w5 ⟨rfl, hb5⟩
  rw [HL.out]
  have t5 := t4.below hb5 t4.pos
  have b5 := b4.trans (hb5.mono b4.size)
  have hA5 := hA4.below hb5
  have hs5 := hs4.below hb5
  clear t4 b4 hA4 hs4 hb5
  go_wp2_with fail
  refine (posts_any A n c bs _ t5 HN.out hA5 (by omega)).mono ?_
  rintro e w6 ⟨rfl, hb6⟩
  rw [HP.out]
  have t6 := t5.below hb6 t5.pos
  have b6 := b5.trans (hb6.mono b5.size)
  have hA6 := hA5.below hb6
  have hs6 := hs5.below hb6
  clear t5 b5 hA5 hs5 hb6
  go_wp2_with fail
  refine (head_any A n c bs _ t6 HN.out hA6 (by omega)).mono ?_
  rintro e w7 ⟨rfl, hb7⟩
  rw [HH.out]
  have t7 := t6.below hb7 t6.pos
  have b7 := b6.trans (hb7.mono b6.size)
  have hA7 := hA6.below hb7
  have hs7 := hs6.below hb7
  clear t6 b6 hA6 hs6 hb7
  go_wp2_with fail
  refine (leaf_any A n c bs _ t7 HN.out hA7 (by omega)).mono ?_
  rintro e w8 ⟨rfl, hb8⟩
  rw [HL.out]
  have t8 := t7.below hb8 t7.pos
  have b8 := b7.trans (hb8.mono b7.size)
  have hs8 := hs7.below hb8
  clear t7 b7 hA7 hs7 hb8
  go_wp2_with fail
  refine (leaf_any A4 n c4 bs _ t8 HN.out hs8 (by omega)).mono ?_
  rintro e w9 ⟨rfl, hb9⟩
  rw [HL.out]
  have t9 := t8.below hb9 t8.pos
  have b9 := b8.trans (hb9.mono b8.size)
  clear t8 b8 hs8 hb9
  go_wp2_with fail
  refine (knows_any _ t9).mono ?_
  rintro e w10 ⟨rfl, hb10⟩
  have b10 := b9.trans (hb10.mono b9.size)
  go_wp2_with fail
  go_ret
  exact ⟨rfl, b10⟩
end Go.Proofs.YtkoelgkcgkeodaaDoor.SealW
