/- The law SealSeals. -/
import Derived.Test.YtkoelgkcgkeodaaDoorSg
import Derived.Test.YtkoelgkcgkeodaaDoorScPosts
import Derived.Test.YtkoelgkcgkeodaaDoorScHead
import Derived.Test.YtkoelgkcgkeodaaDoorRsNode
import Derived.Test.YtkoelgkcgkeodaaDoorReg
namespace Go.Proofs.YtkoelgkcgkeodaaDoor.SealW
open Go.RowKit
open ShaW Sha
theorem cat_one (l : ByteArray) : (⟨#[1]⟩ : ByteArray) ++ l = ⟨(1 :: l.data.toList).toArray⟩ := by
  apply ByteArray.ext
  simp
theorem cat_two (l : List UInt8) (r : ByteArray) : (⟨l.toArray⟩ : ByteArray) ++ r = ⟨(l ++ r.data.toList).toArray⟩ := by
  apply ByteArray.ext
  simp
set_option maxRecDepth 100000 in
set_option maxHeartbeats 4000000 in
theorem lawSeals (A : Option Addr) (n c : Nat) (bs : List UInt8) (l r : ByteArray) (w : World) (hT : Tab w) (hn : bs.length = n) (hb : Sl w A (bcells bs)) :
    Calls Tryd.prog 3 #[.slice A n c, .string l, .string r] w fun e w' => e = .returned (.bool true) ∧ Below w.heap.size w w' := by
  have HN : Hid (bs.length = n) := hn
  have HN1 : ∀ k : UInt8, Hid ((k :: bs).length = n + 1) := fun k => by show _ = _; simp [hn]
  have hpos := hT.pos
  clear hn
  by_cases hg : 2000 < n
  · have hd : decide (2000 < n) = true := decide_eq_true hg
    clear hg
    go_enter Tryd.func3, Tryd.ntmps3
    go_wp2_with fail
    refine (great_any A n c _).mono ?_
    rintro e w1 ⟨rfl, rfl⟩
    rw [hd]
    go_wp2_with fail
    refine (knows_any _ hT).mono ?_
    rintro e wk ⟨rfl, hbk⟩
    go_wp2_with fail
    go_ret
    exact ⟨rfl, hbk⟩
  have hd : decide (2000 < n) = false := decide_eq_false hg
  by_cases hl : 200 < l.size
  · have e1 : (200 : Int) < ((l.size : Nat) : Int) := by omega
    clear hg hl
    go_enter Tryd.func3, Tryd.ntmps3
    go_wp2_with fail
    refine (great_any A n c _).mono ?_
    rintro e w1 ⟨rfl, rfl⟩
    rw [hd]
    go_wp2_with fail
    refine (knows_any _ hT).mono ?_
    rintro e wk ⟨rfl, hbk⟩
    go_wp2_with fail
    go_ret
    exact ⟨rfl, hbk⟩
  have e1 : ¬ (200 : Int) < ((l.size : Nat) : Int) := by omega
  by_cases hr : 200 < r.size
  · have e2 : (200 : Int) < ((r.size : Nat) : Int) := by omega
    clear hg hl hr
    go_enter Tryd.func3, Tryd.ntmps3
    go_wp2_with fail
    refine (great_any A n c _).mono ?_
    rintro e w1 ⟨rfl, rfl⟩
    rw [hd]
    go_wp2_with fail
    refine (knows_any _ hT).mono ?_
    rintro e wk ⟨rfl, hbk⟩
    go_wp2_with fail
    go_ret
    exact ⟨rfl, hbk⟩
  have e2 : ¬ (200 : Int) < ((r.size : Nat) : Int) := by omega
  have hn2 : n ≤ 2000 := by omega
  have hl2 : l.size ≤ 200 := by omega
  have hr2 : r.size ≤ 200 := by omega
  clear hg hl hr
  obtain ⟨S0, qS0⟩ : ∃ S : ByteArray, (⟨(sha (0 :: bs)).toArray⟩ : ByteArray) = S := ⟨_, rfl⟩
  have HS0 : Hid ((⟨(sha (0 :: bs)).toArray⟩ : ByteArray) = S0) := qS0
  obtain ⟨S2, qS2⟩ : ∃ S : ByteArray, (⟨(sha (2 :: bs)).toArray⟩ : ByteArray) = S := ⟨_, rfl⟩
  have HS2 : Hid ((⟨(sha (2 :: bs)).toArray⟩ : ByteArray) = S2) := qS2
  obtain ⟨S3, qS3⟩ : ∃ S : ByteArray, (⟨(sha (3 :: bs)).toArray⟩ : ByteArray) = S := ⟨_, rfl⟩
  have HS3 : Hid ((⟨(sha (3 :: bs)).toArray⟩ : ByteArray) = S3) := qS3
  obtain ⟨B0, qB0⟩ : ∃ S : ByteArray, (⟨((0 :: bs : List UInt8)).toArray⟩ : ByteArray) = S := ⟨_, rfl⟩
  have HB0 : Hid ((⟨((0 :: bs : List UInt8)).toArray⟩ : ByteArray) = B0) := qB0
  obtain ⟨B2, qB2⟩ : ∃ S : ByteArray, (⟨((2 :: bs : List UInt8)).toArray⟩ : ByteArray) = S := ⟨_, rfl⟩
  have HB2 : Hid ((⟨((2 :: bs : List UInt8)).toArray⟩ : ByteArray) = B2) := qB2
  obtain ⟨B3, qB3⟩ : ∃ S : ByteArray, (⟨((3 :: bs : List UInt8)).toArray⟩ : ByteArray) = S := ⟨_, rfl⟩
  have HB3 : Hid ((⟨((3 :: bs : List UInt8)).toArray⟩ : ByteArray) = B3) := qB3
  obtain ⟨BN, qBN⟩ : ∃ S : ByteArray, (⟨((1 :: (l.data.toList ++ r.data.toList) : List UInt8)).toArray⟩ : ByteArray) = S := ⟨_, rfl⟩
  have HBN : Hid ((⟨((1 :: (l.data.toList ++ r.data.toList) : List UInt8)).toArray⟩ : ByteArray) = BN) := qBN
  obtain ⟨SN, qSN⟩ : ∃ S : ByteArray, (⟨(sha (1 :: (l.data.toList ++ r.data.toList))).toArray⟩ : ByteArray) = S := ⟨_, rfl⟩
  have HSN : Hid ((⟨(sha (1 :: (l.data.toList ++ r.data.toList))).toArray⟩ : ByteArray) = SN) := qSN
  obtain ⟨C1, qC1⟩ : ∃ S : ByteArray, (⟨((1 :: l.data.toList : List UInt8)).toArray⟩ : ByteArray) = S := ⟨_, rfl⟩
  have HC1 : Hid ((⟨((1 :: l.data.toList : List UInt8)).toArray⟩ : ByteArray) = C1) := qC1
  have cat1 : (⟨#[1]⟩ : ByteArray) ++ l = C1 := by rw [cat_one, HC1.out]
  have cat2 : C1 ++ r = BN := by rw [← HC1.out, cat_two]; exact HBN.out
  have zC : C1.size = l.size + 1 := by rw [← HC1.out, mk_size]; simp
  have sum1 : ¬ 9223372036854775807 < (⟨#[1]⟩ : ByteArray).size + l.size := by rw [show (⟨#[1]⟩ : ByteArray).size = 1 from rfl]; omega
  have sum2 : ¬ 9223372036854775807 < C1.size + r.size := by rw [zC]; omega
  have sum3 : ¬ 9223372036854775807 < 1 + l.size := by omega
  have HNB : Hid ((1 :: (l.data.toList ++ r.data.toList) : List UInt8).length = l.size + r.size + 1) := by show _ = _; simp
  have hnode : ∀ W : World, Tab W → (l.size = 32 ∧ r.size = 32) → Calls Tryd.prog 18 #[.string l, .string r] W fun e w' => e = .returned (.tuple #[.string SN, .int .i64 0]) ∧ Below W.heap.size W w' := fun W hW h => by
    rw [← HSN.out]; exact node_any l r W hW h.1 h.2
  have HNODE : Hid (∀ W : World, Tab W → (l.size = 32 ∧ r.size = 32) → Calls Tryd.prog 18 #[.string l, .string r] W fun e w' => e = .returned (.tuple #[.string SN, .int .i64 0]) ∧ Below W.heap.size W w') := hnode
  clear hnode zC qS0 qS2 qS3 qB0 qB2 qB3 qBN qSN qC1
  go_enter Tryd.func3, Tryd.ntmps3
  go_wp2_with fail
  refine (great_any A n c _).mono ?_
  rintro e w1 ⟨rfl, rfl⟩
  rw [hd]
  go_wp2_with fail
  refine (leaf_any A n c bs _ hT HN.out hb (by omega)).mono ?_
  rintro e w2 ⟨rfl, hb2⟩
  rw [HS0.out]
  have t2 := hT.below hb2 hT.pos
  have a2 := hb.below hb2
  have b2 := hb2
  go_wp2_with fail
  refine (refOf_any 0 A n c bs _ HN.out a2 (by omega)).mono ?_
  rintro e w3 ⟨rfl, hb3⟩
  rw [HS0.out]
  have t3 := t2.below hb3 t2.pos
  have a3 := a2.below hb3
  have b3 := b2.trans (hb3.mono b2.size)
  clear t2 a2 b2 hb3
  go_wp2_with fail
  refine (posts_any A n c bs _ t3 HN.out a3 (by omega)).mono ?_
  rintro e w4 ⟨rfl, hb4⟩
  rw [HS2.out]
  have t4 := t3.below hb4 t3.pos
  have a4 := a3.below hb4
  have b4 := b3.trans (hb4.mono b3.size)
  clear t3 a3 b3 hb4
  go_wp2_with fail
  refine (refOf_any 2 A n c bs _ HN.out a4 (by omega)).mono ?_
  rintro e w5 ⟨rfl, hb5⟩
  rw [HS2.out]
  have t5 := t4.below hb5 t4.pos
  have a5 := a4.below hb5
  have b5 := b4.trans (hb5.mono b4.size)
  clear t4 a4 b4 hb5
  go_wp2_with fail
  refine (head_any A n c bs _ t5 HN.out a5 (by omega)).mono ?_
  rintro e w6 ⟨rfl, hb6⟩
  rw [HS3.out]
  have t6 := t5.below hb6 t5.pos
  have a6 := a5.below hb6
  have b6 := b5.trans (hb6.mono b5.size)
  clear t5 a5 b5 hb6
  go_wp2_with fail
  refine (refOf_any 3 A n c bs _ HN.out a6 (by omega)).mono ?_
  rintro e w7 ⟨rfl, hb7⟩
  rw [HS3.out]
  have t7 := t6.below hb7 t6.pos
  have a7 := a6.below hb7
  have b7 := b6.trans (hb7.mono b6.size)
  clear t6 a6 b6 hb7
  have t8 : Tab w7.drew := t7
  have a8 : Sl w7.drew A (bcells bs) := a7
  have b8 : Below w.heap.size w w7.drew := b7.drew
  clear t7 a7 b7
  go_wp2_with fail
  refine reg_begin (by kernel_rfl) ?_
  change wpAnyH _ _ _ _ _ 25 #[false, false, false, false, false, false, false, false, false, false, false, false, false, false, false, false, false, false, false, false, false, false, false, false, false] _ _
  refine reg_take (i := 0) (d := some 41) (v := (.slice A n c)) rfl rfl (by kernel_rfl) (by kernel_rfl) (by kernel_rfl) (fun _ _ _ h => h) (by rfl) (by intro w' hSw; go_simp) ?_
  try simp only [Act.put, List.setIfInBounds_toArray, List.set_cons_zero, List.set_cons_succ]
  refine reg_take (i := 3) (d := some 44) (v := (.slice A n c)) rfl rfl (by kernel_rfl) (by kernel_rfl) (by kernel_rfl) (fun _ _ _ h => h) (by rfl) (by intro w' hSw; go_simp) ?_
  try simp only [Act.put, List.setIfInBounds_toArray, List.set_cons_zero, List.set_cons_succ]
  refine reg_call (i := 1) rfl (by kernel_rfl) (by rfl) fun K hK => ?_
  go_simp
  refine (leafBytes_any A n c bs _ HN.out a8 (by omega)).mono ?_
  rintro e w9 ⟨A9, c9, rfl, s9, _, _, hb9⟩
  refine hK.out _ _ hb9 ?_
  have a9 := a8.below hb9
  have t9 := t8.below hb9 t8.pos
  have b9 := b8.trans (hb9.mono b8.size)
  clear hK K
  try simp only [List.setIfInBounds_toArray, List.set_cons_zero, List.set_cons_succ]
  refine reg_take (i := 2) (d := some 43) (v := (.string B0)) rfl rfl (by kernel_rfl) (by kernel_rfl) (by kernel_rfl) (fun _ _ _ h => h) (by rfl) (by intro w' hSw; have h9 := run_str (P := Tryd.prog) w' 22 9 5 underBytes underU8 underStr A9 (0 :: bs) (n + 1) c9 (HN1 0).out (s9.below hSw); rw [HB0.out] at h9; go_simp) ?_
  try simp only [Act.put, List.setIfInBounds_toArray, List.set_cons_zero, List.set_cons_succ]
  refine reg_call (i := 4) rfl (by kernel_rfl) (by rfl) fun K hK => ?_
  go_simp
  refine (refBytes_any 0 A n c bs _ HN.out a9 (by omega)).mono ?_
  rintro e w10 ⟨A10, c10, rfl, s10, _, _, hb10⟩
  refine hK.out _ _ hb10 ?_
  have a10 := a9.below hb10
  have t10 := t9.below hb10 t9.pos
  have b10 := b9.trans (hb10.mono b9.size)
  clear hK K
  try simp only [List.setIfInBounds_toArray, List.set_cons_zero, List.set_cons_succ]
  refine reg_take (i := 5) (d := some 46) (v := (.string B0)) rfl rfl (by kernel_rfl) (by kernel_rfl) (by kernel_rfl) (fun _ _ _ h => h) (by rfl) (by intro w' hSw; have h9 := run_str (P := Tryd.prog) w' 22 9 5 underBytes underU8 underStr A10 (0 :: bs) (n + 1) c10 (HN1 0).out (s10.below hSw); rw [HB0.out] at h9; go_simp) ?_
  try simp only [Act.put, List.setIfInBounds_toArray, List.set_cons_zero, List.set_cons_succ]
  refine reg_take (i := 6) (d := some 47) (v := (.bool false)) rfl rfl (by kernel_rfl) (by kernel_rfl) (by kernel_rfl) (fun _ _ _ h => h) (by rfl) (by intro w' hSw; go_simp) ?_
  try simp only [Act.put, List.setIfInBounds_toArray, List.set_cons_zero, List.set_cons_succ]
  refine reg_take (i := 7) (d := some 48) (v := (.bool false)) rfl rfl (by kernel_rfl) (by kernel_rfl) (by kernel_rfl) (fun _ _ _ h => h) (by rfl) (by intro w' hSw; go_simp) ?_
  try simp only [Act.put, List.setIfInBounds_toArray, List.set_cons_zero, List.set_cons_succ]
  refine reg_take (i := 8) (d := some 49) (v := (.slice A n c)) rfl rfl (by kernel_rfl) (by kernel_rfl) (by kernel_rfl) (fun _ _ _ h => h) (by rfl) (by intro w' hSw; go_simp) ?_
  try simp only [Act.put, List.setIfInBounds_toArray, List.set_cons_zero, List.set_cons_succ]
  refine reg_take (i := 11) (d := some 52) (v := (.slice A n c)) rfl rfl (by kernel_rfl) (by kernel_rfl) (by kernel_rfl) (fun _ _ _ h => h) (by rfl) (by intro w' hSw; go_simp) ?_
  try simp only [Act.put, List.setIfInBounds_toArray, List.set_cons_zero, List.set_cons_succ]
  refine reg_call (i := 9) rfl (by kernel_rfl) (by rfl) fun K hK => ?_
  go_simp
  refine (postsBytes_any A n c bs _ HN.out a10 (by omega)).mono ?_
  rintro e w11 ⟨A11, c11, rfl, s11, _, _, hb11⟩
  refine hK.out _ _ hb11 ?_
  have a11 := a10.below hb11
  have t11 := t10.below hb11 t10.pos
  have b11 := b10.trans (hb11.mono b10.size)
  clear hK K
  try simp only [List.setIfInBounds_toArray, List.set_cons_zero, List.set_cons_succ]
  refine reg_take (i := 10) (d := some 51) (v := (.string B2)) rfl rfl (by kernel_rfl) (by kernel_rfl) (by kernel_rfl) (fun _ _ _ h => h) (by rfl) (by intro w' hSw; have h9 := run_str (P := Tryd.prog) w' 22 9 5 underBytes underU8 underStr A11 (2 :: bs) (n + 1) c11 (HN1 2).out (s11.below hSw); rw [HB2.out] at h9; go_simp) ?_
  try simp only [Act.put, List.setIfInBounds_toArray, List.set_cons_zero, List.set_cons_succ]
  refine reg_call (i := 12) rfl (by kernel_rfl) (by rfl) fun K hK => ?_
  go_simp
  refine (refBytes_any 2 A n c bs _ HN.out a11 (by omega)).mono ?_
  rintro e w12 ⟨A12, c12, rfl, s12, _, _, hb12⟩
  refine hK.out _ _ hb12 ?_
  have a12 := a11.below hb12
  have t12 := t11.below hb12 t11.pos
  have b12 := b11.trans (hb12.mono b11.size)
  clear hK K
  try simp only [List.setIfInBounds_toArray, List.set_cons_zero, List.set_cons_succ]
  refine reg_take (i := 13) (d := some 54) (v := (.string B2)) rfl rfl (by kernel_rfl) (by kernel_rfl) (by kernel_rfl) (fun _ _ _ h => h) (by rfl) (by intro w' hSw; have h9 := run_str (P := Tryd.prog) w' 22 9 5 underBytes underU8 underStr A12 (2 :: bs) (n + 1) c12 (HN1 2).out (s12.below hSw); rw [HB2.out] at h9; go_simp) ?_
  try simp only [Act.put, List.setIfInBounds_toArray, List.set_cons_zero, List.set_cons_succ]
  refine reg_take (i := 14) (d := some 55) (v := (.bool false)) rfl rfl (by kernel_rfl) (by kernel_rfl) (by kernel_rfl) (fun _ _ _ h => h) (by rfl) (by intro w' hSw; go_simp) ?_
  try simp only [Act.put, List.setIfInBounds_toArray, List.set_cons_zero, List.set_cons_succ]
  refine reg_take (i := 15) (d := some 56) (v := (.bool false)) rfl rfl (by kernel_rfl) (by kernel_rfl) (by kernel_rfl) (fun _ _ _ h => h) (by rfl) (by intro w' hSw; go_simp) ?_
  try simp only [Act.put, List.setIfInBounds_toArray, List.set_cons_zero, List.set_cons_succ]
  refine reg_take (i := 16) (d := some 57) (v := (.bool false)) rfl rfl (by kernel_rfl) (by kernel_rfl) (by kernel_rfl) (fun _ _ _ h => h) (by rfl) (by intro w' hSw; go_simp) ?_
  try simp only [Act.put, List.setIfInBounds_toArray, List.set_cons_zero, List.set_cons_succ]
  refine reg_take (i := 17) (d := some 58) (v := (.slice A n c)) rfl rfl (by kernel_rfl) (by kernel_rfl) (by kernel_rfl) (fun _ _ _ h => h) (by rfl) (by intro w' hSw; go_simp) ?_
  try simp only [Act.put, List.setIfInBounds_toArray, List.set_cons_zero, List.set_cons_succ]
  refine reg_take (i := 20) (d := some 61) (v := (.slice A n c)) rfl rfl (by kernel_rfl) (by kernel_rfl) (by kernel_rfl) (fun _ _ _ h => h) (by rfl) (by intro w' hSw; go_simp) ?_
  try simp only [Act.put, List.setIfInBounds_toArray, List.set_cons_zero, List.set_cons_succ]
  refine reg_call (i := 18) rfl (by kernel_rfl) (by rfl) fun K hK => ?_
  go_simp
  refine (headBytes_any A n c bs _ HN.out a12 (by omega)).mono ?_
  rintro e w13 ⟨A13, c13, rfl, s13, _, _, hb13⟩
  refine hK.out _ _ hb13 ?_
  have a13 := a12.below hb13
  have t13 := t12.below hb13 t12.pos
  have b13 := b12.trans (hb13.mono b12.size)
  clear hK K
  try simp only [List.setIfInBounds_toArray, List.set_cons_zero, List.set_cons_succ]
  refine reg_take (i := 19) (d := some 60) (v := (.string B3)) rfl rfl (by kernel_rfl) (by kernel_rfl) (by kernel_rfl) (fun _ _ _ h => h) (by rfl) (by intro w' hSw; have h9 := run_str (P := Tryd.prog) w' 22 9 5 underBytes underU8 underStr A13 (3 :: bs) (n + 1) c13 (HN1 3).out (s13.below hSw); rw [HB3.out] at h9; go_simp) ?_
  try simp only [Act.put, List.setIfInBounds_toArray, List.set_cons_zero, List.set_cons_succ]
  refine reg_call (i := 21) rfl (by kernel_rfl) (by rfl) fun K hK => ?_
  go_simp
  refine (refBytes_any 3 A n c bs _ HN.out a13 (by omega)).mono ?_
  rintro e w14 ⟨A14, c14, rfl, s14, _, _, hb14⟩
  refine hK.out _ _ hb14 ?_
  have a14 := a13.below hb14
  have t14 := t13.below hb14 t13.pos
  have b14 := b13.trans (hb14.mono b13.size)
  clear hK K
  try simp only [List.setIfInBounds_toArray, List.set_cons_zero, List.set_cons_succ]
  refine reg_take (i := 22) (d := some 63) (v := (.string B3)) rfl rfl (by kernel_rfl) (by kernel_rfl) (by kernel_rfl) (fun _ _ _ h => h) (by rfl) (by intro w' hSw; have h9 := run_str (P := Tryd.prog) w' 22 9 5 underBytes underU8 underStr A14 (3 :: bs) (n + 1) c14 (HN1 3).out (s14.below hSw); rw [HB3.out] at h9; go_simp) ?_
  try simp only [Act.put, List.setIfInBounds_toArray, List.set_cons_zero, List.set_cons_succ]
  refine reg_take (i := 23) (d := some 64) (v := (.bool false)) rfl rfl (by kernel_rfl) (by kernel_rfl) (by kernel_rfl) (fun _ _ _ h => h) (by rfl) (by intro w' hSw; go_simp) ?_
  try simp only [Act.put, List.setIfInBounds_toArray, List.set_cons_zero, List.set_cons_succ]
  refine reg_take (i := 24) (d := some 65) (v := (.bool false)) rfl rfl (by kernel_rfl) (by kernel_rfl) (by kernel_rfl) (fun _ _ _ h => h) (by rfl) (by intro w' hSw; go_simp) ?_
  try simp only [Act.put, List.setIfInBounds_toArray, List.set_cons_zero, List.set_cons_succ]
  refine wpAnyH_done (by kernel_rfl) ?_ _
  go_simp
  clear a8 a9 a10 a11 a12 a13 s9 s10 s11 s12 s13 b8 b9 b10 b11 b12 b13 t8 t9 t10 t11 t12 t13 hb9 hb10 hb11 hb12 hb13 hb14 s14 a14
  by_cases h32 : l.size = 32 ∧ r.size = 32
  · have f1 : ((l.size : Nat) : Int) = 32 := by omega
    have f2 : ((r.size : Nat) : Int) = 32 := by omega
    go_wp2_with fail
    refine (HNODE.out _ t14 h32).mono ?_
    rintro e w15 ⟨rfl, hb15⟩
    have t15 := t14.below hb15 t14.pos
    have b15 := b14.trans (hb15.mono b14.size)
    clear h32 t14 b14 hb15
    go_wp2_with fail
    refine (nodeBytes_any l r _ (by omega) (by omega)).mono ?_
    rintro e w16 ⟨A16, c16, rfl, s16, _, _, hb16⟩
    have t16 := t15.below hb16 t15.pos
    have b16 := b15.trans (hb16.mono b15.size)
    have v1 := run_str (P := Tryd.prog) w16 22 9 5 underBytes underU8 underStr A16 (1 :: (l.data.toList ++ r.data.toList)) (l.size + r.size + 1) c16 HNB.out s16
    rw [HBN.out] at v1
    clear t15 b15 hb16 s16
    go_wp2_with fail
    refine (refNode_any l r _ (by omega)).mono ?_
    rintro e w17 ⟨rfl, hb17⟩
    rw [HSN.out]
    have t17 := t16.below hb17 t16.pos
    have b17 := b16.trans (hb17.mono b16.size)
    clear t16 b16 hb17 v1
    go_wp2_with fail
    refine (knows_any _ t17).mono ?_
    rintro e wk ⟨rfl, hbk⟩
    go_wp2_with fail
    go_ret
    exact ⟨rfl, b17.trans (hbk.mono b17.size)⟩
  · have hbad : l.size ≠ 32 ∨ r.size ≠ 32 := by omega
    go_wp2_with fail
    refine (node_bad l r _ hbad).mono ?_
    rintro e w15 ⟨rfl, rfl⟩
    go_wp2_with fail
    refine (nodeBytes_any l r _ (by omega) (by omega)).mono ?_
    rintro e w16 ⟨A16, c16, rfl, s16, _, _, hb16⟩
    have t16 := t14.below hb16 t14.pos
    have b16 := b14.trans (hb16.mono b14.size)
    have v1 := run_str (P := Tryd.prog) w16 22 9 5 underBytes underU8 underStr A16 (1 :: (l.data.toList ++ r.data.toList)) (l.size + r.size + 1) c16 HNB.out s16
    rw [HBN.out] at v1
    clear t14 b14 hb16 s16
    by_cases h32l : l.size = 32
    · have f1 : ((l.size : Nat) : Int) = 32 := by omega
      have f2 : ¬ ((r.size : Nat) : Int) = 32 := by omega
      clear h32 hbad h32l
      go_wp2_with fail
      refine (knows_any _ t16).mono ?_
      rintro e wk ⟨rfl, hbk⟩
      go_wp2_with fail
      go_ret
      exact ⟨rfl, b16.trans (hbk.mono b16.size)⟩
    · have f1 : ¬ ((l.size : Nat) : Int) = 32 := by omega
      clear h32 hbad h32l
      go_wp2_with fail
      refine (knows_any _ t16).mono ?_
      rintro e wk ⟨rfl, hbk⟩
      go_wp2_with fail
      go_ret
      exact ⟨rfl, b16.trans (hbk.mono b16.size)⟩
end Go.Proofs.YtkoelgkcgkeodaaDoor.SealW
