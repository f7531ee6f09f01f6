/- What is known; UtfClasses, UtfSmall, UtfEncodes. -/
import Derived.Test.YthgbmeighgpkgaaDoorUl
import Derived.Lib.SlBytesConst
import Derived.Lib.SmallJoins
namespace Go.Proofs.YthgbmeighgpkgaaDoor.UtfW
open Go.RowKit
theorem kdec : dec [195, 164, 255, 65] = [228, 65533, 65] := by decide +kernel
set_option maxRecDepth 1000000 in
set_option maxHeartbeats 1000000 in
theorem knows_any (w : World) (hT : Tabs w) : Calls Tryd.prog 13 #[] w fun e w' => e = .returned (.bool true) ∧ Below w.heap.size w w' := by
  have b0 : Below w.heap.size w (w.alloc (.cells #[.int .u8 195, .int .u8 164, .int .u8 255, .int .u8 65] 5 (4, 5))) := (Below.refl _ _).alloc (Nat.le_refl _) _
  have s0 : Sl (w.alloc (.cells #[.int .u8 195, .int .u8 164, .int .u8 255, .int .u8 65] 5 (4, 5))) (some ⟨w.heap.size, 0, none⟩) (bcells [195, 164, 255, 65]) := fun _ => ⟨w.heap.size, 0, rfl, fun j u hu => by
    rw [Nat.zero_add, World.cell?_alloc_mark]
    exact (by simpa using hu : (bcells [195, 164, 255, 65]).toArray[j]? = some u)⟩
  have kc := Lib.run_convert_bytes_const (P := Tryd.prog) w 22 5 #[.int .u8 195, .int .u8 164, .int .u8 255, .int .u8 65] 4 4 underBytes underU8
  have HT := Lib.hid (fun W (hb : Below w.heap.size w W) => hT.below hb hT.pos)
  clear hT
  go_enter Tryd.func13, Tryd.ntmps13
  go_wp2_with fail
  clear kc
  refine (decode_any (some ⟨w.heap.size, 0, none⟩) 4 4 [195, 164, 255, 65] _ (HT.out _ b0) rfl s0 (by omega) (by omega) (by omega)).mono ?_
  rintro e w2 ⟨v, rfl, hown, hb2⟩
  have b2 := b0.trans (hb2.mono b0.size)
  rw [kdec] at hown
  obtain ⟨A, c, rfl, hsl, _, _, _⟩ := hown.slice
  change Sl w2 A _ at hsl
  obtain ⟨b, o, rfl, hblt, hcell⟩ := hsl.get (j := 0) (by simp [icells])
  have c0 : w2.cell? ⟨b, o, none⟩ = some (.int .i64 228) := hcell 0 _ rfl
  have c1 : w2.cell? ⟨b, o + 1, none⟩ = some (.int .i64 65533) := hcell 1 _ rfl
  have c2 : w2.cell? ⟨b, o + 2, none⟩ = some (.int .i64 65) := hcell 2 _ rfl
  clear b0 s0 hb2 hown hsl hcell
  simp only [List.length_cons, List.length_nil, Nat.zero_add, Nat.reduceAdd]
  go_wp2_with fail
  clear c0 c1 c2
  refine (small_any 196 _ (HT.out _ b2)).mono ?_
  rintro e w3 ⟨rfl, hb3⟩
  rw [show smallU 196 = 228 by decide]
  have b3 := b2.trans (hb3.mono b2.size)
  clear b2 hb3
  go_wp2_with fail
  refine (small_any 1040 _ (HT.out _ b3)).mono ?_
  rintro e w4 ⟨rfl, hb4⟩
  rw [show smallU 1040 = 1072 by decide]
  have b4 := b3.trans (hb4.mono b3.size)
  clear b3 hb4
  go_wp2_with fail
  refine (small_any 1025 _ (HT.out _ b4)).mono ?_
  rintro e w5 ⟨rfl, hb5⟩
  rw [show smallU 1025 = 1105 by decide]
  have b5 := b4.trans (hb5.mono b4.size)
  clear b4 hb5
  go_wp2_with fail
  refine (letter_any 223 _ (HT.out _ b5)).mono ?_
  rintro e w6 ⟨rfl, hb6⟩
  rw [show letterU 223 = true by decide]
  have b6 := b5.trans (hb6.mono b5.size)
  clear b5 hb6
  go_wp2_with fail
  refine (digit_any 55 _ (HT.out _ b6)).mono ?_
  rintro e w7 ⟨rfl, hb7⟩
  rw [show inR 55 48 57 = true by decide]
  have b7 := b6.trans (hb7.mono b6.size)
  clear b6 hb7
  go_wp2_with fail
  refine (right_any 0 _).mono ?_
  rintro e w8 ⟨rfl, rfl⟩
  rw [show decide (rightC 0) = true by decide]
  go_wp2_with fail
  go_ret
  exact ⟨rfl, b7⟩
set_option maxRecDepth 1000000 in
set_option maxHeartbeats 1000000 in
theorem lawClasses (c : Int) (w : World) (hT : Tabs w) : Calls Tryd.prog 5 #[.int .i64 c] w fun e w' => e = .returned (.bool true) ∧ Below w.heap.size w w' := by
  have HT := Lib.hid (fun W (hb : Below w.heap.size w W) => hT.below hb hT.pos)
  by_cases h1 : 48 ≤ c
  · by_cases h2 : c ≤ 57
    · skip
      have hd := Lib.hid (show inR c 48 57 = true by simp [inR]; omega)
      obtain ⟨lt, hlt⟩ : ∃ lt, letterU c = lt := ⟨_, rfl⟩
      obtain ⟨sm, hsm⟩ : ∃ sm, smallU c = sm := ⟨_, rfl⟩
      have HLT := Lib.hid hlt
      have HSM := Lib.hid hsm
      clear hlt hsm
      go_enter Tryd.func5, Tryd.ntmps5
      go_wp2_with fail
      refine (letter_any c _ hT).mono ?_
      rintro e w1 ⟨rfl, b1⟩
      rw [HLT.out]
      clear hT
      go_wp2_with fail
      refine (refLetter c _).mono ?_
      rintro e w2 ⟨rfl, rfl⟩
      rw [HLT.out]
      go_wp2_with fail
      refine (digit_any c _ (HT.out _ b1)).mono ?_
      rintro e w2 ⟨rfl, hb2⟩
      rw [hd.out]
      have b2 := b1.trans (hb2.mono b1.size)
      go_wp2_with fail
      refine (small_any c _ (HT.out _ b2)).mono ?_
      rintro e w3 ⟨rfl, hb3⟩
      rw [HSM.out]
      have b3 := b2.trans (hb3.mono b2.size)
      go_wp2_with fail
      refine (refSmall c _).mono ?_
      rintro e w4 ⟨rfl, rfl⟩
      rw [HSM.out]
      go_wp2_with fail
      refine (knows_any _ (HT.out _ b3)).mono ?_
      rintro e w5 ⟨rfl, hb5⟩
      have b5 := b3.trans (hb5.mono b3.size)
      go_wp2_with fail
      go_ret
      exact ⟨ret_bool (by first | rfl | (simp; done) | (simp; omega)), b5⟩
    · skip
      have hd := Lib.hid (show inR c 48 57 = false by simp [inR]; omega)
      obtain ⟨lt, hlt⟩ : ∃ lt, letterU c = lt := ⟨_, rfl⟩
      obtain ⟨sm, hsm⟩ : ∃ sm, smallU c = sm := ⟨_, rfl⟩
      have HLT := Lib.hid hlt
      have HSM := Lib.hid hsm
      clear hlt hsm
      go_enter Tryd.func5, Tryd.ntmps5
      go_wp2_with fail
      refine (letter_any c _ hT).mono ?_
      rintro e w1 ⟨rfl, b1⟩
      rw [HLT.out]
      clear hT
      go_wp2_with fail
      refine (refLetter c _).mono ?_
      rintro e w2 ⟨rfl, rfl⟩
      rw [HLT.out]
      go_wp2_with fail
      refine (digit_any c _ (HT.out _ b1)).mono ?_
      rintro e w2 ⟨rfl, hb2⟩
      rw [hd.out]
      have b2 := b1.trans (hb2.mono b1.size)
      go_wp2_with fail
      refine (small_any c _ (HT.out _ b2)).mono ?_
      rintro e w3 ⟨rfl, hb3⟩
      rw [HSM.out]
      have b3 := b2.trans (hb3.mono b2.size)
      go_wp2_with fail
      refine (refSmall c _).mono ?_
      rintro e w4 ⟨rfl, rfl⟩
      rw [HSM.out]
      go_wp2_with fail
      refine (knows_any _ (HT.out _ b3)).mono ?_
      rintro e w5 ⟨rfl, hb5⟩
      have b5 := b3.trans (hb5.mono b3.size)
      go_wp2_with fail
      go_ret
      exact ⟨ret_bool (by first | rfl | (simp; done) | (simp; omega)), b5⟩
  · skip
    have hd := Lib.hid (show inR c 48 57 = false by simp [inR]; omega)
    obtain ⟨lt, hlt⟩ : ∃ lt, letterU c = lt := ⟨_, rfl⟩
    obtain ⟨sm, hsm⟩ : ∃ sm, smallU c = sm := ⟨_, rfl⟩
    have HLT := Lib.hid hlt
    have HSM := Lib.hid hsm
    clear hlt hsm
    go_enter Tryd.func5, Tryd.ntmps5
    go_wp2_with fail
    refine (letter_any c _ hT).mono ?_
    rintro e w1 ⟨rfl, b1⟩
    rw [HLT.out]
    clear hT
    go_wp2_with fail
    refine (refLetter c _).mono ?_
    rintro e w2 ⟨rfl, rfl⟩
    rw [HLT.out]
    go_wp2_with fail
    refine (digit_any c _ (HT.out _ b1)).mono ?_
    rintro e w2 ⟨rfl, hb2⟩
    rw [hd.out]
    have b2 := b1.trans (hb2.mono b1.size)
    go_wp2_with fail
    refine (small_any c _ (HT.out _ b2)).mono ?_
    rintro e w3 ⟨rfl, hb3⟩
    rw [HSM.out]
    have b3 := b2.trans (hb3.mono b2.size)
    go_wp2_with fail
    refine (refSmall c _).mono ?_
    rintro e w4 ⟨rfl, rfl⟩
    rw [HSM.out]
    go_wp2_with fail
    refine (knows_any _ (HT.out _ b3)).mono ?_
    rintro e w5 ⟨rfl, hb5⟩
    have b5 := b3.trans (hb5.mono b3.size)
    go_wp2_with fail
    go_ret
    exact ⟨ret_bool (by first | rfl | (simp; done) | (simp; omega)), b5⟩
set_option maxRecDepth 1000000 in
set_option maxHeartbeats 1000000 in
theorem lawSmall (c : Int) (w : World) (hT : Tabs w) : Calls Tryd.prog 8 #[.int .i64 c] w fun e w' => e = .returned (.bool true) ∧ Below w.heap.size w w' := by
  have HT := Lib.hid (fun W (hb : Below w.heap.size w W) => hT.below hb hT.pos)
  cases hl : letterU c with
  | false =>
    have HS := Lib.hid (small_no hl)
    have HL := Lib.hid hl
    clear hl
    go_enter Tryd.func8, Tryd.ntmps8
    go_wp2_with fail
    refine (small_any c _ hT).mono ?_
    rintro e w1 ⟨rfl, b1⟩
    rw [HS.out]
    clear hT
    go_wp2_with fail
    refine (letter_any c _ (HT.out _ b1)).mono ?_
    rintro e w2 ⟨rfl, hb2⟩
    rw [HL.out]
    have b2 := b1.trans (hb2.mono b1.size)
    go_wp2_with fail
    refine (knows_any _ (HT.out _ b2)).mono ?_
    rintro e w3 ⟨rfl, hb3⟩
    have b3 := b2.trans (hb3.mono b2.size)
    go_wp2_with fail
    go_ret
    exact ⟨rfl, b3⟩
  | true =>
    obtain ⟨h1, h2, h3⟩ := small_letter hl
    have HL := Lib.hid hl
    have HR := Lib.hid (decide_eq_true h3)
    have H1 := Lib.hid h1
    have H2 := Lib.hid h2
    clear hl h1 h2 h3
    generalize hs : smallU c = s at *
    have HS := Lib.hid hs
    clear hs
    go_enter Tryd.func8, Tryd.ntmps8
    go_wp2_with fail
    refine (small_any c _ hT).mono ?_
    rintro e w1 ⟨rfl, b1⟩
    rw [HS.out]
    clear hT
    go_wp2_with fail
    refine (letter_any c _ (HT.out _ b1)).mono ?_
    rintro e w2 ⟨rfl, hb2⟩
    rw [HL.out]
    have b2 := b1.trans (hb2.mono b1.size)
    go_wp2_with fail
    refine (letter_any s _ (HT.out _ b2)).mono ?_
    rintro e w3 ⟨rfl, hb3⟩
    rw [H1.out]
    have b3 := b2.trans (hb3.mono b2.size)
    go_wp2_with fail
    refine (small_any s _ (HT.out _ b3)).mono ?_
    rintro e w4 ⟨rfl, hb4⟩
    rw [H2.out]
    have b4 := b3.trans (hb4.mono b3.size)
    go_wp2_with fail
    refine (right_any s _).mono ?_
    rintro e w5 ⟨rfl, rfl⟩
    rw [HR.out]
    go_wp2_with fail
    refine (knows_any _ (HT.out _ b4)).mono ?_
    rintro e w6 ⟨rfl, hb6⟩
    have b6 := b4.trans (hb6.mono b4.size)
    go_wp2_with fail
    go_ret
    exact ⟨rfl, b6⟩
set_option maxRecDepth 1000000 in
set_option maxHeartbeats 1000000 in
theorem lawEncodes (x : Int) (w : World) (hT : Tabs w) : Calls Tryd.prog 3 #[.int .i64 x] w fun e w' => e = .returned (.bool true) ∧ Below w.heap.size w w' := by
  have HT := Lib.hid (fun W (hb : Below w.heap.size w W) => hT.below hb hT.pos)
  by_cases hr : rightC x
  · obtain ⟨c, rfl⟩ : ∃ c : Nat, x = (c : Int) := ⟨x.toNat, by unfold rightC at hr; omega⟩
    have hclt := rightC_lt hr
    have hd := Lib.hid (decide_eq_true hr)
    obtain ⟨n, hn⟩ : ∃ n, (encU c).length = n := ⟨_, rfl⟩
    have HN := Lib.hid hn
    obtain ⟨S1, hS1⟩ : ∃ S : ByteArray, S = ⟨(encU c).toArray⟩ := ⟨_, rfl⟩
    have HS1 := Lib.hid hS1
    clear hn hS1
    go_enter Tryd.func3, Tryd.ntmps3
    go_wp2_with fail
    refine (encode_ok c _ hT hr).mono ?_
    rintro e w1 ⟨v, rfl, hown, b1⟩
    obtain ⟨A, d, rfl, hs1, _, _, _⟩ := hown.slice
    rw [HN.out]
    clear hT hr hown
    go_wp2_with fail
    refine (refRight (c : Int) _).mono ?_
    rintro e w2 ⟨rfl, rfl⟩
    rw [hd.out]
    go_wp2_with fail
    refine (right_any (c : Int) _).mono ?_
    rintro e w2 ⟨rfl, rfl⟩
    rw [hd.out]
    go_wp2_with fail
    refine reg_begin (by kernel_rfl) ?_
    change wpAnyH _ _ _ _ _ 14 #[false, false, false, false, false, false, false, false, false, false, false, false, false, false] _ _
    refine reg_take (i := 0) (d := some 29) (v := (.slice A n d)) rfl rfl (by kernel_rfl) (by kernel_rfl) (by kernel_rfl) (fun _ _ _ h => h) (by rfl) (by intro w' hSw; go_simp) ?_
    try simp only [Act.put, List.setIfInBounds_toArray, List.set_cons_zero, List.set_cons_succ]
    refine reg_take (i := 1) (d := some 30) (v := (.string S1)) rfl rfl (by kernel_rfl) (by kernel_rfl) (by kernel_rfl) (fun _ _ _ h => h) (by rfl) (by intro w' hSw; have h9 := run_str (P := Tryd.prog) w' 22 9 5 underBytes underU8 underStr A (encU c) n d HN.out (hs1.drew.below hSw); rw [← HS1.out] at h9; go_simp) ?_
    try simp only [Act.put, List.setIfInBounds_toArray, List.set_cons_zero, List.set_cons_succ]
    refine reg_take (i := 2) (d := some 31) (v := (.int .i64 (c : Int))) rfl rfl (by kernel_rfl) (by kernel_rfl) (by kernel_rfl) (fun _ _ _ h => h) (by rfl) (by intro w' hSw; go_simp) ?_
    try simp only [Act.put, List.setIfInBounds_toArray, List.set_cons_zero, List.set_cons_succ]
    refine reg_call (i := 3) rfl (by kernel_rfl) (by rfl) fun K hK => ?_
    go_simp
    refine (refEncode c _ (by omega)).mono ?_
    rintro e w3 ⟨A3, rfl, hs3, hb3⟩
    refine hK.out _ _ hb3 ?_
    rw [HN.out]
    have b3 := b1.drew.trans (hb3.mono b1.drew.size)
    clear hK K
    try simp only [List.setIfInBounds_toArray, List.set_cons_zero, List.set_cons_succ]
    refine reg_take (i := 4) (d := some 33) (v := (.string S1)) rfl rfl (by kernel_rfl) (by kernel_rfl) (by kernel_rfl) (fun _ _ _ h => h) (by rfl) (by intro w' hSw; have h9 := run_str (P := Tryd.prog) w' 22 9 5 underBytes underU8 underStr A3 (encU c) n n HN.out (hs3.below hSw); rw [← HS1.out] at h9; go_simp) ?_
    try simp only [Act.put, List.setIfInBounds_toArray, List.set_cons_zero, List.set_cons_succ]
    refine reg_take (i := 5) (d := some 34) (v := (.bool true)) rfl rfl (by kernel_rfl) (by kernel_rfl) (by kernel_rfl) (fun _ _ _ h => h) (by rfl) (by intro w' hSw; go_simp) ?_
    try simp only [Act.put, List.setIfInBounds_toArray, List.set_cons_zero, List.set_cons_succ]
    refine reg_take (i := 6) (d := some 35) (v := (.bool true)) rfl rfl (by kernel_rfl) (by kernel_rfl) (by kernel_rfl) (fun _ _ _ h => h) (by rfl) (by intro w' hSw; go_simp) ?_
    try simp only [Act.put, List.setIfInBounds_toArray, List.set_cons_zero, List.set_cons_succ]
    refine reg_take (i := 7) (d := some 36) (v := (.int .i64 0)) rfl rfl (by kernel_rfl) (by kernel_rfl) (by kernel_rfl) (fun _ _ _ h => h) (by rfl) (by intro w' hSw; go_simp) ?_
    try simp only [Act.put, List.setIfInBounds_toArray, List.set_cons_zero, List.set_cons_succ]
    refine reg_take (i := 8) (d := some 37) (v := (.bool true)) rfl rfl (by kernel_rfl) (by kernel_rfl) (by kernel_rfl) (fun _ _ _ h => h) (by rfl) (by intro w' hSw; go_simp) ?_
    try simp only [Act.put, List.setIfInBounds_toArray, List.set_cons_zero, List.set_cons_succ]
    refine reg_take (i := 9) (d := some 38) (v := (.bool true)) rfl rfl (by kernel_rfl) (by kernel_rfl) (by kernel_rfl) (fun _ _ _ h => h) (by rfl) (by intro w' hSw; go_simp) ?_
    try simp only [Act.put, List.setIfInBounds_toArray, List.set_cons_zero, List.set_cons_succ]
    refine reg_take (i := 10) (d := some 39) (v := (.bool true)) rfl rfl (by kernel_rfl) (by kernel_rfl) (by kernel_rfl) (fun _ _ _ h => h) (by rfl) (by intro w' hSw; go_simp) ?_
    try simp only [Act.put, List.setIfInBounds_toArray, List.set_cons_zero, List.set_cons_succ]
    refine reg_call (i := 11) rfl (by kernel_rfl) (by rfl) fun K hK => ?_
    go_simp
    refine (knows_any _ (HT.out _ b3)).mono ?_
    rintro e w4 ⟨rfl, hb4⟩
    refine hK.out _ _ hb4 ?_
    have b4 := b3.trans (hb4.mono b3.size)
    clear hK K
    try simp only [List.setIfInBounds_toArray, List.set_cons_zero, List.set_cons_succ]
    refine reg_take (i := 12) (d := some 41) (v := (.bool true)) rfl rfl (by kernel_rfl) (by kernel_rfl) (by kernel_rfl) (fun _ _ _ h => h) (by rfl) (by intro w' hSw; go_simp) ?_
    try simp only [Act.put, List.setIfInBounds_toArray, List.set_cons_zero, List.set_cons_succ]
    refine reg_take (i := 13) (d := some 2) (v := (.bool true)) rfl rfl (by kernel_rfl) (by kernel_rfl) (by kernel_rfl) (fun _ _ _ h => h) (by rfl) (by intro w' hSw; go_simp) ?_
    try simp only [Act.put, List.setIfInBounds_toArray, List.set_cons_zero, List.set_cons_succ]
    refine wpAnyH_done (by kernel_rfl) ?_ _
    go_simp
    go_wp2_with fail
    go_ret
    exact ⟨rfl, b4⟩
  · have hd := Lib.hid (decide_eq_false hr)
    go_enter Tryd.func3, Tryd.ntmps3
    go_wp2_with fail
    refine (encode_bad x _ hr).mono ?_
    rintro e w1 ⟨rfl, rfl⟩
    go_wp2_with fail
    refine (refRight x _).mono ?_
    rintro e w2 ⟨rfl, rfl⟩
    rw [hd.out]
    go_wp2_with fail
    refine (right_any x _).mono ?_
    rintro e w2 ⟨rfl, rfl⟩
    rw [hd.out]
    clear hr
    go_wp2_with fail
    refine (knows_any _ hT).mono ?_
    rintro e w3 ⟨rfl, hb3⟩
    go_wp2_with fail
    go_ret
    exact ⟨rfl, hb3⟩
end Go.Proofs.YthgbmeighgpkgaaDoor.UtfW
