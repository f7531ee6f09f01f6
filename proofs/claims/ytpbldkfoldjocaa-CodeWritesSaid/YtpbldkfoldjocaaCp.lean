/- The law CodeWrites. -/
import Derived.Test.YtpbldkfoldjocaaCn
import Derived.Deep.DeepCutAuto
import Derived.Test.YtpbldkfoldjocaaReg
namespace Go.Proofs.Ytpbldkfoldjocaa
open Go.RowKit
open Cod
theorem cat_eq (a b : List UInt8) : ByteArray.mk a.toArray ++ ByteArray.mk b.toArray = ByteArray.mk (a ++ b).toArray := by
  apply ByteArray.ext
  simp
theorem mk_size (l : List UInt8) : (ByteArray.mk l.toArray).size = l.length := by
  show l.toArray.size = _
  simp
theorem num_cat (B : Option Addr) (l d : Nat) (bs : List UInt8) (n : Nat) (w : World) (hl : bs.length = l) (hb : Sl w B (bcells bs)) (hn : n ≤ 4611686018427387904) (h46 : l ≤ 70368744177664) :
    Calls Try.prog 9 #[.slice B l d, .int .i64 n] w fun e w' => ∃ A c, e = .returned (.tuple #[.slice A (bs ++ enc n).length c, .int .i64 0]) ∧ Sl w' A (bcells (bs ++ enc n)) ∧ Below w.heap.size w w' :=
  (num_any B l d bs n w hl hb hn h46).mono fun e w' ⟨v, h1, h2, h3⟩ => by
    obtain ⟨A, c, rfl, h4, h5, _⟩ := h2.slice
    exact ⟨A, c, h1, h4, h3⟩
theorem ref_num (n : Nat) (w : World) (hn : n ≤ 9223372036854775807) :
    Calls Try.prog 10 #[.int .i64 n] w fun e w' => ∃ A c, e = .returned (.slice A (enc n).length c) ∧ Sl w' A (bcells (enc n)) ∧ Below w.heap.size w w' :=
  (refNum n w hn).mono fun e w' ⟨v, h1, h2, h3⟩ => by
    obtain ⟨A, c, rfl, h4, h5, _⟩ := h2.slice
    exact ⟨A, c, h1, h4, h3⟩
theorem ref_text (s : ByteArray) (w : World) (hs : s.size ≤ 70368744177664) :
    Calls Try.prog 12 #[.string s] w fun e w' => ∃ A c, e = .returned (.slice A (encT s.data.toList).length c) ∧ Sl w' A (bcells (encT s.data.toList)) ∧ Below w.heap.size w w' :=
  (refText s w hs).mono fun e w' ⟨v, h1, h2, h3⟩ => by
    obtain ⟨A, c, rfl, h4, h5, _⟩ := h2.slice
    exact ⟨A, c, h1, h4, h3⟩
theorem ref_list (A : Option Addr) (n c : Nat) (ss : List ByteArray) (w : World) (hn : ss.length = n) (hA : Sl w A (scells ss)) (hn63 : n ≤ 70368744177664) (h45 : (encL (sbytes ss)).length ≤ 35184372088832) :
    Calls Try.prog 14 #[.slice A n c] w fun e w' => ∃ A c, e = .returned (.slice A (encL (sbytes ss)).length c) ∧ Sl w' A (bcells (encL (sbytes ss))) ∧ Below w.heap.size w w' :=
  (refList A n c ss w hn hA hn63 h45).mono fun e w' ⟨v, h1, h2, h3⟩ => by
    obtain ⟨A, c, rfl, h4, h5, _⟩ := h2.slice
    exact ⟨A, c, h1, h4, h3⟩
set_option maxRecDepth 100000 in
set_option maxHeartbeats 4000000 in
theorem writes_main (v : Int) (s : ByteArray) (A : Option Addr) (m c : Nat) (ss : List ByteArray) (B : Option Addr) (l d : Nat) (R : List UInt8) (w : World) (hs : s.size ≤ 1000)
    (hm : ss.length = m) (hA : Sl w A (scells ss)) (hm50 : ss.length ≤ 50) (hsz : ∀ s ∈ ss, s.size ≤ 1000) (hl : R.length = l) (hB : Sl w B (bcells R)) (hl100 : l ≤ 100) :
    Calls Try.prog 3 #[.int .i64 v, .string s, .slice A m c, .slice B l d] w fun e w' => e = .returned (.bool true) ∧ Below w.heap.size w w' := by
  have HL : Hid (R.length = l) := hl
  have HM : Hid (ss.length = m) := hm
  have hm50' : m ≤ 50 := by omega
  have hLL := encL_le ss hm50 hsz
  clear hl hm hsz
  have o0 : (w.alloc (.cells #[] 5)).ownsRow w.heap.size 5 1 (.slice (some ⟨w.heap.size, 0, none⟩) 0 0) 0 [] := own_lit w w.heap.size 5 [] 0 rfl (Nat.le_refl _) (by omega)
  have p0 : Below w.heap.size w (w.alloc (.cells #[] 5)) := (Below.refl _ _).alloc (Nat.le_refl _) _
  go_enter Try.func3, Try.ntmps3
  go_wp2_with fail
  refine (great_any A m c ss _ HM.out hA (by omega)).mono ?_
  rintro e w1 ⟨b, rfl, hb, rfl⟩
  cases b with
  | true =>
    go_wp2_with fail
    refine (knows_any _).mono ?_
    rintro e w1 ⟨rfl, hb1⟩
    go_wp2_with fail
    go_ret
    exact ⟨rfl, hb1⟩
  | false =>
    clear hb
    by_cases hv : v < 0 ∨ 4611686018427387904 < v
    · have HBAD : Hid (∀ (A1 : Option Addr) (c1 : Nat) (w1 : World), Calls Try.prog 9 #[.slice A1 l c1, .int .i64 v] w1 fun e w' => e = .returned (.tuple #[.slice none 0 0, .int .i64 1]) ∧ Below w1.heap.size w1 w') := fun A1 c1 w1 => (num_bad A1 l c1 v w1 hv).mono fun e w' h => ⟨h.1, h.2 ▸ Below.refl _ _⟩
      have HV : Hid (v < 0 ∨ 4611686018427387904 < v) := hv
      clear hv
      go_wp2_with (refine wpList_app rfl (.tmp 25) (.tmp 26) 23 rfl bytesTy w.heap.size _ 0 [] rfl o0 B l d (bcells R) rfl (by rw [bcells_len]; exact HL.out) (hB.below p0) (bcells_one _) (by omega) (by simp) ?_; intro v1 w1 hown1 hgr1 hbl1; have p1 := below_app p0 hgr1 o0 (Nat.le_refl _) (by simp); simp only [Nat.zero_add, List.nil_append] at hown1; obtain ⟨A1, c1, rfl, hs1, hc1, _⟩ := own_slice hown1)
      refine (HBAD.out A1 c1 _).mono ?_
      rintro e wc ⟨rfl, hbc⟩
      have hcut := p1.trans (hbc.mono p1.size)
      clear o0 p0 hown1 hgr1 hbl1 p1 hs1 hc1 hbc HBAD
      obtain ⟨Sa, hSa⟩ : ∃ S : ByteArray, S = ⟨R.toArray⟩ := ⟨_, rfl⟩
      have HSA : Hid (Sa = ⟨R.toArray⟩) := hSa
      clear hSa
      rcases HV.out with hneg | hpos
      · clear HV
        go_wp2_with fail
        --R9
        have hBc := hB.below hcut.drew
        have sc : w.heap.size ≤ wc.drew.heap.size := hcut.size
        have hT9 := encT_len s.data.toList (by rw [bsize]; omega)
        rw [bsize] at hT9
        obtain ⟨lt, hlt⟩ : ∃ l, (R ++ encT s.data.toList).length = l := ⟨_, rfl⟩
        have HLT : Hid ((R ++ encT s.data.toList).length = lt) := hlt
        obtain ⟨ST, hST⟩ : ∃ S : ByteArray, S = ⟨(R ++ encT s.data.toList).toArray⟩ := ⟨_, rfl⟩
        have HST : Hid (ST = ⟨(R ++ encT s.data.toList).toArray⟩) := hST
        obtain ⟨lu, hlu⟩ : ∃ l, (encT s.data.toList).length = l := ⟨_, rfl⟩
        have HLU : Hid ((encT s.data.toList).length = lu) := hlu
        obtain ⟨SU, hSU⟩ : ∃ S : ByteArray, S = ⟨(encT s.data.toList).toArray⟩ := ⟨_, rfl⟩
        have HSU : Hid (SU = ⟨(encT s.data.toList).toArray⟩) := hSU
        obtain ⟨lv, hlv⟩ : ∃ l, (R ++ encL (sbytes ss)).length = l := ⟨_, rfl⟩
        have HLV : Hid ((R ++ encL (sbytes ss)).length = lv) := hlv
        obtain ⟨SV, hSV⟩ : ∃ S : ByteArray, S = ⟨(R ++ encL (sbytes ss)).toArray⟩ := ⟨_, rfl⟩
        have HSV : Hid (SV = ⟨(R ++ encL (sbytes ss)).toArray⟩) := hSV
        obtain ⟨lw, hlw⟩ : ∃ l, (encL (sbytes ss)).length = l := ⟨_, rfl⟩
        have HLW : Hid ((encL (sbytes ss)).length = lw) := hlw
        obtain ⟨SW, hSW⟩ : ∃ S : ByteArray, S = ⟨(encL (sbytes ss)).toArray⟩ := ⟨_, rfl⟩
        have HSW : Hid (SW = ⟨(encL (sbytes ss)).toArray⟩) := hSW
        have cat1 : Sa ++ SU = ST := by rw [HSA.out, hSU, hST, cat_eq]
        have cat2 : Sa ++ SW = SV := by rw [HSA.out, hSW, hSV, cat_eq]
        have sum1 : ¬ 9223372036854775807 < Sa.size + SU.size := by rw [HSA.out, hSU, mk_size, mk_size, HL.out]; omega
        have sum2 : ¬ 9223372036854775807 < Sa.size + SW.size := by rw [HSA.out, hSW, mk_size, mk_size, HL.out]; omega
        clear hlt hlu hlv hlw hST hSU hSV hSW
        refine reg_begin (by kernel_rfl) ?_
        change wpAnyH _ _ _ _ _ 28 #[false, false, false, false, false, false, false, false, false, false, false, false, false, false, false, false, false, false, false, false, false, false, false, false, false, false, false, false] _ _
        refine reg_take (i := 0) (d := some 58) (v := (.slice B l d)) rfl rfl (by kernel_rfl) (by kernel_rfl) (by kernel_rfl) (fun _ _ _ h => h) (by rfl) (by intro w' hSw; go_simp) ?_
        try simp only [Act.put, List.setIfInBounds_toArray, List.set_cons_zero, List.set_cons_succ]
        refine reg_take (i := 1) (d := some 59) (v := (.string s)) rfl rfl (by kernel_rfl) (by kernel_rfl) (by kernel_rfl) (fun _ _ _ h => h) (by rfl) (by intro w' hSw; go_simp) ?_
        try simp only [Act.put, List.setIfInBounds_toArray, List.set_cons_zero, List.set_cons_succ]
        refine reg_take (i := 4) (d := some 62) (v := (.slice B l d)) rfl rfl (by kernel_rfl) (by kernel_rfl) (by kernel_rfl) (fun _ _ _ h => h) (by rfl) (by intro w' hSw; go_simp) ?_
        try simp only [Act.put, List.setIfInBounds_toArray, List.set_cons_zero, List.set_cons_succ]
        refine reg_take (i := 5) (d := some 63) (v := (.string Sa)) rfl rfl (by kernel_rfl) (by kernel_rfl) (by kernel_rfl) (fun _ _ _ h => h) (by rfl) (by intro w' hSw; have h9 := run_str (P := Try.prog) w' 23 9 5 underBytes underU8 underStr B R l d HL.out (hBc.below hSw); rw [← HSA.out] at h9; go_simp) ?_
        try simp only [Act.put, List.setIfInBounds_toArray, List.set_cons_zero, List.set_cons_succ]
        refine reg_take (i := 6) (d := some 64) (v := (.string s)) rfl rfl (by kernel_rfl) (by kernel_rfl) (by kernel_rfl) (fun _ _ _ h => h) (by rfl) (by intro w' hSw; go_simp) ?_
        try simp only [Act.put, List.setIfInBounds_toArray, List.set_cons_zero, List.set_cons_succ]
        refine reg_call (i := 2) rfl (by kernel_rfl) (by rfl) fun K hK => ?_
        go_simp
        refine (text_own B l d R s _ HL.out hBc (by omega) (by omega)).mono ?_
        rintro e w4 ⟨A4, c4, rfl, hs4, _, hb4⟩
        refine hK.out _ _ hb4 ?_
        rw [HLT.out]
        have hB4 := hBc.below hb4
        have bb4 := hcut.drew.trans (hb4.mono sc)
        have sc4 := bb4.size
        clear hK K
        try simp only [List.setIfInBounds_toArray, List.set_cons_zero, List.set_cons_succ]
        refine reg_take (i := 3) (d := some 61) (v := (.string ST)) rfl rfl (by kernel_rfl) (by kernel_rfl) (by kernel_rfl) (fun _ _ _ h => h) (by rfl) (by intro w' hSw; have h9 := run_str (P := Try.prog) w' 23 9 5 underBytes underU8 underStr A4 (R ++ encT s.data.toList) lt c4 HLT.out (hs4.below hSw); rw [← HST.out] at h9; go_simp) ?_
        try simp only [Act.put, List.setIfInBounds_toArray, List.set_cons_zero, List.set_cons_succ]
        refine reg_call (i := 7) rfl (by kernel_rfl) (by rfl) fun K hK => ?_
        go_simp
        refine (ref_text s _ (by omega)).mono ?_
        rintro e w5 ⟨A5, c5, rfl, hs5, hb5⟩
        refine hK.out _ _ hb5 ?_
        rw [HLU.out]
        have hB5 := hB4.below hb5
        have bb5 := bb4.trans (hb5.mono sc4)
        have sc5 := bb5.size
        clear hK K
        try simp only [List.setIfInBounds_toArray, List.set_cons_zero, List.set_cons_succ]
        refine reg_take (i := 8) (d := some 66) (v := (.string SU)) rfl rfl (by kernel_rfl) (by kernel_rfl) (by kernel_rfl) (fun _ _ _ h => h) (by rfl) (by intro w' hSw; have h9 := run_str (P := Try.prog) w' 23 9 5 underBytes underU8 underStr A5 (encT s.data.toList) lu c5 HLU.out (hs5.below hSw); rw [← HSU.out] at h9; go_simp) ?_
        try simp only [Act.put, List.setIfInBounds_toArray, List.set_cons_zero, List.set_cons_succ]
        refine reg_take (i := 9) (d := some 67) (v := (.string ST)) rfl rfl (by kernel_rfl) (by kernel_rfl) (by kernel_rfl) (fun _ _ _ h => h) (by rfl) (by intro w' hSw; go_simp) ?_
        try simp only [Act.put, List.setIfInBounds_toArray, List.set_cons_zero, List.set_cons_succ]
        refine reg_take (i := 10) (d := some 68) (v := (.bool true)) rfl rfl (by kernel_rfl) (by kernel_rfl) (by kernel_rfl) (fun _ _ _ h => h) (by rfl) (by intro w' hSw; go_simp) ?_
        try simp only [Act.put, List.setIfInBounds_toArray, List.set_cons_zero, List.set_cons_succ]
        refine reg_take (i := 11) (d := some 69) (v := (.bool true)) rfl rfl (by kernel_rfl) (by kernel_rfl) (by kernel_rfl) (fun _ _ _ h => h) (by rfl) (by intro w' hSw; go_simp) ?_
        try simp only [Act.put, List.setIfInBounds_toArray, List.set_cons_zero, List.set_cons_succ]
        refine reg_take (i := 12) (d := some 70) (v := (.slice B l d)) rfl rfl (by kernel_rfl) (by kernel_rfl) (by kernel_rfl) (fun _ _ _ h => h) (by rfl) (by intro w' hSw; go_simp) ?_
        try simp only [Act.put, List.setIfInBounds_toArray, List.set_cons_zero, List.set_cons_succ]
        refine reg_take (i := 13) (d := some 71) (v := (.slice A m c)) rfl rfl (by kernel_rfl) (by kernel_rfl) (by kernel_rfl) (fun _ _ _ h => h) (by rfl) (by intro w' hSw; go_simp) ?_
        try simp only [Act.put, List.setIfInBounds_toArray, List.set_cons_zero, List.set_cons_succ]
        refine reg_take (i := 16) (d := some 74) (v := (.slice B l d)) rfl rfl (by kernel_rfl) (by kernel_rfl) (by kernel_rfl) (fun _ _ _ h => h) (by rfl) (by intro w' hSw; go_simp) ?_
        try simp only [Act.put, List.setIfInBounds_toArray, List.set_cons_zero, List.set_cons_succ]
        refine reg_take (i := 17) (d := some 75) (v := (.string Sa)) rfl rfl (by kernel_rfl) (by kernel_rfl) (by kernel_rfl) (fun _ _ _ h => h) (by rfl) (by intro w' hSw; have h9 := run_str (P := Try.prog) w' 23 9 5 underBytes underU8 underStr B R l d HL.out (hB5.below hSw); rw [← HSA.out] at h9; go_simp) ?_
        try simp only [Act.put, List.setIfInBounds_toArray, List.set_cons_zero, List.set_cons_succ]
        refine reg_take (i := 18) (d := some 76) (v := (.slice A m c)) rfl rfl (by kernel_rfl) (by kernel_rfl) (by kernel_rfl) (fun _ _ _ h => h) (by rfl) (by intro w' hSw; go_simp) ?_
        try simp only [Act.put, List.setIfInBounds_toArray, List.set_cons_zero, List.set_cons_succ]
        refine reg_call (i := 14) rfl (by kernel_rfl) (by rfl) fun K hK => ?_
        go_simp
        refine (list_own A m c B l d R ss _ HL.out hB5 HM.out (hA.below bb5) (by omega) (by omega)).mono ?_
        rintro e w6 ⟨A6, c6, rfl, hs6, _, hb6⟩
        refine hK.out _ _ hb6 ?_
        rw [HLV.out]
        have bb6 := bb5.trans (hb6.mono sc5)
        have sc6 := bb6.size
        clear hK K
        try simp only [List.setIfInBounds_toArray, List.set_cons_zero, List.set_cons_succ]
        refine reg_take (i := 15) (d := some 73) (v := (.string SV)) rfl rfl (by kernel_rfl) (by kernel_rfl) (by kernel_rfl) (fun _ _ _ h => h) (by rfl) (by intro w' hSw; have h9 := run_str (P := Try.prog) w' 23 9 5 underBytes underU8 underStr A6 (R ++ encL (sbytes ss)) lv c6 HLV.out (hs6.below hSw); rw [← HSV.out] at h9; go_simp) ?_
        try simp only [Act.put, List.setIfInBounds_toArray, List.set_cons_zero, List.set_cons_succ]
        refine reg_call (i := 19) rfl (by kernel_rfl) (by rfl) fun K hK => ?_
        go_simp
        refine (ref_list A m c ss _ HM.out (hA.below bb6) (by omega) (by omega)).mono ?_
        rintro e w7 ⟨A7, c7, rfl, hs7, hb7⟩
        refine hK.out _ _ hb7 ?_
        rw [HLW.out]
        have bb7 := bb6.trans (hb7.mono sc6)
        have sc7 := bb7.size
        clear hK K
        try simp only [List.setIfInBounds_toArray, List.set_cons_zero, List.set_cons_succ]
        refine reg_take (i := 20) (d := some 78) (v := (.string SW)) rfl rfl (by kernel_rfl) (by kernel_rfl) (by kernel_rfl) (fun _ _ _ h => h) (by rfl) (by intro w' hSw; have h9 := run_str (P := Try.prog) w' 23 9 5 underBytes underU8 underStr A7 (encL (sbytes ss)) lw c7 HLW.out (hs7.below hSw); rw [← HSW.out] at h9; go_simp) ?_
        try simp only [Act.put, List.setIfInBounds_toArray, List.set_cons_zero, List.set_cons_succ]
        refine reg_take (i := 21) (d := some 79) (v := (.string SV)) rfl rfl (by kernel_rfl) (by kernel_rfl) (by kernel_rfl) (fun _ _ _ h => h) (by rfl) (by intro w' hSw; go_simp) ?_
        try simp only [Act.put, List.setIfInBounds_toArray, List.set_cons_zero, List.set_cons_succ]
        refine reg_take (i := 22) (d := some 80) (v := (.bool true)) rfl rfl (by kernel_rfl) (by kernel_rfl) (by kernel_rfl) (fun _ _ _ h => h) (by rfl) (by intro w' hSw; go_simp) ?_
        try simp only [Act.put, List.setIfInBounds_toArray, List.set_cons_zero, List.set_cons_succ]
        refine reg_take (i := 23) (d := some 81) (v := (.bool true)) rfl rfl (by kernel_rfl) (by kernel_rfl) (by kernel_rfl) (fun _ _ _ h => h) (by rfl) (by intro w' hSw; go_simp) ?_
        try simp only [Act.put, List.setIfInBounds_toArray, List.set_cons_zero, List.set_cons_succ]
        refine reg_take (i := 24) (d := some 82) (v := (.bool true)) rfl rfl (by kernel_rfl) (by kernel_rfl) (by kernel_rfl) (fun _ _ _ h => h) (by rfl) (by intro w' hSw; go_simp) ?_
        try simp only [Act.put, List.setIfInBounds_toArray, List.set_cons_zero, List.set_cons_succ]
        refine reg_call (i := 25) rfl (by kernel_rfl) (by rfl) fun K hK => ?_
        go_simp
        refine (knows_any _).mono ?_
        rintro e w8 ⟨rfl, hb8⟩
        refine hK.out _ _ hb8 ?_
        have bb8 := bb7.trans (hb8.mono sc7)
        clear hK K
        try simp only [List.setIfInBounds_toArray, List.set_cons_zero, List.set_cons_succ]
        refine reg_take (i := 26) (d := some 84) (v := (.bool true)) rfl rfl (by kernel_rfl) (by kernel_rfl) (by kernel_rfl) (fun _ _ _ h => h) (by rfl) (by intro w' hSw; go_simp) ?_
        try simp only [Act.put, List.setIfInBounds_toArray, List.set_cons_zero, List.set_cons_succ]
        refine reg_take (i := 27) (d := some 8) (v := (.bool true)) rfl rfl (by kernel_rfl) (by kernel_rfl) (by kernel_rfl) (fun _ _ _ h => h) (by rfl) (by intro w' hSw; go_simp) ?_
        try simp only [Act.put, List.setIfInBounds_toArray, List.set_cons_zero, List.set_cons_succ]
        refine wpAnyH_done (by kernel_rfl) ?_ _
        go_simp
        go_wp2_with fail
        go_ret
        exact ⟨rfl, bb8⟩
      · clear HV
        have hnn : 0 ≤ v := by omega
        go_wp2_with fail
        --R9
        have hBc := hB.below hcut.drew
        have sc : w.heap.size ≤ wc.drew.heap.size := hcut.size
        have hT9 := encT_len s.data.toList (by rw [bsize]; omega)
        rw [bsize] at hT9
        obtain ⟨lt, hlt⟩ : ∃ l, (R ++ encT s.data.toList).length = l := ⟨_, rfl⟩
        have HLT : Hid ((R ++ encT s.data.toList).length = lt) := hlt
        obtain ⟨ST, hST⟩ : ∃ S : ByteArray, S = ⟨(R ++ encT s.data.toList).toArray⟩ := ⟨_, rfl⟩
        have HST : Hid (ST = ⟨(R ++ encT s.data.toList).toArray⟩) := hST
        obtain ⟨lu, hlu⟩ : ∃ l, (encT s.data.toList).length = l := ⟨_, rfl⟩
        have HLU : Hid ((encT s.data.toList).length = lu) := hlu
        obtain ⟨SU, hSU⟩ : ∃ S : ByteArray, S = ⟨(encT s.data.toList).toArray⟩ := ⟨_, rfl⟩
        have HSU : Hid (SU = ⟨(encT s.data.toList).toArray⟩) := hSU
        obtain ⟨lv, hlv⟩ : ∃ l, (R ++ encL (sbytes ss)).length = l := ⟨_, rfl⟩
        have HLV : Hid ((R ++ encL (sbytes ss)).length = lv) := hlv
        obtain ⟨SV, hSV⟩ : ∃ S : ByteArray, S = ⟨(R ++ encL (sbytes ss)).toArray⟩ := ⟨_, rfl⟩
        have HSV : Hid (SV = ⟨(R ++ encL (sbytes ss)).toArray⟩) := hSV
        obtain ⟨lw, hlw⟩ : ∃ l, (encL (sbytes ss)).length = l := ⟨_, rfl⟩
        have HLW : Hid ((encL (sbytes ss)).length = lw) := hlw
        obtain ⟨SW, hSW⟩ : ∃ S : ByteArray, S = ⟨(encL (sbytes ss)).toArray⟩ := ⟨_, rfl⟩
        have HSW : Hid (SW = ⟨(encL (sbytes ss)).toArray⟩) := hSW
        have cat1 : Sa ++ SU = ST := by rw [HSA.out, hSU, hST, cat_eq]
        have cat2 : Sa ++ SW = SV := by rw [HSA.out, hSW, hSV, cat_eq]
        have sum1 : ¬ 9223372036854775807 < Sa.size + SU.size := by rw [HSA.out, hSU, mk_size, mk_size, HL.out]; omega
        have sum2 : ¬ 9223372036854775807 < Sa.size + SW.size := by rw [HSA.out, hSW, mk_size, mk_size, HL.out]; omega
        clear hlt hlu hlv hlw hST hSU hSV hSW
        refine reg_begin (by kernel_rfl) ?_
        change wpAnyH _ _ _ _ _ 28 #[false, false, false, false, false, false, false, false, false, false, false, false, false, false, false, false, false, false, false, false, false, false, false, false, false, false, false, false] _ _
        refine reg_take (i := 0) (d := some 58) (v := (.slice B l d)) rfl rfl (by kernel_rfl) (by kernel_rfl) (by kernel_rfl) (fun _ _ _ h => h) (by rfl) (by intro w' hSw; go_simp) ?_
        try simp only [Act.put, List.setIfInBounds_toArray, List.set_cons_zero, List.set_cons_succ]
        refine reg_take (i := 1) (d := some 59) (v := (.string s)) rfl rfl (by kernel_rfl) (by kernel_rfl) (by kernel_rfl) (fun _ _ _ h => h) (by rfl) (by intro w' hSw; go_simp) ?_
        try simp only [Act.put, List.setIfInBounds_toArray, List.set_cons_zero, List.set_cons_succ]
        refine reg_take (i := 4) (d := some 62) (v := (.slice B l d)) rfl rfl (by kernel_rfl) (by kernel_rfl) (by kernel_rfl) (fun _ _ _ h => h) (by rfl) (by intro w' hSw; go_simp) ?_
        try simp only [Act.put, List.setIfInBounds_toArray, List.set_cons_zero, List.set_cons_succ]
        refine reg_take (i := 5) (d := some 63) (v := (.string Sa)) rfl rfl (by kernel_rfl) (by kernel_rfl) (by kernel_rfl) (fun _ _ _ h => h) (by rfl) (by intro w' hSw; have h9 := run_str (P := Try.prog) w' 23 9 5 underBytes underU8 underStr B R l d HL.out (hBc.below hSw); rw [← HSA.out] at h9; go_simp) ?_
        try simp only [Act.put, List.setIfInBounds_toArray, List.set_cons_zero, List.set_cons_succ]
        refine reg_take (i := 6) (d := some 64) (v := (.string s)) rfl rfl (by kernel_rfl) (by kernel_rfl) (by kernel_rfl) (fun _ _ _ h => h) (by rfl) (by intro w' hSw; go_simp) ?_
        try simp only [Act.put, List.setIfInBounds_toArray, List.set_cons_zero, List.set_cons_succ]
        refine reg_call (i := 2) rfl (by kernel_rfl) (by rfl) fun K hK => ?_
        go_simp
        refine (text_own B l d R s _ HL.out hBc (by omega) (by omega)).mono ?_
        rintro e w4 ⟨A4, c4, rfl, hs4, _, hb4⟩
        refine hK.out _ _ hb4 ?_
        rw [HLT.out]
        have hB4 := hBc.below hb4
        have bb4 := hcut.drew.trans (hb4.mono sc)
        have sc4 := bb4.size
        clear hK K
        try simp only [List.setIfInBounds_toArray, List.set_cons_zero, List.set_cons_succ]
        refine reg_take (i := 3) (d := some 61) (v := (.string ST)) rfl rfl (by kernel_rfl) (by kernel_rfl) (by kernel_rfl) (fun _ _ _ h => h) (by rfl) (by intro w' hSw; have h9 := run_str (P := Try.prog) w' 23 9 5 underBytes underU8 underStr A4 (R ++ encT s.data.toList) lt c4 HLT.out (hs4.below hSw); rw [← HST.out] at h9; go_simp) ?_
        try simp only [Act.put, List.setIfInBounds_toArray, List.set_cons_zero, List.set_cons_succ]
        refine reg_call (i := 7) rfl (by kernel_rfl) (by rfl) fun K hK => ?_
        go_simp
        refine (ref_text s _ (by omega)).mono ?_
        rintro e w5 ⟨A5, c5, rfl, hs5, hb5⟩
        refine hK.out _ _ hb5 ?_
        rw [HLU.out]
        have hB5 := hB4.below hb5
        have bb5 := bb4.trans (hb5.mono sc4)
        have sc5 := bb5.size
        clear hK K
        try simp only [List.setIfInBounds_toArray, List.set_cons_zero, List.set_cons_succ]
        refine reg_take (i := 8) (d := some 66) (v := (.string SU)) rfl rfl (by kernel_rfl) (by kernel_rfl) (by kernel_rfl) (fun _ _ _ h => h) (by rfl) (by intro w' hSw; have h9 := run_str (P := Try.prog) w' 23 9 5 underBytes underU8 underStr A5 (encT s.data.toList) lu c5 HLU.out (hs5.below hSw); rw [← HSU.out] at h9; go_simp) ?_
        try simp only [Act.put, List.setIfInBounds_toArray, List.set_cons_zero, List.set_cons_succ]
        refine reg_take (i := 9) (d := some 67) (v := (.string ST)) rfl rfl (by kernel_rfl) (by kernel_rfl) (by kernel_rfl) (fun _ _ _ h => h) (by rfl) (by intro w' hSw; go_simp) ?_
        try simp only [Act.put, List.setIfInBounds_toArray, List.set_cons_zero, List.set_cons_succ]
        refine reg_take (i := 10) (d := some 68) (v := (.bool true)) rfl rfl (by kernel_rfl) (by kernel_rfl) (by kernel_rfl) (fun _ _ _ h => h) (by rfl) (by intro w' hSw; go_simp) ?_
        try simp only [Act.put, List.setIfInBounds_toArray, List.set_cons_zero, List.set_cons_succ]
        refine reg_take (i := 11) (d := some 69) (v := (.bool true)) rfl rfl (by kernel_rfl) (by kernel_rfl) (by kernel_rfl) (fun _ _ _ h => h) (by rfl) (by intro w' hSw; go_simp) ?_
        try simp only [Act.put, List.setIfInBounds_toArray, List.set_cons_zero, List.set_cons_succ]
        refine reg_take (i := 12) (d := some 70) (v := (.slice B l d)) rfl rfl (by kernel_rfl) (by kernel_rfl) (by kernel_rfl) (fun _ _ _ h => h) (by rfl) (by intro w' hSw; go_simp) ?_
        try simp only [Act.put, List.setIfInBounds_toArray, List.set_cons_zero, List.set_cons_succ]
        refine reg_take (i := 13) (d := some 71) (v := (.slice A m c)) rfl rfl (by kernel_rfl) (by kernel_rfl) (by kernel_rfl) (fun _ _ _ h => h) (by rfl) (by intro w' hSw; go_simp) ?_
        try simp only [Act.put, List.setIfInBounds_toArray, List.set_cons_zero, List.set_cons_succ]
        refine reg_take (i := 16) (d := some 74) (v := (.slice B l d)) rfl rfl (by kernel_rfl) (by kernel_rfl) (by kernel_rfl) (fun _ _ _ h => h) (by rfl) (by intro w' hSw; go_simp) ?_
        try simp only [Act.put, List.setIfInBounds_toArray, List.set_cons_zero, List.set_cons_succ]
        refine reg_take (i := 17) (d := some 75) (v := (.string Sa)) rfl rfl (by kernel_rfl) (by kernel_rfl) (by kernel_rfl) (fun _ _ _ h => h) (by rfl) (by intro w' hSw; have h9 := run_str (P := Try.prog) w' 23 9 5 underBytes underU8 underStr B R l d HL.out (hB5.below hSw); rw [← HSA.out] at h9; go_simp) ?_
        try simp only [Act.put, List.setIfInBounds_toArray, List.set_cons_zero, List.set_cons_succ]
        refine reg_take (i := 18) (d := some 76) (v := (.slice A m c)) rfl rfl (by kernel_rfl) (by kernel_rfl) (by kernel_rfl) (fun _ _ _ h => h) (by rfl) (by intro w' hSw; go_simp) ?_
        try simp only [Act.put, List.setIfInBounds_toArray, List.set_cons_zero, List.set_cons_succ]
        refine reg_call (i := 14) rfl (by kernel_rfl) (by rfl) fun K hK => ?_
        go_simp
        refine (list_own A m c B l d R ss _ HL.out hB5 HM.out (hA.below bb5) (by omega) (by omega)).mono ?_
        rintro e w6 ⟨A6, c6, rfl, hs6, _, hb6⟩
        refine hK.out _ _ hb6 ?_
        rw [HLV.out]
        have bb6 := bb5.trans (hb6.mono sc5)
        have sc6 := bb6.size
        clear hK K
        try simp only [List.setIfInBounds_toArray, List.set_cons_zero, List.set_cons_succ]
        refine reg_take (i := 15) (d := some 73) (v := (.string SV)) rfl rfl (by kernel_rfl) (by kernel_rfl) (by kernel_rfl) (fun _ _ _ h => h) (by rfl) (by intro w' hSw; have h9 := run_str (P := Try.prog) w' 23 9 5 underBytes underU8 underStr A6 (R ++ encL (sbytes ss)) lv c6 HLV.out (hs6.below hSw); rw [← HSV.out] at h9; go_simp) ?_
        try simp only [Act.put, List.setIfInBounds_toArray, List.set_cons_zero, List.set_cons_succ]
        refine reg_call (i := 19) rfl (by kernel_rfl) (by rfl) fun K hK => ?_
        go_simp
        refine (ref_list A m c ss _ HM.out (hA.below bb6) (by omega) (by omega)).mono ?_
        rintro e w7 ⟨A7, c7, rfl, hs7, hb7⟩
        refine hK.out _ _ hb7 ?_
        rw [HLW.out]
        have bb7 := bb6.trans (hb7.mono sc6)
        have sc7 := bb7.size
        clear hK K
        try simp only [List.setIfInBounds_toArray, List.set_cons_zero, List.set_cons_succ]
        refine reg_take (i := 20) (d := some 78) (v := (.string SW)) rfl rfl (by kernel_rfl) (by kernel_rfl) (by kernel_rfl) (fun _ _ _ h => h) (by rfl) (by intro w' hSw; have h9 := run_str (P := Try.prog) w' 23 9 5 underBytes underU8 underStr A7 (encL (sbytes ss)) lw c7 HLW.out (hs7.below hSw); rw [← HSW.out] at h9; go_simp) ?_
        try simp only [Act.put, List.setIfInBounds_toArray, List.set_cons_zero, List.set_cons_succ]
        refine reg_take (i := 21) (d := some 79) (v := (.string SV)) rfl rfl (by kernel_rfl) (by kernel_rfl) (by kernel_rfl) (fun _ _ _ h => h) (by rfl) (by intro w' hSw; go_simp) ?_
        try simp only [Act.put, List.setIfInBounds_toArray, List.set_cons_zero, List.set_cons_succ]
        refine reg_take (i := 22) (d := some 80) (v := (.bool true)) rfl rfl (by kernel_rfl) (by kernel_rfl) (by kernel_rfl) (fun _ _ _ h => h) (by rfl) (by intro w' hSw; go_simp) ?_
        try simp only [Act.put, List.setIfInBounds_toArray, List.set_cons_zero, List.set_cons_succ]
        refine reg_take (i := 23) (d := some 81) (v := (.bool true)) rfl rfl (by kernel_rfl) (by kernel_rfl) (by kernel_rfl) (fun _ _ _ h => h) (by rfl) (by intro w' hSw; go_simp) ?_
        try simp only [Act.put, List.setIfInBounds_toArray, List.set_cons_zero, List.set_cons_succ]
        refine reg_take (i := 24) (d := some 82) (v := (.bool true)) rfl rfl (by kernel_rfl) (by kernel_rfl) (by kernel_rfl) (fun _ _ _ h => h) (by rfl) (by intro w' hSw; go_simp) ?_
        try simp only [Act.put, List.setIfInBounds_toArray, List.set_cons_zero, List.set_cons_succ]
        refine reg_call (i := 25) rfl (by kernel_rfl) (by rfl) fun K hK => ?_
        go_simp
        refine (knows_any _).mono ?_
        rintro e w8 ⟨rfl, hb8⟩
        refine hK.out _ _ hb8 ?_
        have bb8 := bb7.trans (hb8.mono sc7)
        clear hK K
        try simp only [List.setIfInBounds_toArray, List.set_cons_zero, List.set_cons_succ]
        refine reg_take (i := 26) (d := some 84) (v := (.bool true)) rfl rfl (by kernel_rfl) (by kernel_rfl) (by kernel_rfl) (fun _ _ _ h => h) (by rfl) (by intro w' hSw; go_simp) ?_
        try simp only [Act.put, List.setIfInBounds_toArray, List.set_cons_zero, List.set_cons_succ]
        refine reg_take (i := 27) (d := some 8) (v := (.bool true)) rfl rfl (by kernel_rfl) (by kernel_rfl) (by kernel_rfl) (fun _ _ _ h => h) (by rfl) (by intro w' hSw; go_simp) ?_
        try simp only [Act.put, List.setIfInBounds_toArray, List.set_cons_zero, List.set_cons_succ]
        refine wpAnyH_done (by kernel_rfl) ?_ _
        go_simp
        go_wp2_with fail
        go_ret
        exact ⟨rfl, bb8⟩
    · obtain ⟨n, rfl⟩ := Int.eq_ofNat_of_zero_le (show 0 ≤ v by omega)
      have hn : n ≤ 4611686018427387904 := by omega
      clear hv
      go_wp2_with (refine wpList_app rfl (.tmp 25) (.tmp 26) 23 rfl bytesTy w.heap.size _ 0 [] rfl o0 B l d (bcells R) rfl (by rw [bcells_len]; exact HL.out) (hB.below p0) (bcells_one _) (by omega) (by simp) ?_; intro v1 w1 hown1 hgr1 hbl1; have p1 := below_app p0 hgr1 o0 (Nat.le_refl _) (by simp); simp only [Nat.zero_add, List.nil_append] at hown1; obtain ⟨A1, c1, rfl, hs1, hc1, _⟩ := own_slice hown1)
      refine (num_cat A1 l c1 R n _ HL.out hs1 hn (by omega)).mono ?_
      rintro e w2 ⟨A2, c2, rfl, hs2, hb2⟩
      have b2 := p1.trans (hb2.mono p1.size)
      obtain ⟨la, hla⟩ : ∃ la, (R ++ enc n).length = la := ⟨_, rfl⟩
      have HLA : Hid ((R ++ enc n).length = la) := hla
      rw [hla]
      obtain ⟨ln, hln⟩ : ∃ ln, (enc n).length = ln := ⟨_, rfl⟩
      have HLN : Hid ((enc n).length = ln) := hln
      obtain ⟨Sa, hSa⟩ : ∃ S : ByteArray, S = ⟨R.toArray⟩ := ⟨_, rfl⟩
      obtain ⟨Sn, hSn⟩ : ∃ S : ByteArray, S = ⟨(enc n).toArray⟩ := ⟨_, rfl⟩
      obtain ⟨S1, hS1⟩ : ∃ S : ByteArray, S = ⟨(R ++ enc n).toArray⟩ := ⟨_, rfl⟩
      have hcat : Sa ++ Sn = S1 := by rw [hSa, hSn, hS1, cat_eq]
      have h9 := enc_len9 hn
      have hsum : ¬ 9223372036854775807 < Sa.size + Sn.size := by rw [hSa, hSn, mk_size, mk_size, HL.out]; omega
      have HSA : Hid (Sa = ⟨R.toArray⟩) := hSa
      have HSN : Hid (Sn = ⟨(enc n).toArray⟩) := hSn
      have HS1 : Hid (S1 = ⟨(R ++ enc n).toArray⟩) := hS1
      clear o0 p0 hown1 hgr1 hbl1 p1 hs1 hc1 hb2 hla hln hSa hSn hS1
      go_upto_if 37 with (fail)
      go_cut [] (fun wc => Below w.heap.size w wc)
      case first =>
        go_wp2_with fail
        have hB2 := hB.below b2
        have sb2 := b2.size
        have cv1 := run_str (P := Try.prog) w2.drew 23 9 5 underBytes underU8 underStr A2 (R ++ enc n) la c2 HLA.out hs2.drew
        have cv2 := run_str (P := Try.prog) w2.drew 23 9 5 underBytes underU8 underStr B R l d HL.out hB2.drew
        rw [← HS1.out] at cv1
        rw [← HSA.out] at cv2
        go_region_law (go_simp; go_at_call 10; refine (ref_num n _ (by omega)).mono ?_; rintro e w3 ⟨A3, c3, rfl, hs3, hb3⟩; rw [HLN.out]; have cv3 := run_str (P := Try.prog) w3 23 9 5 underBytes underU8 underStr A3 (enc n) ln c3 HLN.out hs3; rw [← HSN.out] at cv3; have cv4 := run_str (P := Try.prog) w3 23 9 5 underBytes underU8 underStr A2 (R ++ enc n) la c2 HLA.out (hs2.drew.below hb3); have cv5 := run_str (P := Try.prog) w3 23 9 5 underBytes underU8 underStr B R l d HL.out (hB2.drew.below hb3); rw [← HS1.out] at cv4; rw [← HSA.out] at cv5)
        all_goals
          go_simp
          go_wp2_with fail
          go_meet
          exact b2.drew.trans (hb3.mono sb2)
      case rest =>
        go_wp2_with fail
        clear hcat hsum
        --R9
        have hBc := hB.below hcut.drew
        have sc : w.heap.size ≤ wc.drew.heap.size := hcut.size
        have hT9 := encT_len s.data.toList (by rw [bsize]; omega)
        rw [bsize] at hT9
        obtain ⟨lt, hlt⟩ : ∃ l, (R ++ encT s.data.toList).length = l := ⟨_, rfl⟩
        have HLT : Hid ((R ++ encT s.data.toList).length = lt) := hlt
        obtain ⟨ST, hST⟩ : ∃ S : ByteArray, S = ⟨(R ++ encT s.data.toList).toArray⟩ := ⟨_, rfl⟩
        have HST : Hid (ST = ⟨(R ++ encT s.data.toList).toArray⟩) := hST
        obtain ⟨lu, hlu⟩ : ∃ l, (encT s.data.toList).length = l := ⟨_, rfl⟩
        have HLU : Hid ((encT s.data.toList).length = lu) := hlu
        obtain ⟨SU, hSU⟩ : ∃ S : ByteArray, S = ⟨(encT s.data.toList).toArray⟩ := ⟨_, rfl⟩
        have HSU : Hid (SU = ⟨(encT s.data.toList).toArray⟩) := hSU
        obtain ⟨lv, hlv⟩ : ∃ l, (R ++ encL (sbytes ss)).length = l := ⟨_, rfl⟩
        have HLV : Hid ((R ++ encL (sbytes ss)).length = lv) := hlv
        obtain ⟨SV, hSV⟩ : ∃ S : ByteArray, S = ⟨(R ++ encL (sbytes ss)).toArray⟩ := ⟨_, rfl⟩
        have HSV : Hid (SV = ⟨(R ++ encL (sbytes ss)).toArray⟩) := hSV
        obtain ⟨lw, hlw⟩ : ∃ l, (encL (sbytes ss)).length = l := ⟨_, rfl⟩
        have HLW : Hid ((encL (sbytes ss)).length = lw) := hlw
        obtain ⟨SW, hSW⟩ : ∃ S : ByteArray, S = ⟨(encL (sbytes ss)).toArray⟩ := ⟨_, rfl⟩
        have HSW : Hid (SW = ⟨(encL (sbytes ss)).toArray⟩) := hSW
        have cat1 : Sa ++ SU = ST := by rw [HSA.out, hSU, hST, cat_eq]
        have cat2 : Sa ++ SW = SV := by rw [HSA.out, hSW, hSV, cat_eq]
        have sum1 : ¬ 9223372036854775807 < Sa.size + SU.size := by rw [HSA.out, hSU, mk_size, mk_size, HL.out]; omega
        have sum2 : ¬ 9223372036854775807 < Sa.size + SW.size := by rw [HSA.out, hSW, mk_size, mk_size, HL.out]; omega
        clear hlt hlu hlv hlw hST hSU hSV hSW
        refine reg_begin (by kernel_rfl) ?_
        change wpAnyH _ _ _ _ _ 28 #[false, false, false, false, false, false, false, false, false, false, false, false, false, false, false, false, false, false, false, false, false, false, false, false, false, false, false, false] _ _
        refine reg_take (i := 0) (d := some 58) (v := (.slice B l d)) rfl rfl (by kernel_rfl) (by kernel_rfl) (by kernel_rfl) (fun _ _ _ h => h) (by rfl) (by intro w' hSw; go_simp) ?_
        try simp only [Act.put, List.setIfInBounds_toArray, List.set_cons_zero, List.set_cons_succ]
        refine reg_take (i := 1) (d := some 59) (v := (.string s)) rfl rfl (by kernel_rfl) (by kernel_rfl) (by kernel_rfl) (fun _ _ _ h => h) (by rfl) (by intro w' hSw; go_simp) ?_
        try simp only [Act.put, List.setIfInBounds_toArray, List.set_cons_zero, List.set_cons_succ]
        refine reg_take (i := 4) (d := some 62) (v := (.slice B l d)) rfl rfl (by kernel_rfl) (by kernel_rfl) (by kernel_rfl) (fun _ _ _ h => h) (by rfl) (by intro w' hSw; go_simp) ?_
        try simp only [Act.put, List.setIfInBounds_toArray, List.set_cons_zero, List.set_cons_succ]
        refine reg_take (i := 5) (d := some 63) (v := (.string Sa)) rfl rfl (by kernel_rfl) (by kernel_rfl) (by kernel_rfl) (fun _ _ _ h => h) (by rfl) (by intro w' hSw; have h9 := run_str (P := Try.prog) w' 23 9 5 underBytes underU8 underStr B R l d HL.out (hBc.below hSw); rw [← HSA.out] at h9; go_simp) ?_
        try simp only [Act.put, List.setIfInBounds_toArray, List.set_cons_zero, List.set_cons_succ]
        refine reg_take (i := 6) (d := some 64) (v := (.string s)) rfl rfl (by kernel_rfl) (by kernel_rfl) (by kernel_rfl) (fun _ _ _ h => h) (by rfl) (by intro w' hSw; go_simp) ?_
        try simp only [Act.put, List.setIfInBounds_toArray, List.set_cons_zero, List.set_cons_succ]
        refine reg_call (i := 2) rfl (by kernel_rfl) (by rfl) fun K hK => ?_
        go_simp
        refine (text_own B l d R s _ HL.out hBc (by omega) (by omega)).mono ?_
        rintro e w4 ⟨A4, c4, rfl, hs4, _, hb4⟩
        refine hK.out _ _ hb4 ?_
        rw [HLT.out]
        have hB4 := hBc.below hb4
        have bb4 := hcut.drew.trans (hb4.mono sc)
        have sc4 := bb4.size
        clear hK K
        try simp only [List.setIfInBounds_toArray, List.set_cons_zero, List.set_cons_succ]
        refine reg_take (i := 3) (d := some 61) (v := (.string ST)) rfl rfl (by kernel_rfl) (by kernel_rfl) (by kernel_rfl) (fun _ _ _ h => h) (by rfl) (by intro w' hSw; have h9 := run_str (P := Try.prog) w' 23 9 5 underBytes underU8 underStr A4 (R ++ encT s.data.toList) lt c4 HLT.out (hs4.below hSw); rw [← HST.out] at h9; go_simp) ?_
        try simp only [Act.put, List.setIfInBounds_toArray, List.set_cons_zero, List.set_cons_succ]
        refine reg_call (i := 7) rfl (by kernel_rfl) (by rfl) fun K hK => ?_
        go_simp
        refine (ref_text s _ (by omega)).mono ?_
        rintro e w5 ⟨A5, c5, rfl, hs5, hb5⟩
        refine hK.out _ _ hb5 ?_
        rw [HLU.out]
        have hB5 := hB4.below hb5
        have bb5 := bb4.trans (hb5.mono sc4)
        have sc5 := bb5.size
        clear hK K
        try simp only [List.setIfInBounds_toArray, List.set_cons_zero, List.set_cons_succ]
        refine reg_take (i := 8) (d := some 66) (v := (.string SU)) rfl rfl (by kernel_rfl) (by kernel_rfl) (by kernel_rfl) (fun _ _ _ h => h) (by rfl) (by intro w' hSw; have h9 := run_str (P := Try.prog) w' 23 9 5 underBytes underU8 underStr A5 (encT s.data.toList) lu c5 HLU.out (hs5.below hSw); rw [← HSU.out] at h9; go_simp) ?_
        try simp only [Act.put, List.setIfInBounds_toArray, List.set_cons_zero, List.set_cons_succ]
        refine reg_take (i := 9) (d := some 67) (v := (.string ST)) rfl rfl (by kernel_rfl) (by kernel_rfl) (by kernel_rfl) (fun _ _ _ h => h) (by rfl) (by intro w' hSw; go_simp) ?_
        try simp only [Act.put, List.setIfInBounds_toArray, List.set_cons_zero, List.set_cons_succ]
        refine reg_take (i := 10) (d := some 68) (v := (.bool true)) rfl rfl (by kernel_rfl) (by kernel_rfl) (by kernel_rfl) (fun _ _ _ h => h) (by rfl) (by intro w' hSw; go_simp) ?_
        try simp only [Act.put, List.setIfInBounds_toArray, List.set_cons_zero, List.set_cons_succ]
        refine reg_take (i := 11) (d := some 69) (v := (.bool true)) rfl rfl (by kernel_rfl) (by kernel_rfl) (by kernel_rfl) (fun _ _ _ h => h) (by rfl) (by intro w' hSw; go_simp) ?_
        try simp only [Act.put, List.setIfInBounds_toArray, List.set_cons_zero, List.set_cons_succ]
        refine reg_take (i := 12) (d := some 70) (v := (.slice B l d)) rfl rfl (by kernel_rfl) (by kernel_rfl) (by kernel_rfl) (fun _ _ _ h => h) (by rfl) (by intro w' hSw; go_simp) ?_
        try simp only [Act.put, List.setIfInBounds_toArray, List.set_cons_zero, List.set_cons_succ]
        refine reg_take (i := 13) (d := some 71) (v := (.slice A m c)) rfl rfl (by kernel_rfl) (by kernel_rfl) (by kernel_rfl) (fun _ _ _ h => h) (by rfl) (by intro w' hSw; go_simp) ?_
        try simp only [Act.put, List.setIfInBounds_toArray, List.set_cons_zero, List.set_cons_succ]
        refine reg_take (i := 16) (d := some 74) (v := (.slice B l d)) rfl rfl (by kernel_rfl) (by kernel_rfl) (by kernel_rfl) (fun _ _ _ h => h) (by rfl) (by intro w' hSw; go_simp) ?_
        try simp only [Act.put, List.setIfInBounds_toArray, List.set_cons_zero, List.set_cons_succ]
        refine reg_take (i := 17) (d := some 75) (v := (.string Sa)) rfl rfl (by kernel_rfl) (by kernel_rfl) (by kernel_rfl) (fun _ _ _ h => h) (by rfl) (by intro w' hSw; have h9 := run_str (P := Try.prog) w' 23 9 5 underBytes underU8 underStr B R l d HL.out (hB5.below hSw); rw [← HSA.out] at h9; go_simp) ?_
        try simp only [Act.put, List.setIfInBounds_toArray, List.set_cons_zero, List.set_cons_succ]
        refine reg_take (i := 18) (d := some 76) (v := (.slice A m c)) rfl rfl (by kernel_rfl) (by kernel_rfl) (by kernel_rfl) (fun _ _ _ h => h) (by rfl) (by intro w' hSw; go_simp) ?_
        try simp only [Act.put, List.setIfInBounds_toArray, List.set_cons_zero, List.set_cons_succ]
        refine reg_call (i := 14) rfl (by kernel_rfl) (by rfl) fun K hK => ?_
        go_simp
        refine (list_own A m c B l d R ss _ HL.out hB5 HM.out (hA.below bb5) (by omega) (by omega)).mono ?_
        rintro e w6 ⟨A6, c6, rfl, hs6, _, hb6⟩
        refine hK.out _ _ hb6 ?_
        rw [HLV.out]
        have bb6 := bb5.trans (hb6.mono sc5)
        have sc6 := bb6.size
        clear hK K
        try simp only [List.setIfInBounds_toArray, List.set_cons_zero, List.set_cons_succ]
        refine reg_take (i := 15) (d := some 73) (v := (.string SV)) rfl rfl (by kernel_rfl) (by kernel_rfl) (by kernel_rfl) (fun _ _ _ h => h) (by rfl) (by intro w' hSw; have h9 := run_str (P := Try.prog) w' 23 9 5 underBytes underU8 underStr A6 (R ++ encL (sbytes ss)) lv c6 HLV.out (hs6.below hSw); rw [← HSV.out] at h9; go_simp) ?_
        try simp only [Act.put, List.setIfInBounds_toArray, List.set_cons_zero, List.set_cons_succ]
        refine reg_call (i := 19) rfl (by kernel_rfl) (by rfl) fun K hK => ?_
        go_simp
        refine (ref_list A m c ss _ HM.out (hA.below bb6) (by omega) (by omega)).mono ?_
        rintro e w7 ⟨A7, c7, rfl, hs7, hb7⟩
        refine hK.out _ _ hb7 ?_
        rw [HLW.out]
        have bb7 := bb6.trans (hb7.mono sc6)
        have sc7 := bb7.size
        clear hK K
        try simp only [List.setIfInBounds_toArray, List.set_cons_zero, List.set_cons_succ]
        refine reg_take (i := 20) (d := some 78) (v := (.string SW)) rfl rfl (by kernel_rfl) (by kernel_rfl) (by kernel_rfl) (fun _ _ _ h => h) (by rfl) (by intro w' hSw; have h9 := run_str (P := Try.prog) w' 23 9 5 underBytes underU8 underStr A7 (encL (sbytes ss)) lw c7 HLW.out (hs7.below hSw); rw [← HSW.out] at h9; go_simp) ?_
        try simp only [Act.put, List.setIfInBounds_toArray, List.set_cons_zero, List.set_cons_succ]
        refine reg_take (i := 21) (d := some 79) (v := (.string SV)) rfl rfl (by kernel_rfl) (by kernel_rfl) (by kernel_rfl) (fun _ _ _ h => h) (by rfl) (by intro w' hSw; go_simp) ?_
        try simp only [Act.put, List.setIfInBounds_toArray, List.set_cons_zero, List.set_cons_succ]
        refine reg_take (i := 22) (d := some 80) (v := (.bool true)) rfl rfl (by kernel_rfl) (by kernel_rfl) (by kernel_rfl) (fun _ _ _ h => h) (by rfl) (by intro w' hSw; go_simp) ?_
        try simp only [Act.put, List.setIfInBounds_toArray, List.set_cons_zero, List.set_cons_succ]
        refine reg_take (i := 23) (d := some 81) (v := (.bool true)) rfl rfl (by kernel_rfl) (by kernel_rfl) (by kernel_rfl) (fun _ _ _ h => h) (by rfl) (by intro w' hSw; go_simp) ?_
        try simp only [Act.put, List.setIfInBounds_toArray, List.set_cons_zero, List.set_cons_succ]
        refine reg_take (i := 24) (d := some 82) (v := (.bool true)) rfl rfl (by kernel_rfl) (by kernel_rfl) (by kernel_rfl) (fun _ _ _ h => h) (by rfl) (by intro w' hSw; go_simp) ?_
        try simp only [Act.put, List.setIfInBounds_toArray, List.set_cons_zero, List.set_cons_succ]
        refine reg_call (i := 25) rfl (by kernel_rfl) (by rfl) fun K hK => ?_
        go_simp
        refine (knows_any _).mono ?_
        rintro e w8 ⟨rfl, hb8⟩
        refine hK.out _ _ hb8 ?_
        have bb8 := bb7.trans (hb8.mono sc7)
        clear hK K
        try simp only [List.setIfInBounds_toArray, List.set_cons_zero, List.set_cons_succ]
        refine reg_take (i := 26) (d := some 84) (v := (.bool true)) rfl rfl (by kernel_rfl) (by kernel_rfl) (by kernel_rfl) (fun _ _ _ h => h) (by rfl) (by intro w' hSw; go_simp) ?_
        try simp only [Act.put, List.setIfInBounds_toArray, List.set_cons_zero, List.set_cons_succ]
        refine reg_take (i := 27) (d := some 8) (v := (.bool true)) rfl rfl (by kernel_rfl) (by kernel_rfl) (by kernel_rfl) (fun _ _ _ h => h) (by rfl) (by intro w' hSw; go_simp) ?_
        try simp only [Act.put, List.setIfInBounds_toArray, List.set_cons_zero, List.set_cons_succ]
        refine wpAnyH_done (by kernel_rfl) ?_ _
        go_simp
        go_wp2_with fail
        go_ret
        exact ⟨rfl, bb8⟩
end Go.Proofs.Ytpbldkfoldjocaa
