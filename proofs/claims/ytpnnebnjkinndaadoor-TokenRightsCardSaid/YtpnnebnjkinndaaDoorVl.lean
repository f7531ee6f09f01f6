/- The laws TokenPlaces, TokenRights. -/
import Derived.Test.YtpnnebnjkinndaaDoorVj
namespace Go.Proofs.YtpnnebnjkinndaaDoor.TokW
open Go.RowKit UtfW Go.Sort Go.Shelf
set_option maxRecDepth 1000000 in
set_option maxHeartbeats 4000000 in
theorem lawPlaces (A : Option Addr) (n c : Nat) (bs : List UInt8) (t : ByteArray) (w : World) (hT : Tabs w) (hn : bs.length = n) (hA : Sl w A (bcells bs)) (hnc : n ≤ c) (hc : c ≤ 9223372036854775807) (ht63 : t.size ≤ 9223372036854775807) :
    Calls Tryd.prog 4 #[.slice A n c, .string t] w fun e w' => e = .returned (.bool true) ∧ Below w.heap.size w w' := by
  have HT := Lib.hid (fun W (hb : Below w.heap.size w W) => hT.below hb hT.pos)
  have hlen := terms_len bs
  rw [hn] at hlen
  have HM := Lib.hid hn
  clear hn
  by_cases hg : 2000 < n
  · go_enter Tryd.func4, Tryd.ntmps4
    go_wp2_with fail
    refine (great_yes A n c _ hg).mono ?_
    rintro e w1 ⟨rfl, rfl⟩
    go_wp2_with fail
    refine (knows_any _ hT).mono ?_
    rintro e w1 ⟨rfl, b1⟩
    go_wp2_with fail
    go_ret
    exact ⟨rfl, b1⟩
  by_cases ht : 1000 < t.size
  · have hd : decide ((1000 : Int) < (t.size : Int)) = true := decide_eq_true (by omega)
    go_enter Tryd.func4, Tryd.ntmps4
    go_wp2_with fail
    refine (great_no A n c _ hg).mono ?_
    rintro e w1 ⟨rfl, rfl⟩
    go_wp2_with fail
    refine (knows_any _ hT).mono ?_
    rintro e w1 ⟨rfl, b1⟩
    go_wp2_with fail
    go_ret
    exact ⟨rfl, b1⟩
  have hd : decide ((1000 : Int) < (t.size : Int)) = false := decide_eq_false (by omega)
  obtain ⟨Q, hQ⟩ : ∃ Q, Q = placesU (termsU bs) t.data.toList := ⟨_, rfl⟩
  obtain ⟨P, hP⟩ : ∃ P, P = posU (termsU bs) := ⟨_, rfl⟩
  have hQl : Q.length ≤ n := by
    have := placesK_len (termsU bs) t.data.toList (termsU bs).length
    rw [placesK_all, ← hQ] at this; omega
  have hPl : P.length ≤ n := by rw [hP, posU_len]; exact hlen
  have HQ := Lib.hid hQ
  have HP := Lib.hid hP
  obtain ⟨q, hq⟩ : ∃ q, q = Q.length := ⟨_, rfl⟩
  obtain ⟨p, hp⟩ : ∃ p, p = P.length := ⟨_, rfl⟩
  rw [← hq] at hQl
  rw [← hp] at hPl
  have HQL := Lib.hid hq
  have HPL := Lib.hid hp
  clear hQ hP hq hp ht
  go_enter Tryd.func4, Tryd.ntmps4
  go_wp2_with fail
  refine (great_no A n c _ hg).mono ?_
  rintro e w1 ⟨rfl, rfl⟩
  go_wp2_with fail
  refine (places_any A n c bs t _ hT HM.out hA hnc hc (by omega)).mono ?_
  rintro e w1 ⟨v1, rfl, o1, b1⟩
  rw [← HQ.out] at o1
  go_wp2_with fail
  refine (refPlaces A n c bs t _ HM.out (hA.below b1) hnc hc (by omega)).mono ?_
  rintro e w2 ⟨v2, rfl, o2, hb2⟩
  rw [← HQ.out] at o2
  have b2 := b1.trans (hb2.mono b1.size)
  have o1' := o1.below hb2
  clear o1 hb2 b1
  go_wp2_with fail
  refine (positions_any A n c bs _ (HT.out _ b2) HM.out (hA.below b2) hnc hc (by omega)).mono ?_
  rintro e w3 ⟨v3, rfl, o3, hb3⟩
  rw [← HP.out] at o3
  have b3 := b2.trans (hb3.mono b2.size)
  have o1 := o1'.below hb3
  have o2' := o2.below hb3
  clear o1' o2 hb3 b2
  go_wp2_with fail
  refine (refPositions A n c bs _ HM.out (hA.below b3) hnc hc (by omega)).mono ?_
  rintro e w4 ⟨v4, rfl, o4, hb4⟩
  rw [← HP.out] at o4
  have b4 := b3.trans (hb4.mono b3.size)
  have o1' := o1.below hb4
  have o2 := o2'.below hb4
  have o3' := o3.below hb4
  unfold OwP at o3' o4
  rw [← HPL.out] at o3' o4
  obtain ⟨A1, c1, rfl, s1, _, _, _⟩ := o1'.slice
  obtain ⟨A2, c2, rfl, s2, _, _, _⟩ := o2.slice
  obtain ⟨A3, c3, rfl, s3, _, _, _⟩ := own_sliceK o3'
  obtain ⟨A4, c4, rfl, s4, _, _, _⟩ := own_sliceK o4
  rw [← HQL.out]
  clear o1 o1' o2 o2' o3 o3' o4 hb4 b3 hT hA
  have z4 := b4.size
  go_wp2_with fail
  go_loopw [9] (fun i wr => ∃ k : Nat, k ≤ q ∧ i = .int .i64 (k : Int) ∧ Below w4.heap.size w4 wr) (fun i _ => q - (intOf i).toNat)
  case atStart => exact ⟨0, by omega, rfl, Below.refl _ _⟩
  case round =>
    obtain ⟨k, hk, rfl, hbel⟩ := hrel
    have hs := hbel.size
    by_cases hlt : k < q
    · obtain ⟨b, o, rfl, hblt, hcell⟩ := s1.get (j := k) (by rw [icells_len, ← HQL.out]; exact hlt)
      obtain ⟨b', o', rfl, hblt', hcell'⟩ := s2.get (j := k) (by rw [icells_len, ← HQL.out]; exact hlt)
      have hc0 := (hbel.cell (p := ⟨b, o + k, none⟩) hblt).trans (hcell k _ (icells_get Q k (by rw [← HQL.out]; exact hlt)))
      have hc1 := (hbel.cell (p := ⟨b', o' + k, none⟩) hblt').trans (hcell' k _ (icells_get Q k (by rw [← HQL.out]; exact hlt)))
      clear hcell hcell'
      generalize Q.getD k 0 = x at *
      go_wp2_with fail
      go_quiet (fail)
      go_wp2_with fail
      go_roundw
      case rel => exact ⟨k + 1, by omega, by go_num, hbel.trans (below_drewN (Below.refl _ _) _)⟩
      case measure => simp [intOf]; omega
    · clear s1 s2
      go_wp2_with fail
      go_loopw [10] (fun i wi => ∃ k : Nat, k ≤ p ∧ i = .int .i64 (k : Int) ∧ Below w4.heap.size w4 wi) (fun i _ => p - (intOf i).toNat)
      case atStart => exact ⟨0, by omega, rfl, hbel⟩
      case round =>
        clear hbel hs
        obtain ⟨j, hj, rfl, hbel⟩ := hrel
        have hs := hbel.size
        by_cases hjp : j < p
        · obtain ⟨b, o, rfl, hblt, hcell⟩ := Sl.kget encP_len s3 (i := j) (by rw [← HPL.out]; exact hjp) (by omega)
          obtain ⟨b', o', rfl, hblt', hcell'⟩ := Sl.kget encP_len s4 (i := j) (by rw [← HPL.out]; exact hjp) (by omega)
          generalize hx : P[j]'(by rw [← HPL.out]; exact hjp) = x at hcell hcell'
          obtain ⟨x1, x2⟩ := x
          have c0 := (hbel.cell (p := ⟨b, o + (j * 2 + 0), none⟩) hblt).trans (hcell 0 _ rfl)
          have c1 := (hbel.cell (p := ⟨b, o + (j * 2 + 1), none⟩) hblt).trans (hcell 1 _ rfl)
          have c2 := (hbel.cell (p := ⟨b', o' + (j * 2 + 0), none⟩) hblt').trans (hcell' 0 _ rfl)
          have c3 := (hbel.cell (p := ⟨b', o' + (j * 2 + 1), none⟩) hblt').trans (hcell' 1 _ rfl)
          clear hx hcell hcell'
          simp only [encStr] at c0 c2
          rw [← Nat.add_assoc, Nat.add_zero] at c0 c2
          rw [← Nat.add_assoc] at c1 c3
          generalize (ByteArray.mk x1.toArray) = X at c0 c2
          go_wp2_with fail
          go_quiet (fail)
          go_wp2_with fail
          go_roundw
          case rel => exact ⟨j + 1, by omega, by go_num, hbel.trans (below_drewN (Below.refl _ _) _)⟩
          case measure => simp [intOf]; omega
        · have b5 := b4.trans (hbel.mono z4)
          go_wp2_with fail
          refine (knows_any _ (HT.out _ b5)).mono ?_
          rintro e w6 ⟨rfl, b6⟩
          have b7 := b5.trans (b6.mono b5.size)
          go_wp2_with fail
          go_ret
          exact ⟨rfl, b7⟩
set_option maxRecDepth 1000000 in
set_option maxHeartbeats 4000000 in
theorem lawRights (s : ByteArray) (A : Option Addr) (n c : Nat) (bs : List UInt8) (w : World) (hT : Tabs w) (hn : bs.length = n) (hA : Sl w A (bcells bs)) (hnc : n ≤ c) (hc : c ≤ 9223372036854775807) (hs63 : s.size ≤ 9223372036854775807) :
    Calls Tryd.prog 5 #[.string s, .slice A n c] w fun e w' => e = .returned (.bool true) ∧ Below w.heap.size w w' := by
  have HT := Lib.hid (fun W (hb : Below w.heap.size w W) => hT.below hb hT.pos)
  have hlen := terms_len bs
  rw [hn] at hlen
  have HM := Lib.hid hn
  clear hn
  by_cases hg : 2000 < n
  · go_enter Tryd.func5, Tryd.ntmps5
    go_wp2_with fail
    refine (great_yes A n c _ hg).mono ?_
    rintro e w1 ⟨rfl, rfl⟩
    go_wp2_with fail
    refine (great_yes A n c _ hg).mono ?_
    rintro e w1 ⟨rfl, rfl⟩
    go_wp2_with fail
    refine (knows_any _ hT).mono ?_
    rintro e w1 ⟨rfl, b1⟩
    go_wp2_with fail
    go_ret
    exact ⟨rfl, b1⟩
  by_cases ht : 1000 < s.size
  · have hd : decide ((1000 : Int) < (s.size : Int)) = true := decide_eq_true (by omega)
    go_enter Tryd.func5, Tryd.ntmps5
    go_wp2_with fail
    refine (great_no A n c _ hg).mono ?_
    rintro e w1 ⟨rfl, rfl⟩
    go_wp2_with fail
    refine (great_no A n c _ hg).mono ?_
    rintro e w1 ⟨rfl, rfl⟩
    go_wp2_with fail
    refine (knows_any _ hT).mono ?_
    rintro e w1 ⟨rfl, b1⟩
    go_wp2_with fail
    go_ret
    exact ⟨rfl, b1⟩
  have hd : decide ((1000 : Int) < (s.size : Int)) = false := decide_eq_false (by omega)
  obtain ⟨r, hr⟩ : ∃ r, rightT s.data.toList = r := ⟨_, rfl⟩
  have HR := Lib.hid hr
  have HTR := Lib.hid (terms_right bs)
  have hrr : (r != r) = false := by simp
  have hs1000 : s.size ≤ 1000 := by omega
  clear hr ht
  go_enter Tryd.func5, Tryd.ntmps5
  go_wp2_with fail
  refine (great_no A n c _ hg).mono ?_
  rintro e w1 ⟨rfl, rfl⟩
  go_wp2_with fail
  refine (right_any s _ hT (by omega)).mono ?_
  rintro e w1 ⟨rfl, b1⟩
  rw [HR.out]
  go_wp2_with fail
  refine (refRight s _ (by omega)).mono ?_
  rintro e w2 ⟨rfl, hb2⟩
  rw [HR.out]
  have b2 := b1.trans (hb2.mono b1.size)
  clear hb2 b1
  cases r
  all_goals
    go_wp2_with fail
    refine (terms_any A n c bs _ (HT.out _ b2) HM.out (hA.below b2) hnc hc (by omega)).mono ?_
    rintro e w3 ⟨v3, ss, rfl, hss, o3, hb3⟩
    have b3 := b2.trans (hb3.mono b2.size)
    obtain ⟨m, hm⟩ : ∃ m, m = ss.length := ⟨_, rfl⟩
    have hmn : m ≤ n := by rw [hm]; rw [← hss, sbytes_len] at hlen; exact hlen
    have HSS := Lib.hid hss
    have HMM := Lib.hid hm
    obtain ⟨A3, c3, rfl, s3, _, _, _⟩ := o3.slice
    rw [← hm]
    clear o3 hb3 b2 hss hm
    have z3 := b3.size
    go_wp2_with fail
    go_loopw [6] (fun i wr => ∃ k : Nat, k ≤ m ∧ i = .int .i64 (k : Int) ∧ Below w3.heap.size w3 wr) (fun i _ => m - (intOf i).toNat)
    case atStart => exact ⟨0, by omega, rfl, Below.refl _ _⟩
    case round =>
      obtain ⟨k, hk, rfl, hbel⟩ := hrel
      have hs := hbel.size
      have b4 := b3.trans (hbel.mono z3)
      by_cases hlt : k < m
      · obtain ⟨b, o, rfl, hblt, hcell⟩ := s3.get (j := k) (by rw [scells_len, ← HMM.out]; exact hlt)
        have hcw := hcell k _ (scells_get ss k (by rw [← HMM.out]; exact hlt))
        have hc0 := (hbel.cell (p := ⟨b, o + k, none⟩) hblt).trans hcw
        have hks : k < ss.length := by rw [← HMM.out]; exact hlt
        have hmem : (ss.getD k ⟨#[]⟩).data.toList ∈ termsU bs := by
          rw [← HSS.out, ← tx_get ss k hks]
          have : k < (sbytes ss).length := by rw [sbytes_len]; exact hks
          rw [List.getD, List.getElem?_eq_getElem this]
          exact List.getElem_mem this
        obtain ⟨h1, h2, h3⟩ := HTR.out _ hmem
        rw [bsize] at h2
        have h4 : 0 < (ss.getD k ⟨#[]⟩).size := by rw [← bsize]; exact List.length_pos_iff.2 h3
        clear hcell hks hmem h3
        generalize ss.getD k ⟨#[]⟩ = x at *
        have HX := Lib.hid h1
        have hd1 : decide ((64 : Int) < (x.size : Int)) = false := decide_eq_false (by omega)
        have hd2 : ((x.size : Int) == 0) = false := by
          have : (x.size : Int) ≠ 0 := by omega
          simpa using this
        have hd3 : decide ((x.size : Int) = 0) = false := decide_eq_false (by omega)
        clear h1
        go_wp2_with fail
        refine (right_any x _ (HT.out _ b4) (by omega)).mono ?_
        rintro e w5 ⟨rfl, hb5⟩
        rw [HX.out]
        have hbel5 := hbel.trans (hb5.mono hs)
        have hc1 := (hbel5.cell (p := ⟨b, o + k, none⟩) hblt).trans hcw
        clear hc0 hb5
        go_wp2_with fail
        go_roundw
        case rel => exact ⟨k + 1, by omega, by go_num, hbel5⟩
        case measure => simp [intOf]; omega
      · go_wp2_with fail
        refine (knows_any _ (HT.out _ b4)).mono ?_
        rintro e w6 ⟨rfl, b6⟩
        have b7 := b4.trans (b6.mono b4.size)
        go_wp2_with fail
        go_ret
        exact ⟨rfl, b7⟩
end Go.Proofs.YtpnnebnjkinndaaDoor.TokW
