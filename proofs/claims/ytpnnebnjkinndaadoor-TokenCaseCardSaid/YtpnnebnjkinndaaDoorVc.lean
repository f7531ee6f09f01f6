/- token: the reference's In, Term, Terms. -/
import Derived.Test.YtpnnebnjkinndaaDoorVb
import Derived.Test.YtpnnebnjkinndaaDoorUc
import Derived.Test.YtpnnebnjkinndaaDoorUd
import Derived.Test.YtpnnebnjkinndaaDoorUl
namespace Go.Proofs.YtpnnebnjkinndaaDoor.TokW
open Go.RowKit UtfW
theorem cat_eq (a b : List UInt8) : ByteArray.mk a.toArray ++ ByteArray.mk b.toArray = ByteArray.mk (a ++ b).toArray := by
  apply ByteArray.ext
  simp
theorem cat_list (S X : ByteArray) : (S ++ X).data.toList = S.data.toList ++ X.data.toList := by
  have h1 : S = ⟨S.data.toList.toArray⟩ := by cases S; simp
  have h2 : X = ⟨X.data.toList.toArray⟩ := by cases X; simp
  conv => lhs; rw [h1, h2, cat_eq]
set_option maxHeartbeats 1000000 in
theorem in_any (c : Nat) (w : World) : Calls Tryd.prog 22 #[.int .i64 (c : Int)] w fun e w' => e = .returned (.bool (inU c)) ∧ w = w' := by
  by_cases h : letterU (c : Int) = true
  · have HI : Hid (inU c = true) := by show _ = _; rw [inU_of h rfl]; rfl
    have HLE := Lib.hid h
    clear h
    go_enter Tryd.func22, Tryd.ntmps22
    go_wp2_with fail
    refine (refLetter (c : Int) _).mono ?_
    rintro e w1 ⟨rfl, rfl⟩
    rw [HLE.out]
    go_wp2_with fail
    go_ret
    exact ⟨by rw [HI.out]; rfl, rfl⟩
  · have h' : letterU (c : Int) = false := by simpa using h
    have HLE := Lib.hid h'
    by_cases h1 : (48 : Int) ≤ (c : Int)
    · by_cases h2 : (c : Int) ≤ 57
      · have HI : Hid (inU c = true) := by show _ = _; rw [inU_of h' rfl]; simp [inR, h1, h2]
        clear h h'
        go_enter Tryd.func22, Tryd.ntmps22
        go_wp2_with fail
        refine (refLetter (c : Int) _).mono ?_
        rintro e w1 ⟨rfl, rfl⟩
        rw [HLE.out]
        go_wp2_with fail
        go_ret
        exact ⟨by rw [HI.out]; rfl, rfl⟩
      · have HI : Hid (inU c = false) := by show _ = _; rw [inU_of h' rfl]; simp [inR, h2]
        have h3 : decide ((c : Int) ≤ 57) = false := by simpa using h2
        clear h h' h2
        go_enter Tryd.func22, Tryd.ntmps22
        go_wp2_with fail
        refine (refLetter (c : Int) _).mono ?_
        rintro e w1 ⟨rfl, rfl⟩
        rw [HLE.out]
        go_wp2_with fail
        go_ret
        exact ⟨by rw [HI.out]; rfl, rfl⟩
    · have HI : Hid (inU c = false) := by show _ = _; rw [inU_of h' rfl]; simp [inR, h1]
      clear h h'
      go_enter Tryd.func22, Tryd.ntmps22
      go_wp2_with fail
      refine (refLetter (c : Int) _).mono ?_
      rintro e w1 ⟨rfl, rfl⟩
      rw [HLE.out]
      go_wp2_with fail
      go_ret
      exact ⟨by rw [HI.out]; rfl, rfl⟩
theorem in_yes (c : Nat) (w : World) (h : inU c = true) : Calls Tryd.prog 22 #[.int .i64 (c : Int)] w fun e w' => e = .returned (.bool true) ∧ w = w' := by
  have := in_any c w; rwa [h] at this
theorem in_no (c : Nat) (w : World) (h : inU c = false) : Calls Tryd.prog 22 #[.int .i64 (c : Int)] w fun e w' => e = .returned (.bool false) ∧ w = w' := by
  have := in_any c w; rwa [h] at this
set_option maxRecDepth 1000000 in
set_option maxHeartbeats 1000000 in
theorem refTerm (B : Option Addr) (l d : Nat) (cs : List Nat) (w : World) (hl : cs.length = l) (hb : Sl w B (icells cs)) (hin : ∀ x ∈ cs, inU x = true) (hl40 : l ≤ 1099511627776) :
    Calls Tryd.prog 27 #[.slice B l d] w (StrP (termU cs) w) := by
  have HL := Lib.hid hl
  have HIN := Lib.hid hin
  clear hl hin
  go_enter Tryd.func27, Tryd.ntmps27
  go_wp2_with fail
  go_loopw [3, 4] (fun t i wr => ∃ (k : Nat) (S : ByteArray), k ≤ l ∧ i = .int .i64 (k : Int) ∧ t = .string S ∧ S.size ≤ 64 ∧ Hid (termU cs = termG S.data.toList (cs.drop k)) ∧ Below w.heap.size w wr) (fun _ i _ => l - (intOf i).toNat)
  case atStart => exact ⟨0, ⟨#[]⟩, by omega, rfl, rfl, by show (0 : Nat) ≤ 64; omega, rfl, Below.refl _ _⟩
  case round =>
    obtain ⟨k, S, hk, rfl, rfl, hS64, HK, hbel⟩ := hrel
    have hs := hbel.size
    by_cases hlt : k < l
    · obtain ⟨b, o, rfl, hblt, hcell⟩ := hb.get (j := k) (by rw [icells_len, HL.out]; exact hlt)
      have hc0 := (hbel.cell (p := ⟨b, o + k, none⟩) hblt).trans (hcell k _ (icells_get cs k (by rw [HL.out]; exact hlt)))
      obtain ⟨c, hc⟩ : ∃ c, cs.getD k 0 = c := ⟨_, rfl⟩
      rw [hc] at hc0
      have hkl : k < cs.length := by rw [HL.out]; exact hlt
      have hcin : inU c = true := HIN.out c (by
        have : c = cs[k] := by rw [← hc]; simp [List.getD, hkl]
        rw [this]; exact List.getElem_mem hkl)
      have hsm := in_small hcin
      have HY := Lib.hid (fun hi => termG_more (s := S.data.toList) hkl hc hi)
      have HN := Lib.hid (fun hi => termG_full (s := S.data.toList) hkl hc hi)
      have hlt2 := rightC_lt hsm.2.2
      have hle4 := encU_le4 (smallN c)
      clear hcell hc hcin hsm hkl
      obtain ⟨E, hE⟩ : ∃ E, E = encU (smallN c) := ⟨_, rfl⟩
      rw [← hE] at HY HN hle4
      obtain ⟨X, hX⟩ : ∃ X : ByteArray, X = ⟨E.toArray⟩ := ⟨_, rfl⟩
      have HXE : Hid (X.data.toList = E) := by show _ = _; rw [hX]
      have hXn : X.size = E.length := by rw [← bsize, HXE.out]
      rw [← hXn, bsize] at HY HN
      rw [← hXn] at hle4
      have HX := Lib.hid hX
      have HE := Lib.hid hE
      obtain ⟨S1, hS1⟩ : ∃ S1, S ++ X = S1 := ⟨_, rfl⟩
      have HS1 : Hid (S1.data.toList = S.data.toList ++ E) := by show _ = _; rw [← hS1, cat_list, HXE.out]
      have hsz1 : S1.size = S.size + X.size := by rw [← bsize, HS1.out, List.length_append, bsize, hXn]
      have HSZ := Lib.hid hsz1
      have hbig : ¬ 9223372036854775807 < S.size + X.size := by omega
      clear hE hX hXn hsz1
      go_wp2_with fail
      refine (refSmall (c : Int) _).mono ?_
      rintro e w1 ⟨rfl, rfl⟩
      rw [small_nat]
      go_wp2_with fail
      refine (refEncode (smallN c) _ hlt2).mono ?_
      rintro e w2 ⟨A2, rfl, hs2, b2⟩
      rw [← HE.out] at hs2 ⊢
      have hstr := run_str (P := Tryd.prog) w2 22 9 5 underBytes underU8 underStr A2 E E.length E.length rfl hs2
      rw [← HX.out] at hstr
      have bb2 := hbel.trans (b2.mono hs)
      clear hs2 b2 hc0
      by_cases hfull : 64 < S.size + X.size
      · have HF : Hid (termU cs = S.data.toList) := by show _ = _; rw [HK.out, HN.out hfull]
        go_wp2_with fail
        go_ret
        exact ⟨_, rfl, HF.out.symm, bb2⟩
      · go_wp2_with fail
        go_roundw
        case rel => exact ⟨k + 1, S1, by omega, by go_num, rfl, by rw [HSZ.out]; omega, by show _ = _; rw [HK.out, HY.out hfull, HS1.out], bb2⟩
        case measure => simp [intOf]; omega
    · have HF : Hid (termU cs = S.data.toList) := by show _ = _; rw [HK.out, termG_end _ cs (by rw [HL.out]; omega)]
      go_wp2_with fail
      go_ret
      exact ⟨_, rfl, HF.out.symm, hbel⟩
set_option maxRecDepth 1000000 in
set_option maxHeartbeats 1000000 in
theorem refTerms (B : Option Addr) (l d : Nat) (bs : List UInt8) (w : World) (hl : bs.length = l) (hb : Sl w B (bcells bs)) (hld : l ≤ d) (hd63 : d ≤ 9223372036854775807) (hl40 : l ≤ 1099511627776) :
    Calls Tryd.prog 13 #[.slice B l d] w (TextsP (termsU bs) w) := by
  have HL := Lib.hid hl
  have hdl := dec_len bs
  rw [hl] at hdl
  clear hl
  go_enter Tryd.func13, Tryd.ntmps13
  go_wp2_with fail
  refine (refDecode B l d bs _ HL.out hb hld hd63 hl40).mono ?_
  rintro e w1 ⟨v1, rfl, hown1, bb1⟩
  obtain ⟨A1, c1, rfl, hs1, hc1, hcm1, _⟩ := hown1.slice
  obtain ⟨D, hD⟩ : ∃ D, D = dec bs := ⟨_, rfl⟩
  have HD := Lib.hid hD
  rw [← hD] at hs1 hc1 hdl ⊢
  clear hD hown1 hb
  obtain ⟨n, hn⟩ : ∃ n, n = D.length := ⟨_, rfl⟩
  have HN := Lib.hid hn
  rw [← hn] at hc1 hdl ⊢
  clear hn
  have hz1 := bb1.size
  unfold maxLen at hcm1
  go_wp2_with fail
  go_loopw [4, 5] (fun out i wr => ∃ (p : Nat) (ss : List ByteArray), i = .int .i64 (p : Int) ∧ p ≤ n + 1 ∧ OwS w1.heap.size wr out ss ∧ ss.length ≤ p ∧
      Hid (termsU bs = sbytes ss ++ termsC (D.drop p)) ∧ Below w1.heap.size w1 wr) (fun _ i _ => n + 1 - (intOf i).toNat)
  case atStart => exact ⟨0, [], rfl, by omega, OwS.nil _ _, Nat.le_refl _, by show _ = _; rw [HD.out]; rfl, Below.refl _ _⟩
  case round =>
    obtain ⟨p, ss, rfl, hp, hown, hsp, HK, hbel⟩ := hrel
    have hs := hbel.size
    by_cases hlt : p < n
    · obtain ⟨cs, hcs⟩ : ∃ cs, cs = D.drop p := ⟨_, rfl⟩
      have HCS := Lib.hid hcs
      have HCL : Hid (cs.length = n - p) := by show _ = _; rw [hcs, List.length_drop, HN.out]
      have HDR : Hid (∀ k, cs.drop k = D.drop (p + k)) := fun k => by rw [hcs, List.drop_drop]
      have HST := Lib.hid (termsC_step cs)
      have hwl := wl_le cs
      rw [HCL.out] at hwl
      have HSP := Lib.hid (wl_split cs).1
      clear hcs
      obtain ⟨m, hm⟩ : ∃ m, m = wl cs := ⟨_, rfl⟩
      have HM := Lib.hid hm
      rw [← hm] at HST hwl HSP
      clear hm
      go_wp2_with fail
      go_loop [6] (fun i6 => ∃ k : Nat, p ≤ k ∧ k ≤ p + m ∧ i6 = .int .i64 (k : Int) ∧ Hid (m = (k - p) + wl (D.drop k))) (fun i6 => n - (intOf i6).toNat)
      case atStart => exact ⟨p, by omega, by omega, rfl, by show _ = _; rw [HM.out, HCS.out, Nat.sub_self, Nat.zero_add]⟩
      case round =>
        obtain ⟨k, hpk, hkm, rfl, HKW⟩ := hrel
        have EXIT : Hid (wl (D.drop k) = 0 → k = p + m) := fun h => by have := HKW.out; rw [h] at this; omega
        by_cases hkn : k < n
        · obtain ⟨b, o, rfl, hblt, hcell⟩ := hs1.get (j := k) (by rw [icells_len, ← HN.out]; exact hkn)
          have hc0 := (hbel.cell (p := ⟨b, o + k, none⟩) hblt).trans (hcell k _ (icells_get D k (by rw [← HN.out]; exact hkn)))
          obtain ⟨c, hc⟩ : ∃ c, D.getD k 0 = c := ⟨_, rfl⟩
          rw [hc] at hc0
          have HY := Lib.hid (fun hi => wl_drop (by rw [← HN.out]; exact hkn) hc hi)
          have HNO := Lib.hid (fun hi => wl_drop_no (by rw [← HN.out]; exact hkn) hc hi)
          clear hcell hc
          by_cases hin : inU c = true
          · have HW := Lib.hid (HY.out hin)
            have hc := fun W => in_yes c W hin
            have HIN := Lib.hid hc
            clear hin HY HNO hc
            go_wp2_with fail
            refine (HIN.out _).mono ?_
            rintro e w7 ⟨rfl, rfl⟩
            go_wp2_with fail
            go_round
            case rel => exact ⟨k + 1, by omega, by have := HKW.out; have := HW.out; omega, by go_num, by show _ = _; have := HKW.out; have := HW.out; omega⟩
            case measure => simp [intOf]; omega
          · have hin' : inU c = false := by simpa using hin
            have HKP := Lib.hid (EXIT.out (HNO.out hin'))
            have hc := fun W => in_no c W hin'
            have HIN := Lib.hid hc
            clear hin hin' HY HNO hc EXIT HKW
            go_wp2_with fail
            refine (HIN.out _).mono ?_
            rintro e w7 ⟨rfl, rfl⟩
            obtain rfl := HKP.out
            clear HKP
            by_cases hm0 : m = 0
            · have HS0 : Hid (termsC cs = termsC (D.drop (p + 1))) := by
                show _ = _
                rw [HST.out, if_pos hm0, HDR.out, hm0]; rfl
              have HMZ := Lib.hid hm0
              subst hm0
              clear HMZ
              simp only [Nat.add_zero] at *
              go_wp2_with fail
              go_roundw
              case rel => exact ⟨p + 1, ss, by go_num, by omega, hown, by omega, by show _ = _; rw [HK.out, ← HCS.out, HS0.out], hbel⟩
              case measure => simp [intOf]; omega
            · have HS0 : Hid (termsC cs = termU (cs.take m) :: termsC (D.drop (p + m + 1))) := by
                show _ = _
                rw [HST.out, if_neg hm0, HDR.out, Nat.add_assoc]; rfl
              obtain ⟨B2, hB2⟩ : ∃ B2, B2 = (if c1 = p then some (⟨b, o, none⟩ : Addr) else (some (⟨b, o, none⟩ : Addr)).map (·.add p)) := ⟨_, rfl⟩
              have hpt := fun w' => run_part (P := Tryd.prog) intsTy w' (some ⟨b, o, none⟩) n c1 p (p + m) .i64 .i64 (by omega) (by omega)
              rw [← hB2, Nat.add_sub_cancel_left, Int.natCast_add] at hpt
              have hsl2 : Sl w1 B2 (icells (cs.take m)) := by
                have := (hs1.cut p c1 (by rw [icells_len, ← HN.out]; exact hc1)).take m
                rw [← hB2, icells_drop, icells_take, ← HCS.out] at this
                exact this
              have HTL : Hid ((cs.take m).length = m) := by show _ = _; rw [List.length_take, HCL.out]; omega
              clear hB2
              go_wp2_with fail
              refine (refTerm B2 m (c1 - p) (cs.take m) _ HTL.out (hsl2.below hbel) HSP.out (by omega)).mono ?_
              rintro e w8 ⟨s, rfl, hst, b8⟩
              have HSS := Lib.hid hst
              have hbel8 := hbel.trans (b8.mono hs)
              have hown8 := hown.below b8
              have hz8 := hbel8.size
              have HN1 := Lib.hid (fun (W : World) => new_str W s)
              clear b8 hst hown
              go_wp2_with (refine wpList_app rfl (.tmp 30) (.tmp 36) 26 rfl strsTy w1.heap.size u4 ss.length (scells ss) rfl (hown8.alloc _) _ 1 1 (scells [s]) rfl rfl (HN1.out _) (scells_one _) (by omega) (by simp; omega) ?_; intro v9 w9 hown9 hgr9 hbl9)
              have hbel9 := below_app (hbel8.alloc hz8 (.cells #[.string s] 9)) hgr9 (hown8.alloc _) (Nat.le_refl _) (by simp; omega)
              clear hpt
              go_roundw
              case rel => exact ⟨p + m + 1, ss ++ [s], by go_num, by omega, snoc_ownS rfl hown9, by rw [List.length_append, List.length_singleton]; omega, by show _ = _; rw [HK.out, ← HCS.out, HS0.out, sbytes_app, List.append_assoc]; simp only [sbytes, List.map_cons, List.map_nil, HSS.out]; rfl, hbel9⟩
              case measure => simp [intOf]; omega
        · have hkp : k = p + m := EXIT.out (by rw [List.drop_eq_nil_of_le (by rw [← HN.out]; omega)]; rfl)
          have hkn' : k = n := by omega
          clear EXIT HKW
          subst hkp
          have hm0 : ¬ m = 0 := by omega
          have HS0 : Hid (termsC cs = termU (cs.take m) :: termsC (D.drop (p + m + 1))) := by
            show _ = _
            rw [HST.out, if_neg hm0, HDR.out, Nat.add_assoc]; rfl
          obtain ⟨B2, hB2⟩ : ∃ B2, B2 = (if c1 = p then A1 else A1.map (·.add p)) := ⟨_, rfl⟩
          have hpt := fun w' => run_part (P := Tryd.prog) intsTy w' A1 n c1 p (p + m) .i64 .i64 (by omega) (by omega)
          rw [← hB2, Nat.add_sub_cancel_left, Int.natCast_add] at hpt
          have hsl2 : Sl w1 B2 (icells (cs.take m)) := by
            have := (hs1.cut p c1 (by rw [icells_len, ← HN.out]; exact hc1)).take m
            rw [← hB2, icells_drop, icells_take, ← HCS.out] at this
            exact this
          have HTL : Hid ((cs.take m).length = m) := by show _ = _; rw [List.length_take, HCL.out]; omega
          have HKN := Lib.hid hkn'
          clear hB2 hkn'
          go_wp2_with fail
          refine (refTerm B2 m (c1 - p) (cs.take m) _ HTL.out (hsl2.below hbel) HSP.out (by omega)).mono ?_
          rintro e w8 ⟨s, rfl, hst, b8⟩
          have HSS := Lib.hid hst
          have hbel8 := hbel.trans (b8.mono hs)
          have hown8 := hown.below b8
          have hz8 := hbel8.size
          have HN1 := Lib.hid (fun (W : World) => new_str W s)
          clear b8 hst hown
          go_wp2_with (refine wpList_app rfl (.tmp 30) (.tmp 36) 26 rfl strsTy w1.heap.size u4 ss.length (scells ss) rfl (hown8.alloc _) _ 1 1 (scells [s]) rfl rfl (HN1.out _) (scells_one _) (by omega) (by simp; omega) ?_; intro v9 w9 hown9 hgr9 hbl9)
          have hbel9 := below_app (hbel8.alloc hz8 (.cells #[.string s] 9)) hgr9 (hown8.alloc _) (Nat.le_refl _) (by simp; omega)
          clear hpt
          go_roundw
          case rel => exact ⟨p + m + 1, ss ++ [s], by go_num, by omega, snoc_ownS rfl hown9, by rw [List.length_append, List.length_singleton]; omega, by show _ = _; rw [HK.out, ← HCS.out, HS0.out, sbytes_app, List.append_assoc]; simp only [sbytes, List.map_cons, List.map_nil, HSS.out]; rfl, hbel9⟩
          case measure => simp [intOf]; omega
    · have HF : Hid (sbytes ss = termsU bs) := by
        show _ = _
        rw [HK.out, List.drop_eq_nil_of_le (by rw [← HN.out]; omega), termsC_nil, List.append_nil]
      go_wp2_with fail
      go_ret
      exact ⟨_, ss, rfl, HF.out, hown.base hz1, bb1.trans (hbel.mono hz1)⟩
end Go.Proofs.YtpnnebnjkinndaaDoor.TokW
