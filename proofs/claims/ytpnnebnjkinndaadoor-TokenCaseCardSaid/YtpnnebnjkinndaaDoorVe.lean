/- token: Places and Right, the program's and the reference's. -/
import Derived.Test.YtpnnebnjkinndaaDoorVd
import Derived.Test.YtpnnebnjkinndaaDoorTy
import Derived.Test.YtpnnebnjkinndaaDoorConv
namespace Go.Proofs.YtpnnebnjkinndaaDoor.TokW
open Go.RowKit UtfW
theorem OwI.base {B B' : Nat} {v : Value} {l : List Nat} {w : World} (h : OwI B w v l) (hb : B' ≤ B) : OwI B' w v l := World.ownsRow.mono h hb
/-- A new row of these numbers. -/
def NumsP (l : List Nat) (w : World) (e : Ending) (w' : World) : Prop := ∃ v, e = .returned v ∧ OwI w.heap.size w' v l ∧ Below w.heap.size w w'
theorem tx_get (ss : List ByteArray) (k : Nat) (h : k < ss.length) : (sbytes ss).getD k [] = (ss.getD k ⟨#[]⟩).data.toList := sbytes_get ss k h
set_option maxRecDepth 1000000 in
set_option maxHeartbeats 1000000 in
theorem places_any (B : Option Addr) (l d : Nat) (bs : List UInt8) (t : ByteArray) (w : World) (hT : Tabs w) (hl : bs.length = l) (hb : Sl w B (bcells bs)) (hld : l ≤ d) (hd63 : d ≤ 9223372036854775807) (hl40 : l ≤ 1099511627776) :
    Calls Tryd.prog 16 #[.slice B l d, .string t] w (NumsP (placesU (termsU bs) t.data.toList) w) := by
  have hlen := terms_len bs
  rw [hl] at hlen
  have HL := Lib.hid hl
  clear hl
  go_enter Tryd.func16, Tryd.ntmps16
  go_wp2_with fail
  refine (terms_any B l d bs _ hT HL.out hb hld hd63 hl40).mono ?_
  rintro e w1 ⟨v1, ss, rfl, hss, hown1, bb1⟩
  obtain ⟨n, hn⟩ : ∃ n, n = ss.length := ⟨_, rfl⟩
  have hnl : n ≤ l := by rw [hn]; rw [← hss, sbytes_len] at hlen; exact hlen
  have HSS := Lib.hid hss
  obtain ⟨A1, c1, rfl, hs1, _, _, _⟩ := hown1.slice
  rw [← hn]
  have HN := Lib.hid hn
  have hz1 := bb1.size
  clear hown1 hss hn hT hb
  go_wp2_with fail
  go_loopw [5, 11] (fun out i wr => ∃ k : Nat, k ≤ n ∧ i = .int .i64 (k : Int) ∧ OwI w1.heap.size wr out (placesK (termsU bs) t.data.toList k) ∧ Below w1.heap.size w1 wr) (fun _ i _ => n - (intOf i).toNat)
  case atStart => exact ⟨0, by omega, rfl, OwI.nil _ _, Below.refl _ _⟩
  case round =>
    obtain ⟨k, hk, rfl, hr, hbel⟩ := hrel
    have hs := hbel.size
    by_cases hlt : k < n
    · obtain ⟨b, o, rfl, hblt, hcell⟩ := hs1.get (j := k) (by rw [scells_len, ← HN.out]; exact hlt)
      have hc0 := (hbel.cell (p := ⟨b, o + k, none⟩) hblt).trans (hcell k _ (scells_get ss k (by rw [← HN.out]; exact hlt)))
      have HG := Lib.hid (tx_get ss k (by rw [← HN.out]; exact hlt))
      have hpl := placesK_len (termsU bs) t.data.toList k
      obtain ⟨P, hP⟩ : ∃ P, P = placesK (termsU bs) t.data.toList k := ⟨_, rfl⟩
      have HP := Lib.hid hP
      rw [← hP] at hr hpl
      clear hcell hP
      generalize ss.getD k ⟨#[]⟩ = x at *
      by_cases he : x = t
      · have hq := beq_yes he
        have HR : Hid (placesK (termsU bs) t.data.toList (k + 1) = P ++ [k]) := by
          show _ = _
          rw [placesK_yes (by rw [← HSS.out, HG.out, he]), HP.out]
        have HNI := Lib.hid (fun (W : World) => new_int W k)
        clear he
        go_wp2_with (refine wpList_app rfl (.tmp 19) (.tmp 21) 28 rfl intsTy w1.heap.size u5 P.length (icells P) rfl (hr.alloc _) _ 1 1 (icells [k]) rfl rfl (HNI.out _) (icells_one _) (by omega) (by simp; omega) ?_; intro v3 w3 hown3 hgr3 hbl3)
        have hbel3 := below_app (hbel.alloc hs (.cells #[.int .i64 (k : Int)] 3)) hgr3 (hr.alloc _) (Nat.le_refl _) (by simp; omega)
        go_roundw
        case rel => exact ⟨k + 1, by omega, by go_num, by rw [HR.out]; exact snoc_ownI rfl hown3, hbel3⟩
        case measure => simp [intOf]; omega
      · have hq := beq_no he
        have HR : Hid (placesK (termsU bs) t.data.toList (k + 1) = P) := by
          show _ = _
          rw [placesK_no (by rw [← HSS.out, HG.out]; exact fun g => he (ba_eq g)), HP.out]
        clear he
        go_wp2_with fail
        go_roundw
        case rel => exact ⟨k + 1, by omega, by go_num, by rw [HR.out]; exact hr, hbel⟩
        case measure => simp [intOf]; omega
    · have HF : Hid (placesK (termsU bs) t.data.toList k = placesU (termsU bs) t.data.toList) := by
        show _ = _
        rw [← placesK_all, ← HSS.out, sbytes_len, ← HN.out, show k = n by omega]
      go_wp2_with fail
      go_ret
      exact ⟨_, rfl, by rw [← HF.out]; exact OwI.base hr hz1, bb1.trans (hbel.mono hz1)⟩
set_option maxRecDepth 1000000 in
set_option maxHeartbeats 1000000 in
theorem refPlaces (B : Option Addr) (l d : Nat) (bs : List UInt8) (t : ByteArray) (w : World) (hl : bs.length = l) (hb : Sl w B (bcells bs)) (hld : l ≤ d) (hd63 : d ≤ 9223372036854775807) (hl40 : l ≤ 1099511627776) :
    Calls Tryd.prog 17 #[.slice B l d, .string t] w (NumsP (placesU (termsU bs) t.data.toList) w) := by
  have hlen := terms_len bs
  rw [hl] at hlen
  have HL := Lib.hid hl
  clear hl
  go_enter Tryd.func17, Tryd.ntmps17
  go_wp2_with fail
  refine (refTerms B l d bs _ HL.out hb hld hd63 hl40).mono ?_
  rintro e w1 ⟨v1, ss, rfl, hss, hown1, bb1⟩
  obtain ⟨n, hn⟩ : ∃ n, n = ss.length := ⟨_, rfl⟩
  have hnl : n ≤ l := by rw [hn]; rw [← hss, sbytes_len] at hlen; exact hlen
  have HSS := Lib.hid hss
  obtain ⟨A1, c1, rfl, hs1, _, _, _⟩ := hown1.slice
  rw [← hn]
  have HN := Lib.hid hn
  have hz1 := bb1.size
  clear hown1 hss hn hb
  go_wp2_with fail
  go_loopw [6, 7] (fun out i wr => ∃ k : Nat, k ≤ n ∧ i = .int .i64 (k : Int) ∧ OwI w1.heap.size wr out (placesK (termsU bs) t.data.toList k) ∧ Below w1.heap.size w1 wr) (fun _ i _ => n - (intOf i).toNat)
  case atStart => exact ⟨0, by omega, rfl, OwI.nil _ _, Below.refl _ _⟩
  case round =>
    obtain ⟨k, hk, rfl, hr, hbel⟩ := hrel
    have hs := hbel.size
    by_cases hlt : k < n
    · obtain ⟨b, o, rfl, hblt, hcell⟩ := hs1.get (j := k) (by rw [scells_len, ← HN.out]; exact hlt)
      have hc0 := (hbel.cell (p := ⟨b, o + k, none⟩) hblt).trans (hcell k _ (scells_get ss k (by rw [← HN.out]; exact hlt)))
      have HG := Lib.hid (tx_get ss k (by rw [← HN.out]; exact hlt))
      have hpl := placesK_len (termsU bs) t.data.toList k
      obtain ⟨P, hP⟩ : ∃ P, P = placesK (termsU bs) t.data.toList k := ⟨_, rfl⟩
      have HP := Lib.hid hP
      rw [← hP] at hr hpl
      clear hcell hP
      generalize ss.getD k ⟨#[]⟩ = x at *
      by_cases he : x = t
      · have hq := beq_yes he
        have HR : Hid (placesK (termsU bs) t.data.toList (k + 1) = P ++ [k]) := by
          show _ = _
          rw [placesK_yes (by rw [← HSS.out, HG.out, he]), HP.out]
        have HNI := Lib.hid (fun (W : World) => new_int W k)
        clear he
        go_wp2_with (refine wpList_app rfl (.tmp 22) (.tmp 24) 28 rfl intsTy w1.heap.size u6 P.length (icells P) rfl (hr.alloc _) _ 1 1 (icells [k]) rfl rfl (HNI.out _) (icells_one _) (by omega) (by simp; omega) ?_; intro v3 w3 hown3 hgr3 hbl3)
        have hbel3 := below_app (hbel.alloc hs (.cells #[.int .i64 (k : Int)] 3)) hgr3 (hr.alloc _) (Nat.le_refl _) (by simp; omega)
        go_roundw
        case rel => exact ⟨k + 1, by omega, by go_num, by rw [HR.out]; exact snoc_ownI rfl hown3, hbel3⟩
        case measure => simp [intOf]; omega
      · have hq := beq_no he
        have HR : Hid (placesK (termsU bs) t.data.toList (k + 1) = P) := by
          show _ = _
          rw [placesK_no (by rw [← HSS.out, HG.out]; exact fun g => he (ba_eq g)), HP.out]
        clear he
        go_wp2_with fail
        go_roundw
        case rel => exact ⟨k + 1, by omega, by go_num, by rw [HR.out]; exact hr, hbel⟩
        case measure => simp [intOf]; omega
    · have HF : Hid (placesK (termsU bs) t.data.toList k = placesU (termsU bs) t.data.toList) := by
        show _ = _
        rw [← placesK_all, ← HSS.out, sbytes_len, ← HN.out, show k = n by omega]
      go_wp2_with fail
      go_ret
      exact ⟨_, rfl, by rw [← HF.out]; exact OwI.base hr hz1, bb1.trans (hbel.mono hz1)⟩
set_option maxRecDepth 1000000 in
set_option maxHeartbeats 1000000 in
theorem right_any (s : ByteArray) (w : World) (hT : Tabs w) (hs40 : s.size ≤ 1099511627776) :
    Calls Tryd.prog 20 #[.string s] w fun e w' => e = .returned (.bool (rightT s.data.toList)) ∧ Below w.heap.size w w' := by
  have HT := Lib.hid (fun W (hb : Below w.heap.size w W) => hT.below hb hT.pos)
  have hlen := terms_len s.data.toList
  rw [bsize] at hlen
  clear hT
  go_enter Tryd.func20, Tryd.ntmps20
  go_wp2_with (refine wpList_toBytes rfl 9 22 5 (.tmp 4) rfl underStr underBytes underU8 s rfl (by unfold maxLen; omega) ?_; intro A0 c0 w0 b0 hs0 hc0 hm0 hge0)
  unfold maxLen at hm0
  refine (terms_any A0 s.size c0 s.data.toList _ (HT.out _ b0) (bsize s) hs0 hc0 (by omega) hs40).mono ?_
  rintro e w1 ⟨v1, ss, rfl, hss, hown1, b1⟩
  have bb1 := b0.trans (b1.mono b0.size)
  obtain ⟨n, hn⟩ : ∃ n, n = ss.length := ⟨_, rfl⟩
  have hnl : n ≤ s.size := by rw [hn]; rw [← hss, sbytes_len] at hlen; exact hlen
  obtain ⟨A1, c1, rfl, hs1, _, _, _⟩ := hown1.slice
  rw [← hn]
  clear hs0 hown1 b0 b1 hge0
  by_cases h1 : n = 1
  · obtain ⟨x, rfl⟩ : ∃ x, ss = [x] := by
      match ss, hn.symm.trans h1 with
      | [x], _ => exact ⟨x, rfl⟩
    obtain ⟨b, o, rfl, hblt, hcell⟩ := hs1.get (j := 0) (by simp [scells])
    have hc0 : w1.cell? ⟨b, o, none⟩ = some (.string x) := hcell 0 _ rfl
    have hss' : termsU s.data.toList = [x.data.toList] := hss.symm
    obtain rfl := h1
    clear hss hn hcell hs1 hlen
    by_cases he : x = s
    · have hq := beq_yes he
      have HR : Hid (rightT s.data.toList = true) := by show _ = _; rw [← right_iff, hss', he]
      clear he hss'
      go_wp2_with fail
      go_ret
      exact ⟨by rw [HR.out]; rfl, bb1⟩
    · have hq := beq_no he
      have HR : Hid (rightT s.data.toList = false) := right_other hss' (fun g => he (ba_eq g))
      clear he hss'
      go_wp2_with fail
      go_ret
      exact ⟨by rw [HR.out]; rfl, bb1⟩
  · have HR : Hid (rightT s.data.toList = false) := right_many (by rw [← hss, sbytes_len, ← hn]; exact h1)
    have hd : decide (n = 1) = false := by simpa using h1
    clear hss hn hs1 hlen
    go_wp2_with fail
    go_ret
    exact ⟨by rw [HR.out]; rfl, bb1⟩
set_option maxRecDepth 1000000 in
set_option maxHeartbeats 1000000 in
theorem refRight (s : ByteArray) (w : World) (hs40 : s.size ≤ 1099511627776) :
    Calls Tryd.prog 21 #[.string s] w fun e w' => e = .returned (.bool (rightT s.data.toList)) ∧ Below w.heap.size w w' := by
  have hlen := dec_len s.data.toList
  rw [bsize] at hlen
  go_enter Tryd.func21, Tryd.ntmps21
  go_wp2_with (refine wpList_toBytes rfl 9 22 5 (.tmp 5) rfl underStr underBytes underU8 s rfl (by unfold maxLen; omega) ?_; intro A0 c0 w0 b0 hs0 hc0 hm0 hge0)
  unfold maxLen at hm0
  refine (refDecode A0 s.size c0 s.data.toList _ (bsize s) hs0 hc0 (by omega) hs40).mono ?_
  rintro e w1 ⟨v1, rfl, hown1, b1⟩
  have bb1 := b0.trans (b1.mono b0.size)
  obtain ⟨A1, c1, rfl, hs1, _, _, _⟩ := hown1.slice
  obtain ⟨D, hD⟩ : ∃ D, D = dec s.data.toList := ⟨_, rfl⟩
  have HD := Lib.hid hD
  rw [← hD] at hs1 hlen ⊢
  clear hD hown1 hs0 hge0 b0 b1
  obtain ⟨n, hn⟩ : ∃ n, n = D.length := ⟨_, rfl⟩
  have HN := Lib.hid hn
  rw [← hn] at hlen ⊢
  clear hn
  go_wp2_with fail
  go_loopw [4] (fun i wr => ∃ k : Nat, k ≤ n ∧ i = .int .i64 (k : Int) ∧ Hid (okK D k) ∧ Below w1.heap.size w1 wr) (fun i _ => n - (intOf i).toNat)
  case atStart => exact ⟨0, by omega, rfl, okK_zero D, Below.refl _ _⟩
  case round =>
    obtain ⟨k, hk, rfl, HK, hbel⟩ := hrel
    have hs := hbel.size
    have hall := bb1.trans (hbel.mono bb1.size)
    by_cases hlt : k < n
    · obtain ⟨b, o, rfl, hblt, hcell⟩ := hs1.get (j := k) (by rw [icells_len, ← HN.out]; exact hlt)
      have hc0 := (hbel.cell (p := ⟨b, o + k, none⟩) hblt).trans (hcell k _ (icells_get D k (by rw [← HN.out]; exact hlt)))
      obtain ⟨c, hc⟩ : ∃ c, D.getD k 0 = c := ⟨_, rfl⟩
      rw [hc] at hc0
      have HY := Lib.hid (fun h1 h2 => okK_succ (by rw [← HN.out]; exact hlt) hc HK.out h1 h2)
      have HNO : Hid (¬ (inU c = true ∧ smallN c = c) → rightT s.data.toList = false) := fun hn' => ok_fail (k := k) (c := c) (by rw [← HD.out, ← HN.out]; exact hlt) (by rw [← HD.out]; exact hc) hn'
      clear hcell hc
      by_cases h1 : inU c = true
      · have HIN := Lib.hid (fun W => in_yes c W h1)
        have hsm := small_nat c
        have HSM := Lib.hid (fun W => refSmall (c : Int) W)
        rw [hsm] at HSM
        by_cases h2 : smallN c = c
        · have HO := Lib.hid (HY.out h1 h2)
          rw [h2] at HSM
          clear h1 h2 HY HNO hsm
          go_wp2_with fail
          go_quiet (first | (go_at_call 22; exact Calls.quiet_of_same ((HIN.out _).mono fun _ _ ⟨h1, h2⟩ => ⟨h1, h2.symm⟩)) | (go_at_call 33; exact Calls.quiet_of_same ((HSM.out _).mono fun _ _ ⟨h1, h2⟩ => ⟨h1, h2.symm⟩)))
          go_wp2_with fail
          go_roundw
          case rel => exact ⟨k + 1, by omega, by go_num, HO, below_drewN hbel _⟩
          case measure => simp [intOf]; omega
        · have HO := Lib.hid (HNO.out (fun h => h2 h.2))
          have h3 : ((smallN c : Int) == (c : Int)) = false := by simpa using (fun h => h2 (by exact_mod_cast h))
          have h4 : ((smallN c : Int) != (c : Int)) = true := by simpa using (fun h => h2 (by exact_mod_cast h))
          have h5 : decide ((smallN c : Int) = (c : Int)) = false := by simpa using (fun h => h2 (by exact_mod_cast h))
          clear h1 h2 HY HNO hsm
          go_wp2_with fail
          go_quiet (first | (go_at_call 22; exact Calls.quiet_of_same ((HIN.out _).mono fun _ _ ⟨h1, h2⟩ => ⟨h1, h2.symm⟩)) | (go_at_call 33; exact Calls.quiet_of_same ((HSM.out _).mono fun _ _ ⟨h1, h2⟩ => ⟨h1, h2.symm⟩)))
          go_wp2_with fail
          go_ret
          exact ⟨by rw [HO.out]; rfl, below_drewN hall _⟩
      · have h1' : inU c = false := by simpa using h1
        have HIN := Lib.hid (fun W => in_no c W h1')
        have HO := Lib.hid (HNO.out (fun h => h1 h.1))
        clear h1 h1' HY HNO
        go_wp2_with fail
        go_quiet (first | (go_at_call 22; exact Calls.quiet_of_same ((HIN.out _).mono fun _ _ ⟨h1, h2⟩ => ⟨h1, h2.symm⟩)))
        go_wp2_with fail
        go_ret
        exact ⟨by rw [HO.out]; rfl, below_drewN hall _⟩
    · have HF : Hid (rightT s.data.toList = (decide (0 < n) && decide (s.size ≤ 64))) := by
        show _ = _
        have h1 := HK.out
        rw [show k = n by omega, HN.out, HD.out] at h1
        rw [ok_all h1, ← HD.out, ← HN.out, bsize]
      by_cases h0 : 0 < n
      · by_cases h64 : s.size ≤ 64
        · have HR : Hid (rightT s.data.toList = true) := by show _ = _; rw [HF.out]; simp [h0, h64]
          have hd : decide ((s.size : Int) ≤ 64) = true := decide_eq_true (by omega)
          clear HF
          go_wp2_with fail
          go_ret
          exact ⟨by rw [HR.out]; rfl, hall⟩
        · have HR : Hid (rightT s.data.toList = false) := by show _ = _; rw [HF.out]; simp [h0, h64]
          have hd : decide ((s.size : Int) ≤ 64) = false := decide_eq_false (by omega)
          clear HF
          go_wp2_with fail
          go_ret
          exact ⟨by rw [HR.out]; rfl, hall⟩
      · have HR : Hid (rightT s.data.toList = false) := by show _ = _; rw [HF.out]; simp [h0]
        clear HF
        go_wp2_with fail
        go_ret
        exact ⟨by rw [HR.out]; rfl, hall⟩
end Go.Proofs.YtpnnebnjkinndaaDoor.TokW
