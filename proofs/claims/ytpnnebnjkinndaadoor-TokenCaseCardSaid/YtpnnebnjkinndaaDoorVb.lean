/- token: Terms. -/
import Derived.Test.YtpnnebnjkinndaaDoorVa
namespace Go.Proofs.YtpnnebnjkinndaaDoor.TokW
open Go.RowKit UtfW
/-- A new row of just these texts. -/
def TextsP (l : List (List UInt8)) (w : World) (e : Ending) (w' : World) : Prop := ∃ v ss, e = .returned v ∧ sbytes ss = l ∧ OwS w.heap.size w' v ss ∧ Below w.heap.size w w'
set_option maxRecDepth 1000000 in
set_option maxHeartbeats 1000000 in
theorem terms_any (B : Option Addr) (l d : Nat) (bs : List UInt8) (w : World) (hT : Tabs w) (hl : bs.length = l) (hb : Sl w B (bcells bs)) (hld : l ≤ d) (hd63 : d ≤ 9223372036854775807) (hl40 : l ≤ 1099511627776) :
    Calls Tryd.prog 12 #[.slice B l d] w (TextsP (termsU bs) w) := by
  have HL := Lib.hid hl
  have HT := Lib.hid (fun W (hb : Below w.heap.size w W) => hT.below hb hT.pos)
  have hdl := dec_len bs
  rw [hl] at hdl
  clear hl
  go_enter Tryd.func12, Tryd.ntmps12
  go_wp2_with fail
  refine (decode_any B l d bs _ hT HL.out hb hld hd63 hl40).mono ?_
  rintro e w1 ⟨v1, rfl, hown1, bb1⟩
  obtain ⟨A1, c1, rfl, hs1, hc1, hcm1, _⟩ := hown1.slice
  obtain ⟨D, hD⟩ : ∃ D, D = dec bs := ⟨_, rfl⟩
  have HD := Lib.hid hD
  rw [← hD] at hs1 hc1 hdl ⊢
  clear hD hown1 hT hb
  obtain ⟨n, hn⟩ : ∃ n, n = D.length := ⟨_, rfl⟩
  have HN := Lib.hid hn
  rw [← hn] at hc1 hdl ⊢
  clear hn
  have hz1 := bb1.size
  unfold maxLen at hcm1
  go_wp2_with fail
  go_loopw [3, 4] (fun out rest wr => ∃ (p d' : Nat) (B' : Option Addr) (ss : List ByteArray), p ≤ n ∧ rest = .slice B' ((n - p : Nat)) d' ∧ n - p ≤ d' ∧ d' ≤ 9223372036854775807 ∧ Sl w1 B' (icells (D.drop p)) ∧ OwS w1.heap.size wr out ss ∧ ss.length ≤ p ∧
      Hid (termsU bs = sbytes ss ++ termsC (D.drop p)) ∧ Below w1.heap.size w1 wr) (fun _ rest _ => slLen rest)
  case atStart => exact ⟨0, c1, A1, [], by omega, by simp, by omega, by omega, hs1, OwS.nil _ _, Nat.le_refl _, by show _ = _; rw [HD.out]; rfl, Below.refl _ _⟩
  case round =>
    clear hs1
    obtain ⟨p, d', B', ss, hp, rfl, hld', hd63', hb', hown, hsp, HK, hbel⟩ := hrel
    have hs := hbel.size
    have hall := bb1.trans (hbel.mono hz1)
    by_cases hlt : p < n
    · obtain ⟨cs, hcs⟩ : ∃ cs, cs = D.drop p := ⟨_, rfl⟩
      obtain ⟨q, hq⟩ : ∃ q, q = n - p := ⟨_, rfl⟩
      have HCS := Lib.hid hcs
      have HQ := Lib.hid hq
      have HCL : Hid (cs.length = q) := by show _ = _; rw [hcs, hq, List.length_drop, HN.out]
      have HDR : Hid (∀ k, cs.drop k = D.drop (p + k)) := fun k => by rw [hcs, List.drop_drop]
      have HNO := Lib.hid (fun h => termsC_no (cs := cs) h)
      have HYES := Lib.hid (fun h => termsC_yes (cs := cs) h)
      have hwl := wl_le cs
      rw [HCL.out] at hwl
      have hsp2 := (wl_split cs).1
      have hq0 : 0 < q := by omega
      have hqn : q ≤ n := by omega
      rw [← hcs] at hb'
      rw [← hq] at hld' ⊢
      clear hcs hq
      obtain ⟨k, hk⟩ : ∃ k, k = wl cs := ⟨_, rfl⟩
      have HKW := Lib.hid hk
      rw [← hk] at HNO HYES hwl hsp2
      clear hk
      have HSP := Lib.hid hsp2
      clear hsp2
      go_wp2_with fail
      refine (wordLen_any B' q d' cs _ (HT.out _ hall) HCL.out (hb'.below hbel) (by omega)).mono ?_
      rintro e w2 ⟨rfl, b2⟩
      rw [← HKW.out]
      have hbel2 := hbel.trans (b2.mono hs)
      have hown2 := hown.below b2
      have hall2 := bb1.trans (hbel2.mono hz1)
      clear hown b2
      by_cases hk0 : k = 0
      · obtain ⟨B2, hB2⟩ : ∃ B2, B2 = (if d' = 1 then B' else B'.map (·.add 1)) := ⟨_, rfl⟩
        have hpt : ∀ w', (Instr.slice 28 (.slice B' q d') (some (.int .i64 1)) none none).run Tryd.prog w' = .ok (.slice (if d' = 1 then B' else B'.map (·.add 1)) (q - 1) (d' - 1)) w' := fun w' => run_from (P := Tryd.prog) intsTy w' B' q d' 1 .i64 (by omega)
        have hsl2 : Sl w1 B2 (icells (D.drop (p + 1))) := by
          have := hb'.cut 1 d' (by rw [icells_len, HCL.out]; exact hld')
          rw [← hB2, icells_drop, HDR.out] at this
          exact this
        rw [← hB2] at hpt
        have HNX := Lib.hid (HNO.out hk0)
        clear hB2 HNO HYES
        go_wp2_with fail
        clear hpt
        go_roundw
        case rel =>
          refine ⟨p + 1, d' - 1, B2, ss, by omega, ?_, ?_, by omega, hsl2, hown2, by omega, ?_, hbel2⟩
          · rw [show n - (p + 1) = q - 1 by have := HQ.out; omega]
          · have := HQ.out; omega
          · show _ = _
            rw [HK.out, ← HCS.out, HNX.out, HDR.out]
        case measure => simp [slLen]; omega
      · obtain ⟨B2, hB2⟩ : ∃ B2, B2 = (if d' = k then B' else B'.map (·.add k)) := ⟨_, rfl⟩
        have hpt := fun w' => run_from (P := Tryd.prog) intsTy w' B' q d' k .i64 (by omega)
        have hpu := fun w' => run_to (P := Tryd.prog) intsTy w' B' q d' k .i64 (by omega)
        have hsl2 : Sl w1 B2 (icells (D.drop (p + k))) := by
          have := hb'.cut k d' (by rw [icells_len, HCL.out]; exact hld')
          rw [← hB2, icells_drop, HDR.out] at this
          exact this
        have hslt : Sl w1 B' (icells (cs.take k)) := by
          have := hb'.take k
          rwa [icells_take] at this
        rw [← hB2] at hpt
        have HTL : Hid ((cs.take k).length = k) := by show _ = _; rw [List.length_take, HCL.out]; omega
        have HNX := Lib.hid (HYES.out (by omega))
        clear hB2 HNO HYES
        go_wp2_with fail
        refine (termOf_any B' k d' (cs.take k) _ (HT.out _ hall2) HTL.out (hslt.below hbel2) HSP.out (by omega)).mono ?_
        rintro e w3 ⟨s, rfl, hst, b3⟩
        have HST := Lib.hid hst
        have hbel3 := hbel2.trans (b3.mono hbel2.size)
        have hown3 := hown2.below b3
        have hz3 := hbel3.size
        have HN1 := Lib.hid (fun (W : World) => new_str W s)
        clear hown2 b3 hst
        go_wp2_with (refine wpList_app rfl (.tmp 17) (.tmp 22) 26 rfl strsTy w1.heap.size u3 ss.length (scells ss) rfl (hown3.alloc _) _ 1 1 (scells [s]) rfl rfl (HN1.out _) (scells_one _) (by omega) (by simp; omega) ?_; intro v4 w4 hown4 hgr4 hbl4)
        have hbel4 := below_app (hbel3.alloc hz3 (.cells #[.string s] 9)) hgr4 (hown3.alloc _) (Nat.le_refl _) (by simp; omega)
        go_wp2_with fail
        clear hpt hpu
        go_roundw
        case rel =>
          refine ⟨p + k, d' - k, B2, ss ++ [s], ?_, ?_, ?_, by omega, hsl2, snoc_ownS rfl hown4, ?_, ?_, hbel4⟩
          · have := HQ.out; omega
          · rw [show n - (p + k) = q - k by have := HQ.out; omega]
          · have := HQ.out; omega
          · rw [List.length_append, List.length_singleton]; omega
          · show _ = _
            rw [HK.out, ← HCS.out, HNX.out, HDR.out, sbytes_app, List.append_assoc]
            simp only [sbytes, List.map_cons, List.map_nil, HST.out]
            rfl
        case measure => simp [slLen]; omega
    · have HF : Hid (sbytes ss = termsU bs) := by
        show _ = _
        rw [HK.out, List.drop_eq_nil_of_le (by rw [← HN.out]; omega), termsC_nil, List.append_nil]
      have hlp : n - p = 0 := by omega
      rw [hlp]
      clear hlp
      go_wp2_with fail
      go_ret
      exact ⟨_, ss, rfl, HF.out, hown.base hz1, hall⟩
end Go.Proofs.YtpnnebnjkinndaaDoor.TokW
