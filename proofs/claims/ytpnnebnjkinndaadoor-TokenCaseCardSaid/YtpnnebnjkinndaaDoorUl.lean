/- The reference's Decode. -/
import Derived.Test.YtpnnebnjkinndaaDoorUk
import Derived.Test.YtpnnebnjkinndaaDoorReg
namespace Go.Proofs.YtpnnebnjkinndaaDoor.UtfW
open Go.RowKit
theorem mk_inj {a b : List UInt8} : ((⟨a.toArray⟩ : ByteArray) = ⟨b.toArray⟩) ↔ a = b :=
  ⟨fun h => by simpa using congrArg (fun x : ByteArray => x.data.toList) h, fun h => by rw [h]⟩
theorem beq_str (X Y : ByteArray) : (X.toList == Y.toList) = decide (X = Y) := by
  rw [ByteArray.toList_eq, ByteArray.toList_eq]
  by_cases h : X = Y
  · simp [h]
  · have h2 : ¬ X.data = Y.data := fun h' => h (by cases X; cases Y; simpa using h')
    simp [h, h2]
theorem beq_yes {X Y : ByteArray} (h : X = Y) : (X.toList == Y.toList) = true := by rw [beq_str]; simpa using h
theorem beq_no {X Y : ByteArray} (h : X ≠ Y) : (X.toList == Y.toList) = false := by rw [beq_str]; simpa using h
/-- The reference's answer behind k - 1 tries. -/
def best (b : List UInt8) (k : Nat) : Nat × Nat := if lenB (b.getD 0 0) < k ∧ okU b (lenB (b.getD 0 0)) then one b else (65533, 1)
theorem okU_len {b : List UInt8} {k : Nat} (h : okU b k) (_hk : 1 ≤ k) : k = lenB (b.getD 0 0) := by
  obtain ⟨h1, h2, h3⟩ := h
  have h0 : 0 ≤ valU b k := by unfold rightC at h2; omega
  have e : ((valU b k).toNat : Int) = valU b k := Int.toNat_of_nonneg h0
  have hlt : (valU b k).toNat < 1114112 := rightC_lt (by rw [e]; exact h2)
  have hl := lenB_enc hlt (b.drop k)
  rw [h3, List.take_append_drop, List.length_take] at hl
  omega
theorem best1 (b : List UInt8) : best b 1 = (65533, 1) := by
  unfold best
  rw [if_neg]
  intro h
  have := lenB_pos (b.getD 0 0)
  omega
theorem best5 (b : List UInt8) : best b 5 = one b := by
  unfold best
  by_cases h : okU b (lenB (b.getD 0 0))
  · rw [if_pos ⟨by have := lenB_le (b.getD 0 0); omega, h⟩]
  · rw [if_neg (fun h' => h h'.2)]; unfold one; rw [if_neg h]
theorem best_yes {b : List UInt8} {k : Nat} (hk : 1 ≤ k) (h : okU b k) : best b (k + 1) = ((valU b k).toNat, k) := by
  have e := okU_len h hk
  unfold best
  rw [← e, if_pos ⟨by omega, h⟩]
  unfold one
  rw [← e, if_pos h]
theorem best_no {b : List UInt8} {k : Nat} (h : ¬ okU b k) : best b (k + 1) = best b k := by
  unfold best
  by_cases e : lenB (b.getD 0 0) = k
  · rw [e, if_neg (fun h' => h h'.2), if_neg (fun h' => h h'.2)]
  · by_cases h1 : lenB (b.getD 0 0) < k
    · have h2 : lenB (b.getD 0 0) < k + 1 := by omega
      simp only [h1, h2]
    · have h2 : ¬ lenB (b.getD 0 0) < k + 1 := by omega
      simp only [h1, h2]
set_option maxRecDepth 1000000 in
set_option maxHeartbeats 4000000 in
theorem refDecode (B : Option Addr) (l d : Nat) (bs : List UInt8) (w : World) (hl : bs.length = l) (hb : Sl w B (bcells bs)) (hld : l ≤ d) (_hd63 : d ≤ 9223372036854775807) (hl40 : l ≤ 1099511627776) :
    Calls Tryd.prog 26 #[.slice B l d] w (DecP bs w) := by
  have HL := Lib.hid hl
  clear hl
  go_enter Tryd.func26, Tryd.ntmps26
  go_wp2_with fail
  go_loopw [3, 4] (fun out i wr => ∃ (p : Nat) (D : List Nat), p ≤ l ∧ i = .int .i64 (p : Int) ∧ OwI w.heap.size wr out D ∧ D.length ≤ p ∧ Hid (dec bs = D ++ dec (bs.drop p)) ∧ Below w.heap.size w wr) (fun _ i _ => l - (intOf i).toNat)
  case atStart => exact ⟨0, [], by omega, rfl, OwI.nil _ _, Nat.le_refl _, rfl, Below.refl _ _⟩
  case round =>
    obtain ⟨p, D, hp, rfl, hown, hDp, HD, hbel⟩ := hrel
    obtain ⟨wo, hwo⟩ : ∃ wo : World, wo = wr := ⟨_, rfl⟩
    subst hwo
    have hs := hbel.size
    by_cases hlt : p < l
    · obtain ⟨h, t, hht⟩ : ∃ h t, bs.drop p = h :: t := by
        cases hdp : bs.drop p with
        | nil => have := congrArg List.length hdp; rw [List.length_drop, HL.out] at this; simp at this; omega
        | cons h t => exact ⟨h, t, rfl⟩
      have htl : (h :: t).length = l - p := by
        have := congrArg List.length hht; rw [List.length_drop, HL.out] at this; exact this.symm
      have hpos := one_pos (h :: t)
      have hle := one_le (h :: t) (by simp)
      rw [htl] at hle
      have HST := Lib.hid (dec_cons (h :: t) (by simp))
      have HDR : Hid (∀ k, (h :: t).drop k = bs.drop (p + k)) := fun k => by rw [← hht, List.drop_drop]
      obtain ⟨B1, hB1⟩ : ∃ B1, B1 = (if d = p then B else B.map (·.add p)) := ⟨_, rfl⟩
      have hpt := fun w' => run_from (P := Tryd.prog) bytesTy w' B l d p .i64 hp
      have hsl := hb.cut p d (by rw [bcells_len, HL.out]; exact hld)
      rw [← hB1, bcells_drop, hht] at hsl
      rw [← hB1] at hpt
      have HHT := Lib.hid hht
      have HTL := Lib.hid htl
      have HPT := Lib.hid hpt
      have HPARTS : Hid (∀ k w', k ≤ l - p → (Instr.slice 22 (.slice B l d) (some (.int .i64 (p : Int))) (some (.int .i64 ((p + k : Nat) : Int))) none).run Tryd.prog w' = .ok (.slice B1 k (d - p)) w') := by
        intro k w' hk
        have := run_part (P := Tryd.prog) bytesTy w' B l d p (p + k) .i64 .i64 (by omega) (by omega)
        rw [← hB1, show p + k - p = k by omega] at this
        exact this
      have HB1 : Hid (∀ W : World, Below w.heap.size w W → Sl W B1 (bcells (h :: t))) := fun W hW => hsl.below hW
      have HB1T : Hid (∀ (k : Nat) (W : World), Below w.heap.size w W → Sl W B1 (bcells ((h :: t).take k))) := fun k W hW => by rw [← bcells_take]; exact (hsl.below hW).take k
      clear hht htl hpt hsl hB1
      go_wp2_with fail
      go_loopw [5, 6, 7] (fun c n i wr => ∃ (k cv nv : Nat), 1 ≤ k ∧ k ≤ 5 ∧ i = .int .i64 (k : Int) ∧ c = .int .i64 (cv : Int) ∧ n = .int .i64 (nv : Int) ∧ Hid ((cv, nv) = best (h :: t) k) ∧ Below wo.heap.size wo wr) (fun _ _ i _ => 5 - (intOf i).toNat)
      case atStart => exact ⟨1, 65533, 1, by omega, by omega, rfl, rfl, rfl, (best1 _).symm, Below.refl _ _⟩
      case round =>
        obtain ⟨k, cv, nv, hk1, hk5, rfl, rfl, rfl, HBE, hbel1⟩ := hrel
        have b1 := hbel.trans (hbel1.mono hs)
        by_cases hlt5 : k < 5
        · by_cases hq : l - p < k
          · have HNO := Lib.hid (best_no (b := h :: t) (k := k) (fun hh => by have := hh.1; rw [HTL.out] at this; omega))
            have hpt := HPT.out
            go_wp2_with fail
            refine (begins_short B1 (l - p) (d - p) k _ hq (by omega)).mono ?_
            rintro e w2 ⟨rfl, hb2⟩
            have bo2 := hbel1.trans (hb2.mono hbel1.size)
            clear hpt hb2
            have hd := Lib.hid (show decide (rightC (-1)) = false by decide)
            go_wp2_with fail
            refine reg_begin (by kernel_rfl) ?_
            change wpAnyH _ _ _ _ _ 18 #[false, false, false, false, false, false, false, false, false, false, false, false, false, false, false, false, false, false] _ _
            refine reg_take (i := 0) (d := some 22) (v := (.int .i64 (-1))) rfl rfl (by kernel_rfl) (by kernel_rfl) (by kernel_rfl) (fun _ _ _ h => h) (by rfl) (by intro w' hSw; go_simp) ?_
            try simp only [Act.put, List.setIfInBounds_toArray, List.set_cons_zero, List.set_cons_succ]
            refine reg_call (i := 1) rfl (by kernel_rfl) (by rfl) fun K hK => ?_
            go_simp
            refine (refRight (-1) _).mono ?_
            rintro e w8 ⟨rfl, rfl⟩
            refine hK.out _ _ (Below.refl _ _) ?_
            rw [hd.out]
            clear hK K
            try simp only [List.setIfInBounds_toArray, List.set_cons_zero, List.set_cons_succ]
            refine reg_take (i := 2) (d := some 24) (v := (.bool false)) rfl rfl (by kernel_rfl) (by kernel_rfl) (by kernel_rfl) (fun _ _ _ h => h) (by rfl) (by intro w' hSw; go_simp) ?_
            try simp only [Act.put, List.setIfInBounds_toArray, List.set_cons_zero, List.set_cons_succ]
            refine reg_skip (i := 3) (d := some 25) rfl rfl (by kernel_rfl) (by kernel_rfl) (by kernel_rfl) (fun _ _ _ h => h) (by rfl) ?_
            try simp only [Act.put, List.setIfInBounds_toArray, List.set_cons_zero, List.set_cons_succ]
            refine reg_skip (i := 4) (d := some 26) rfl rfl (by kernel_rfl) (by kernel_rfl) (by kernel_rfl) (fun _ _ _ h => h) (by rfl) ?_
            try simp only [Act.put, List.setIfInBounds_toArray, List.set_cons_zero, List.set_cons_succ]
            refine reg_skip (i := 5) (d := some 27) rfl rfl (by kernel_rfl) (by kernel_rfl) (by kernel_rfl) (fun _ _ _ h => h) (by rfl) ?_
            try simp only [Act.put, List.setIfInBounds_toArray, List.set_cons_zero, List.set_cons_succ]
            refine reg_skip (i := 6) (d := some 28) rfl rfl (by kernel_rfl) (by kernel_rfl) (by kernel_rfl) (fun _ _ _ h => h) (by rfl) ?_
            try simp only [Act.put, List.setIfInBounds_toArray, List.set_cons_zero, List.set_cons_succ]
            refine reg_skip (i := 7) (d := some 29) rfl rfl (by kernel_rfl) (by kernel_rfl) (by kernel_rfl) (fun _ _ _ h => h) (by rfl) ?_
            try simp only [Act.put, List.setIfInBounds_toArray, List.set_cons_zero, List.set_cons_succ]
            refine reg_skip (i := 8) (d := some 30) rfl rfl (by kernel_rfl) (by kernel_rfl) (by kernel_rfl) (fun _ _ _ h => h) (by rfl) ?_
            try simp only [Act.put, List.setIfInBounds_toArray, List.set_cons_zero, List.set_cons_succ]
            refine reg_skip (i := 9) (d := some 31) rfl rfl (by kernel_rfl) (by kernel_rfl) (by kernel_rfl) (fun _ _ _ h => h) (by rfl) ?_
            try simp only [Act.put, List.setIfInBounds_toArray, List.set_cons_zero, List.set_cons_succ]
            refine reg_skip (i := 10) (d := some 32) rfl rfl (by kernel_rfl) (by kernel_rfl) (by kernel_rfl) (fun _ _ _ h => h) (by rfl) ?_
            try simp only [Act.put, List.setIfInBounds_toArray, List.set_cons_zero, List.set_cons_succ]
            refine reg_skip (i := 11) (d := some 33) rfl rfl (by kernel_rfl) (by kernel_rfl) (by kernel_rfl) (fun _ _ _ h => h) (by rfl) ?_
            try simp only [Act.put, List.setIfInBounds_toArray, List.set_cons_zero, List.set_cons_succ]
            refine reg_skip (i := 12) (d := some 34) rfl rfl (by kernel_rfl) (by kernel_rfl) (by kernel_rfl) (fun _ _ _ h => h) (by rfl) ?_
            try simp only [Act.put, List.setIfInBounds_toArray, List.set_cons_zero, List.set_cons_succ]
            refine reg_skip (i := 13) (d := some 35) rfl rfl (by kernel_rfl) (by kernel_rfl) (by kernel_rfl) (fun _ _ _ h => h) (by rfl) ?_
            try simp only [Act.put, List.setIfInBounds_toArray, List.set_cons_zero, List.set_cons_succ]
            refine reg_skip (i := 14) (d := some 36) rfl rfl (by kernel_rfl) (by kernel_rfl) (by kernel_rfl) (fun _ _ _ h => h) (by rfl) ?_
            try simp only [Act.put, List.setIfInBounds_toArray, List.set_cons_zero, List.set_cons_succ]
            refine reg_skip (i := 15) (d := some 37) rfl rfl (by kernel_rfl) (by kernel_rfl) (by kernel_rfl) (fun _ _ _ h => h) (by rfl) ?_
            try simp only [Act.put, List.setIfInBounds_toArray, List.set_cons_zero, List.set_cons_succ]
            refine reg_skip (i := 16) (d := some 38) rfl rfl (by kernel_rfl) (by kernel_rfl) (by kernel_rfl) (fun _ _ _ h => h) (by rfl) ?_
            try simp only [Act.put, List.setIfInBounds_toArray, List.set_cons_zero, List.set_cons_succ]
            refine reg_take (i := 17) (d := some 39) (v := (.bool false)) rfl rfl (by kernel_rfl) (by kernel_rfl) (by kernel_rfl) (fun _ _ _ h => h) (by rfl) (by intro w' hSw; go_simp) ?_
            try simp only [Act.put, List.setIfInBounds_toArray, List.set_cons_zero, List.set_cons_succ]
            refine wpAnyH_done (by kernel_rfl) ?_ _
            go_simp
            go_wp2_with fail
            go_roundw
            case rel => exact ⟨k + 1, cv, nv, by omega, by omega, by go_num, rfl, rfl, by show _ = _; rw [HBE.out, HNO.out], bo2.drew⟩
            case measure => simp [intOf]; omega
          · have hpt := HPT.out
            obtain ⟨x, hx⟩ : ∃ x, x = valU (h :: t) k := ⟨_, rfl⟩
            have HX := Lib.hid hx
            clear hx
            by_cases hr : rightC x
            · obtain ⟨c, rfl⟩ : ∃ c : Nat, x = (c : Int) := ⟨x.toNat, by unfold rightC at hr; omega⟩
              have hclt := rightC_lt hr
              have hd := Lib.hid (decide_eq_true hr)
              have HLE0 := Lib.hid (show (encU c).length = (encU c).length from rfl)
              obtain ⟨ne, hne⟩ : ∃ ne, (encU c).length = ne := ⟨_, rfl⟩
              have HLE := Lib.hid hne
              have HW : Hid (IntKind.i64.wrap ((p : Int) + (k : Int)) = (p : Int) + (k : Int)) := IntWalk.i64_in _ (by omega)
              obtain ⟨m, hm⟩ : ∃ m, m = p + k := ⟨_, rfl⟩
              have HLT : Hid ((if (p : Int) + (k : Int) < (l : Int) then (p : Int) + (k : Int) else (l : Int)) = (m : Int)) := by show _ = _; split <;> omega
              have HPART : Hid (∀ w', (Instr.slice 22 (.slice B l d) (some (.int .i64 (p : Int))) (some (.int .i64 (m : Int))) none).run Tryd.prog w' = .ok (.slice B1 k (d - p)) w') := by rw [hm]; exact fun w' => HPARTS.out k w' (by omega)
              have HB1K := Lib.hid (HB1T.out k)
              have HLK : Hid (((h :: t).take k).length = k) := by show _ = _; rw [List.length_take, HTL.out]; omega
              obtain ⟨S1, hS1⟩ : ∃ S : ByteArray, S = ⟨(encU c).toArray⟩ := ⟨_, rfl⟩
              obtain ⟨S2, hS2⟩ : ∃ S : ByteArray, S = ⟨((h :: t).take k).toArray⟩ := ⟨_, rfl⟩
              have HS1 := Lib.hid hS1
              have HS2 := Lib.hid hS2
              clear hne hm hS1 hS2
              by_cases heq : encU c = (h :: t).take k
              · have q1 : (S1.toList == S2.toList) = true := beq_yes (by rw [HS1.out, HS2.out, heq])
                have HYES := Lib.hid (best_yes hk1 (b := h :: t) (k := k) ⟨by rw [HTL.out]; omega, by rw [← HX.out]; exact hr, by rw [← HX.out]; exact heq⟩)
                clear heq hr
                go_wp2_with fail
                refine (begins_any B1 (l - p) (d - p) (h :: t) k _ HTL.out (HB1.out _ b1) (by omega) hk1 (by omega)).mono ?_
                rintro e w2 ⟨rfl, hb2⟩
                rw [← HX.out]
                have bo2 := hbel1.trans (hb2.mono hbel1.size)
                have b2 := b1.trans (hb2.mono b1.size)
                clear hpt
                go_wp2_with fail
                refine reg_begin (by kernel_rfl) ?_
                change wpAnyH _ _ _ _ _ 18 #[false, false, false, false, false, false, false, false, false, false, false, false, false, false, false, false, false, false] _ _
                refine reg_take (i := 0) (d := some 22) (v := (.int .i64 (c : Int))) rfl rfl (by kernel_rfl) (by kernel_rfl) (by kernel_rfl) (fun _ _ _ h => h) (by rfl) (by intro w' hSw; go_simp) ?_
                try simp only [Act.put, List.setIfInBounds_toArray, List.set_cons_zero, List.set_cons_succ]
                refine reg_call (i := 1) rfl (by kernel_rfl) (by rfl) fun K hK => ?_
                go_simp
                refine (refRight (c : Int) _).mono ?_
                rintro e w8 ⟨rfl, rfl⟩
                refine hK.out _ _ (Below.refl _ _) ?_
                rw [hd.out]
                clear hK K
                try simp only [List.setIfInBounds_toArray, List.set_cons_zero, List.set_cons_succ]
                refine reg_take (i := 2) (d := some 24) (v := (.bool true)) rfl rfl (by kernel_rfl) (by kernel_rfl) (by kernel_rfl) (fun _ _ _ h => h) (by rfl) (by intro w' hSw; go_simp) ?_
                try simp only [Act.put, List.setIfInBounds_toArray, List.set_cons_zero, List.set_cons_succ]
                refine reg_take (i := 3) (d := some 25) (v := (.int .i64 (c : Int))) rfl rfl (by kernel_rfl) (by kernel_rfl) (by kernel_rfl) (fun _ _ _ h => h) (by rfl) (by intro w' hSw; go_simp) ?_
                try simp only [Act.put, List.setIfInBounds_toArray, List.set_cons_zero, List.set_cons_succ]
                refine reg_take (i := 6) (d := some 28) (v := (.slice B l d)) rfl rfl (by kernel_rfl) (by kernel_rfl) (by kernel_rfl) (fun _ _ _ h => h) (by rfl) (by intro w' hSw; go_simp) ?_
                try simp only [Act.put, List.setIfInBounds_toArray, List.set_cons_zero, List.set_cons_succ]
                refine reg_take (i := 7) (d := some 29) (v := (.int .i64 (p : Int))) rfl rfl (by kernel_rfl) (by kernel_rfl) (by kernel_rfl) (fun _ _ _ h => h) (by rfl) (by intro w' hSw; go_simp) ?_
                try simp only [Act.put, List.setIfInBounds_toArray, List.set_cons_zero, List.set_cons_succ]
                refine reg_take (i := 8) (d := some 30) (v := (.int .i64 (p : Int))) rfl rfl (by kernel_rfl) (by kernel_rfl) (by kernel_rfl) (fun _ _ _ h => h) (by rfl) (by intro w' hSw; go_simp) ?_
                try simp only [Act.put, List.setIfInBounds_toArray, List.set_cons_zero, List.set_cons_succ]
                refine reg_take (i := 9) (d := some 31) (v := (.int .i64 (k : Int))) rfl rfl (by kernel_rfl) (by kernel_rfl) (by kernel_rfl) (fun _ _ _ h => h) (by rfl) (by intro w' hSw; go_simp) ?_
                try simp only [Act.put, List.setIfInBounds_toArray, List.set_cons_zero, List.set_cons_succ]
                refine reg_take (i := 10) (d := some 32) (v := (.int .i64 ((p : Int) + (k : Int)))) rfl rfl (by kernel_rfl) (by kernel_rfl) (by kernel_rfl) (fun _ _ _ h => h) (by rfl) (by intro w' hSw; have h9 := HW.out; go_simp) ?_
                try simp only [Act.put, List.setIfInBounds_toArray, List.set_cons_zero, List.set_cons_succ]
                refine reg_take (i := 11) (d := some 33) (v := (.slice B l d)) rfl rfl (by kernel_rfl) (by kernel_rfl) (by kernel_rfl) (fun _ _ _ h => h) (by rfl) (by intro w' hSw; go_simp) ?_
                try simp only [Act.put, List.setIfInBounds_toArray, List.set_cons_zero, List.set_cons_succ]
                refine reg_take (i := 12) (d := some 34) (v := (.int .i64 (l : Int))) rfl rfl (by kernel_rfl) (by kernel_rfl) (by kernel_rfl) (fun _ _ _ h => h) (by rfl) (by intro w' hSw; go_simp) ?_
                try simp only [Act.put, List.setIfInBounds_toArray, List.set_cons_zero, List.set_cons_succ]
                refine reg_call (i := 4) rfl (by kernel_rfl) (by rfl) fun K hK => ?_
                go_simp
                refine (refEncode c _ (by omega)).mono ?_
                rintro e w3 ⟨A3, rfl, hs3, hb3⟩
                refine hK.out _ _ hb3 ?_
                rw [HLE.out]
                have b3 := b2.drew.trans (hb3.mono b2.drew.size)
                clear hK K
                try simp only [List.setIfInBounds_toArray, List.set_cons_zero, List.set_cons_succ]
                refine reg_take (i := 5) (d := some 27) (v := (.string S1)) rfl rfl (by kernel_rfl) (by kernel_rfl) (by kernel_rfl) (fun _ _ _ h => h) (by rfl) (by intro w' hSw; have h9 := run_str (P := Tryd.prog) w' 22 9 5 underBytes underU8 underStr A3 (encU c) ne ne HLE.out (hs3.below hSw); rw [← HS1.out] at h9; go_simp) ?_
                try simp only [Act.put, List.setIfInBounds_toArray, List.set_cons_zero, List.set_cons_succ]
                refine reg_call (i := 13) rfl (by kernel_rfl) (by rfl) fun K hK => ?_
                go_simp
                refine (least_any ((p : Int) + (k : Int)) (l : Int) _).mono ?_
                rintro e w8 ⟨rfl, rfl⟩
                refine hK.out _ _ (Below.refl _ _) ?_
                rw [HLT.out]
                clear hK K
                try simp only [List.setIfInBounds_toArray, List.set_cons_zero, List.set_cons_succ]
                refine reg_take (i := 14) (d := some 36) (v := (.slice B1 k (d - p))) rfl rfl (by kernel_rfl) (by kernel_rfl) (by kernel_rfl) (fun _ _ _ h => h) (by rfl) (by intro w' hSw; have h9 := HPART.out w'; go_simp) ?_
                try simp only [Act.put, List.setIfInBounds_toArray, List.set_cons_zero, List.set_cons_succ]
                refine reg_take (i := 15) (d := some 37) (v := (.string S2)) rfl rfl (by kernel_rfl) (by kernel_rfl) (by kernel_rfl) (fun _ _ _ h => h) (by rfl) (by intro w' hSw; have h9 := run_str (P := Tryd.prog) w' 22 9 5 underBytes underU8 underStr B1 ((h :: t).take k) k (d - p) HLK.out (HB1K.out _ (b3.trans (hSw.mono b3.size))); rw [← HS2.out] at h9; go_simp) ?_
                try simp only [Act.put, List.setIfInBounds_toArray, List.set_cons_zero, List.set_cons_succ]
                refine reg_take (i := 16) (d := some 38) (v := (.bool true)) rfl rfl (by kernel_rfl) (by kernel_rfl) (by kernel_rfl) (fun _ _ _ h => h) (by rfl) (by intro w' hSw; go_simp) ?_
                try simp only [Act.put, List.setIfInBounds_toArray, List.set_cons_zero, List.set_cons_succ]
                refine reg_take (i := 17) (d := some 39) (v := (.bool true)) rfl rfl (by kernel_rfl) (by kernel_rfl) (by kernel_rfl) (fun _ _ _ h => h) (by rfl) (by intro w' hSw; go_simp) ?_
                try simp only [Act.put, List.setIfInBounds_toArray, List.set_cons_zero, List.set_cons_succ]
                refine wpAnyH_done (by kernel_rfl) ?_ _
                go_simp
                go_wp2_with fail
                have bo3 := bo2.drew.trans (hb3.mono bo2.drew.size)
                clear q1
                go_roundw
                case rel => exact ⟨k + 1, c, k, by omega, by omega, by go_num, rfl, rfl, by show _ = _; rw [HYES.out, ← HX.out]; rfl, bo3⟩
                case measure => simp [intOf]; omega
              · have q1 : (S1.toList == S2.toList) = false := beq_no (by rw [HS1.out, HS2.out]; exact fun h' => heq (mk_inj.1 h'))
                have HNO := Lib.hid (best_no (b := h :: t) (k := k) (fun hh => by have := hh.2.2; rw [← HX.out] at this; exact heq this))
                clear heq hr
                go_wp2_with fail
                refine (begins_any B1 (l - p) (d - p) (h :: t) k _ HTL.out (HB1.out _ b1) (by omega) hk1 (by omega)).mono ?_
                rintro e w2 ⟨rfl, hb2⟩
                rw [← HX.out]
                have bo2 := hbel1.trans (hb2.mono hbel1.size)
                have b2 := b1.trans (hb2.mono b1.size)
                clear hpt
                go_wp2_with fail
                refine reg_begin (by kernel_rfl) ?_
                change wpAnyH _ _ _ _ _ 18 #[false, false, false, false, false, false, false, false, false, false, false, false, false, false, false, false, false, false] _ _
                refine reg_take (i := 0) (d := some 22) (v := (.int .i64 (c : Int))) rfl rfl (by kernel_rfl) (by kernel_rfl) (by kernel_rfl) (fun _ _ _ h => h) (by rfl) (by intro w' hSw; go_simp) ?_
                try simp only [Act.put, List.setIfInBounds_toArray, List.set_cons_zero, List.set_cons_succ]
                refine reg_call (i := 1) rfl (by kernel_rfl) (by rfl) fun K hK => ?_
                go_simp
                refine (refRight (c : Int) _).mono ?_
                rintro e w8 ⟨rfl, rfl⟩
                refine hK.out _ _ (Below.refl _ _) ?_
                rw [hd.out]
                clear hK K
                try simp only [List.setIfInBounds_toArray, List.set_cons_zero, List.set_cons_succ]
                refine reg_take (i := 2) (d := some 24) (v := (.bool true)) rfl rfl (by kernel_rfl) (by kernel_rfl) (by kernel_rfl) (fun _ _ _ h => h) (by rfl) (by intro w' hSw; go_simp) ?_
                try simp only [Act.put, List.setIfInBounds_toArray, List.set_cons_zero, List.set_cons_succ]
                refine reg_take (i := 3) (d := some 25) (v := (.int .i64 (c : Int))) rfl rfl (by kernel_rfl) (by kernel_rfl) (by kernel_rfl) (fun _ _ _ h => h) (by rfl) (by intro w' hSw; go_simp) ?_
                try simp only [Act.put, List.setIfInBounds_toArray, List.set_cons_zero, List.set_cons_succ]
                refine reg_take (i := 6) (d := some 28) (v := (.slice B l d)) rfl rfl (by kernel_rfl) (by kernel_rfl) (by kernel_rfl) (fun _ _ _ h => h) (by rfl) (by intro w' hSw; go_simp) ?_
                try simp only [Act.put, List.setIfInBounds_toArray, List.set_cons_zero, List.set_cons_succ]
                refine reg_take (i := 7) (d := some 29) (v := (.int .i64 (p : Int))) rfl rfl (by kernel_rfl) (by kernel_rfl) (by kernel_rfl) (fun _ _ _ h => h) (by rfl) (by intro w' hSw; go_simp) ?_
                try simp only [Act.put, List.setIfInBounds_toArray, List.set_cons_zero, List.set_cons_succ]
                refine reg_take (i := 8) (d := some 30) (v := (.int .i64 (p : Int))) rfl rfl (by kernel_rfl) (by kernel_rfl) (by kernel_rfl) (fun _ _ _ h => h) (by rfl) (by intro w' hSw; go_simp) ?_
                try simp only [Act.put, List.setIfInBounds_toArray, List.set_cons_zero, List.set_cons_succ]
                refine reg_take (i := 9) (d := some 31) (v := (.int .i64 (k : Int))) rfl rfl (by kernel_rfl) (by kernel_rfl) (by kernel_rfl) (fun _ _ _ h => h) (by rfl) (by intro w' hSw; go_simp) ?_
                try simp only [Act.put, List.setIfInBounds_toArray, List.set_cons_zero, List.set_cons_succ]
                refine reg_take (i := 10) (d := some 32) (v := (.int .i64 ((p : Int) + (k : Int)))) rfl rfl (by kernel_rfl) (by kernel_rfl) (by kernel_rfl) (fun _ _ _ h => h) (by rfl) (by intro w' hSw; have h9 := HW.out; go_simp) ?_
                try simp only [Act.put, List.setIfInBounds_toArray, List.set_cons_zero, List.set_cons_succ]
                refine reg_take (i := 11) (d := some 33) (v := (.slice B l d)) rfl rfl (by kernel_rfl) (by kernel_rfl) (by kernel_rfl) (fun _ _ _ h => h) (by rfl) (by intro w' hSw; go_simp) ?_
                try simp only [Act.put, List.setIfInBounds_toArray, List.set_cons_zero, List.set_cons_succ]
                refine reg_take (i := 12) (d := some 34) (v := (.int .i64 (l : Int))) rfl rfl (by kernel_rfl) (by kernel_rfl) (by kernel_rfl) (fun _ _ _ h => h) (by rfl) (by intro w' hSw; go_simp) ?_
                try simp only [Act.put, List.setIfInBounds_toArray, List.set_cons_zero, List.set_cons_succ]
                refine reg_call (i := 4) rfl (by kernel_rfl) (by rfl) fun K hK => ?_
                go_simp
                refine (refEncode c _ (by omega)).mono ?_
                rintro e w3 ⟨A3, rfl, hs3, hb3⟩
                refine hK.out _ _ hb3 ?_
                rw [HLE.out]
                have b3 := b2.drew.trans (hb3.mono b2.drew.size)
                clear hK K
                try simp only [List.setIfInBounds_toArray, List.set_cons_zero, List.set_cons_succ]
                refine reg_take (i := 5) (d := some 27) (v := (.string S1)) rfl rfl (by kernel_rfl) (by kernel_rfl) (by kernel_rfl) (fun _ _ _ h => h) (by rfl) (by intro w' hSw; have h9 := run_str (P := Tryd.prog) w' 22 9 5 underBytes underU8 underStr A3 (encU c) ne ne HLE.out (hs3.below hSw); rw [← HS1.out] at h9; go_simp) ?_
                try simp only [Act.put, List.setIfInBounds_toArray, List.set_cons_zero, List.set_cons_succ]
                refine reg_call (i := 13) rfl (by kernel_rfl) (by rfl) fun K hK => ?_
                go_simp
                refine (least_any ((p : Int) + (k : Int)) (l : Int) _).mono ?_
                rintro e w8 ⟨rfl, rfl⟩
                refine hK.out _ _ (Below.refl _ _) ?_
                rw [HLT.out]
                clear hK K
                try simp only [List.setIfInBounds_toArray, List.set_cons_zero, List.set_cons_succ]
                refine reg_take (i := 14) (d := some 36) (v := (.slice B1 k (d - p))) rfl rfl (by kernel_rfl) (by kernel_rfl) (by kernel_rfl) (fun _ _ _ h => h) (by rfl) (by intro w' hSw; have h9 := HPART.out w'; go_simp) ?_
                try simp only [Act.put, List.setIfInBounds_toArray, List.set_cons_zero, List.set_cons_succ]
                refine reg_take (i := 15) (d := some 37) (v := (.string S2)) rfl rfl (by kernel_rfl) (by kernel_rfl) (by kernel_rfl) (fun _ _ _ h => h) (by rfl) (by intro w' hSw; have h9 := run_str (P := Tryd.prog) w' 22 9 5 underBytes underU8 underStr B1 ((h :: t).take k) k (d - p) HLK.out (HB1K.out _ (b3.trans (hSw.mono b3.size))); rw [← HS2.out] at h9; go_simp) ?_
                try simp only [Act.put, List.setIfInBounds_toArray, List.set_cons_zero, List.set_cons_succ]
                refine reg_take (i := 16) (d := some 38) (v := (.bool false)) rfl rfl (by kernel_rfl) (by kernel_rfl) (by kernel_rfl) (fun _ _ _ h => h) (by rfl) (by intro w' hSw; go_simp) ?_
                try simp only [Act.put, List.setIfInBounds_toArray, List.set_cons_zero, List.set_cons_succ]
                refine reg_take (i := 17) (d := some 39) (v := (.bool false)) rfl rfl (by kernel_rfl) (by kernel_rfl) (by kernel_rfl) (fun _ _ _ h => h) (by rfl) (by intro w' hSw; go_simp) ?_
                try simp only [Act.put, List.setIfInBounds_toArray, List.set_cons_zero, List.set_cons_succ]
                refine wpAnyH_done (by kernel_rfl) ?_ _
                go_simp
                go_wp2_with fail
                have bo3 := bo2.drew.trans (hb3.mono bo2.drew.size)
                clear q1
                go_roundw
                case rel => exact ⟨k + 1, cv, nv, by omega, by omega, by go_num, rfl, rfl, by show _ = _; rw [HBE.out, HNO.out], bo3⟩
                case measure => simp [intOf]; omega
            · have HNO := Lib.hid (best_no (b := h :: t) (k := k) (fun hh => by have := hh.2.1; rw [← HX.out] at this; exact hr this))
              have hd := Lib.hid (decide_eq_false hr)
              clear hr
              go_wp2_with fail
              refine (begins_any B1 (l - p) (d - p) (h :: t) k _ HTL.out (HB1.out _ b1) (by omega) hk1 (by omega)).mono ?_
              rintro e w2 ⟨rfl, hb2⟩
              rw [← HX.out]
              have bo2 := hbel1.trans (hb2.mono hbel1.size)
              clear hpt hb2
              go_wp2_with fail
              refine reg_begin (by kernel_rfl) ?_
              change wpAnyH _ _ _ _ _ 18 #[false, false, false, false, false, false, false, false, false, false, false, false, false, false, false, false, false, false] _ _
              refine reg_take (i := 0) (d := some 22) (v := (.int .i64 x)) rfl rfl (by kernel_rfl) (by kernel_rfl) (by kernel_rfl) (fun _ _ _ h => h) (by rfl) (by intro w' hSw; go_simp) ?_
              try simp only [Act.put, List.setIfInBounds_toArray, List.set_cons_zero, List.set_cons_succ]
              refine reg_call (i := 1) rfl (by kernel_rfl) (by rfl) fun K hK => ?_
              go_simp
              refine (refRight x _).mono ?_
              rintro e w8 ⟨rfl, rfl⟩
              refine hK.out _ _ (Below.refl _ _) ?_
              rw [hd.out]
              clear hK K
              try simp only [List.setIfInBounds_toArray, List.set_cons_zero, List.set_cons_succ]
              refine reg_take (i := 2) (d := some 24) (v := (.bool false)) rfl rfl (by kernel_rfl) (by kernel_rfl) (by kernel_rfl) (fun _ _ _ h => h) (by rfl) (by intro w' hSw; go_simp) ?_
              try simp only [Act.put, List.setIfInBounds_toArray, List.set_cons_zero, List.set_cons_succ]
              refine reg_skip (i := 3) (d := some 25) rfl rfl (by kernel_rfl) (by kernel_rfl) (by kernel_rfl) (fun _ _ _ h => h) (by rfl) ?_
              try simp only [Act.put, List.setIfInBounds_toArray, List.set_cons_zero, List.set_cons_succ]
              refine reg_skip (i := 4) (d := some 26) rfl rfl (by kernel_rfl) (by kernel_rfl) (by kernel_rfl) (fun _ _ _ h => h) (by rfl) ?_
              try simp only [Act.put, List.setIfInBounds_toArray, List.set_cons_zero, List.set_cons_succ]
              refine reg_skip (i := 5) (d := some 27) rfl rfl (by kernel_rfl) (by kernel_rfl) (by kernel_rfl) (fun _ _ _ h => h) (by rfl) ?_
              try simp only [Act.put, List.setIfInBounds_toArray, List.set_cons_zero, List.set_cons_succ]
              refine reg_skip (i := 6) (d := some 28) rfl rfl (by kernel_rfl) (by kernel_rfl) (by kernel_rfl) (fun _ _ _ h => h) (by rfl) ?_
              try simp only [Act.put, List.setIfInBounds_toArray, List.set_cons_zero, List.set_cons_succ]
              refine reg_skip (i := 7) (d := some 29) rfl rfl (by kernel_rfl) (by kernel_rfl) (by kernel_rfl) (fun _ _ _ h => h) (by rfl) ?_
              try simp only [Act.put, List.setIfInBounds_toArray, List.set_cons_zero, List.set_cons_succ]
              refine reg_skip (i := 8) (d := some 30) rfl rfl (by kernel_rfl) (by kernel_rfl) (by kernel_rfl) (fun _ _ _ h => h) (by rfl) ?_
              try simp only [Act.put, List.setIfInBounds_toArray, List.set_cons_zero, List.set_cons_succ]
              refine reg_skip (i := 9) (d := some 31) rfl rfl (by kernel_rfl) (by kernel_rfl) (by kernel_rfl) (fun _ _ _ h => h) (by rfl) ?_
              try simp only [Act.put, List.setIfInBounds_toArray, List.set_cons_zero, List.set_cons_succ]
              refine reg_skip (i := 10) (d := some 32) rfl rfl (by kernel_rfl) (by kernel_rfl) (by kernel_rfl) (fun _ _ _ h => h) (by rfl) ?_
              try simp only [Act.put, List.setIfInBounds_toArray, List.set_cons_zero, List.set_cons_succ]
              refine reg_skip (i := 11) (d := some 33) rfl rfl (by kernel_rfl) (by kernel_rfl) (by kernel_rfl) (fun _ _ _ h => h) (by rfl) ?_
              try simp only [Act.put, List.setIfInBounds_toArray, List.set_cons_zero, List.set_cons_succ]
              refine reg_skip (i := 12) (d := some 34) rfl rfl (by kernel_rfl) (by kernel_rfl) (by kernel_rfl) (fun _ _ _ h => h) (by rfl) ?_
              try simp only [Act.put, List.setIfInBounds_toArray, List.set_cons_zero, List.set_cons_succ]
              refine reg_skip (i := 13) (d := some 35) rfl rfl (by kernel_rfl) (by kernel_rfl) (by kernel_rfl) (fun _ _ _ h => h) (by rfl) ?_
              try simp only [Act.put, List.setIfInBounds_toArray, List.set_cons_zero, List.set_cons_succ]
              refine reg_skip (i := 14) (d := some 36) rfl rfl (by kernel_rfl) (by kernel_rfl) (by kernel_rfl) (fun _ _ _ h => h) (by rfl) ?_
              try simp only [Act.put, List.setIfInBounds_toArray, List.set_cons_zero, List.set_cons_succ]
              refine reg_skip (i := 15) (d := some 37) rfl rfl (by kernel_rfl) (by kernel_rfl) (by kernel_rfl) (fun _ _ _ h => h) (by rfl) ?_
              try simp only [Act.put, List.setIfInBounds_toArray, List.set_cons_zero, List.set_cons_succ]
              refine reg_skip (i := 16) (d := some 38) rfl rfl (by kernel_rfl) (by kernel_rfl) (by kernel_rfl) (fun _ _ _ h => h) (by rfl) ?_
              try simp only [Act.put, List.setIfInBounds_toArray, List.set_cons_zero, List.set_cons_succ]
              refine reg_take (i := 17) (d := some 39) (v := (.bool false)) rfl rfl (by kernel_rfl) (by kernel_rfl) (by kernel_rfl) (fun _ _ _ h => h) (by rfl) (by intro w' hSw; go_simp) ?_
              try simp only [Act.put, List.setIfInBounds_toArray, List.set_cons_zero, List.set_cons_succ]
              refine wpAnyH_done (by kernel_rfl) ?_ _
              go_simp
              go_wp2_with fail
              go_roundw
              case rel => exact ⟨k + 1, cv, nv, by omega, by omega, by go_num, rfl, rfl, by show _ = _; rw [HBE.out, HNO.out], bo2.drew⟩
              case measure => simp [intOf]; omega
        · have HB5 : Hid ((cv, nv) = one (h :: t)) := by show _ = _; rw [HBE.out, show k = 5 by omega, best5]
          rw [← HB5.out] at hpos hle
          simp only at hpos hle
          have hown1 := own_below hown hbel1
          have hs1 := b1.size
          have HN := Lib.hid (fun (W : World) => new_int W cv)
          clear hown
          go_wp2_with (refine wpList_app rfl (.tmp 42) (.tmp 44) 28 rfl intsTy w.heap.size u3 D.length (icells D) rfl (hown1.alloc _) _ 1 1 (icells [cv]) rfl rfl (HN.out _) (icells_one _) (by omega) (by simp; omega) ?_; intro v3 w3 hown3 hgr3 hbl3)
          have hbel3 := below_app (b1.alloc hs1 (.cells #[.int .i64 (cv : Int)] 3)) hgr3 (hown1.alloc _) (Nat.le_refl _) (by simp; omega)
          go_roundw
          case rel =>
            refine ⟨p + nv, D ++ [cv], by omega, by go_num, snoc_ownI rfl hown3, ?_, ?_, hbel3⟩
            · rw [List.length_append, List.length_singleton]; omega
            · show _ = _
              rw [HD.out, HHT.out, HST.out, ← HB5.out, HDR.out, List.append_assoc]; rfl
          case measure => simp [intOf]; omega
    · have HF : Hid (dec bs = D) := by
        show _ = _
        rw [HD.out, List.drop_eq_nil_of_le (by rw [HL.out]; omega), dec_nil, List.append_nil]
      go_wp2_with fail
      go_ret
      exact ⟨_, rfl, by rw [HF.out]; exact hown, hbel⟩
end Go.Proofs.YtpnnebnjkinndaaDoor.UtfW
