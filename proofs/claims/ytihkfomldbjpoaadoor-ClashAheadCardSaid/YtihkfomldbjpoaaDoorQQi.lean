/- The statements' own like. -/
import Derived.Test.YtihkfomldbjpoaaDoorJ7
namespace Go.Proofs.YtihkfomldbjpoaaDoor.ClW
open Go.RowKit TreeW TrW ClashW
open ShaW Sha
set_option maxRecDepth 1000000 in
set_option maxHeartbeats 2000000 in
theorem like_any (A : Option Addr) (l c : Nat) (vs : List Value) (aa : List (List UInt8)) (A2 : Option Addr) (c2 : Nat) (us : List Value) (bs : List (List UInt8)) (w : World) (hl : aa.length = l) (hA : Sl w A vs) (hR : RowsAt w vs aa)
    (hl2 : bs.length = l) (hB : Sl w A2 us) (hS : RowsAt w us bs) (hl63 : l ≤ 9223372036854775807) :
    Calls Tryd.prog 30 #[.slice A l c, .slice A2 l c2] w fun e w' => e = .returned (.bool (decide (aa = bs))) ∧ Below w.heap.size w w' := by
  have HL := Lib.hid hl
  have HL2 := Lib.hid hl2
  have HRL := Lib.hid hR.1
  have HR2 := Lib.hid hR.2
  have HSL := Lib.hid hS.1
  have HS2 := Lib.hid hS.2
  clear hl hl2 hR hS
  go_enter Tryd.func30, Tryd.ntmps30
  go_wp2_with fail
  go_loopw [5] (fun i wr => ∃ j : Nat, j ≤ l ∧ i = .int .i64 (j : Int) ∧ Below w.heap.size w wr ∧ Hid (aa.take j = bs.take j)) (fun i _ => l - (intOf i).toNat)
  case atStart => exact ⟨0, by omega, rfl, Below.refl _ _, rfl⟩
  case round =>
    obtain ⟨j, hj, rfl, hbel, HK⟩ := hrel
    by_cases hlt : j < l
    · have hjb : j < aa.length := by rw [HL.out]; exact hlt
      have hjc : j < bs.length := by rw [HL2.out]; exact hlt
      obtain ⟨b, o, rfl, hblt, hcell⟩ := hA.get (j := j) (by rw [HRL.out]; exact hjb)
      obtain ⟨b2, o2, rfl, hblt2, hcell2⟩ := hB.get (j := j) (by rw [HSL.out]; exact hjc)
      obtain ⟨B, d, hv, hBB, hBd, hd⟩ := HR2.out j hjb
      obtain ⟨B2, d2, hv2, hBB2, hBd2, hd2⟩ := HS2.out j hjc
      have hc0 := (hbel.cell (p := ⟨b, o + j, none⟩) hblt).trans (hcell j _ hv)
      have hc1 := (hbel.cell (p := ⟨b2, o2 + j, none⟩) hblt2).trans (hcell2 j _ hv2)
      have hb1 := hBB.below hbel
      have hb2 := hBB2.below hbel
      have HG : Hid (aa[j]? = some (aa.getD j [])) := by
        show _ = _
        simp [List.getD, hjb]
      have HG2 : Hid (bs[j]? = some (bs.getD j [])) := by
        show _ = _
        simp [List.getD, hjc]
      generalize aa.getD j [] = x at *
      generalize bs.getD j [] = y at *
      obtain ⟨q, hq⟩ : ∃ q, x.length = q := ⟨_, rfl⟩
      obtain ⟨q2, hq2⟩ : ∃ q, y.length = q := ⟨_, rfl⟩
      rw [hq] at hc0 hBd
      rw [hq2] at hc1 hBd2
      have hg1 : b < wr.heap.size := Nat.lt_of_lt_of_le hblt hbel.size
      have hg2 : b2 < wr.heap.size := Nat.lt_of_lt_of_le hblt2 hbel.size
      have HCA : Hid (∀ w', Below wr.drew.heap.size wr.drew w' → w'.cell? ⟨b, o + j, none⟩ = some (.slice B q d)) := fun w' hb => (hb.cell (p := ⟨b, o + j, none⟩) hg1).trans hc0
      have HCB : Hid (∀ w', Below wr.drew.heap.size wr.drew w' → w'.cell? ⟨b2, o2 + j, none⟩ = some (.slice B2 q2 d2)) := fun w' hb => (hb.cell (p := ⟨b2, o2 + j, none⟩) hg2).trans hc1
      obtain ⟨X, hX⟩ : ∃ X : ByteArray, (⟨x.toArray⟩ : ByteArray) = X := ⟨_, rfl⟩
      obtain ⟨Y, hY⟩ : ∃ X : ByteArray, (⟨y.toArray⟩ : ByteArray) = X := ⟨_, rfl⟩
      have HSA : Hid (∀ w', Below wr.drew.heap.size wr.drew w' → (convert 23 9 (.slice B q d)).run Tryd.prog w' = .ok (.string X) w') := fun w' hb => by
        rw [← hX]; exact run_str w' _ _ 5 rfl rfl rfl B x q d hq (hb1.drew.below hb)
      have HSB : Hid (∀ w', Below wr.drew.heap.size wr.drew w' → (convert 23 9 (.slice B2 q2 d2)).run Tryd.prog w' = .ok (.string Y) w') := fun w' hb => by
        rw [← hY]; exact run_str w' _ _ 5 rfl rfl rfl B2 y q2 d2 hq2 (hb2.drew.below hb)
      have hbd := hbel.drew
      clear hcell hcell2 hv hv2 hc0 hc1 hb1 hb2 hBB hBB2 hq hq2 hjb hjc
      by_cases hxy : x = y
      · have HXY : Hid ((X.toList == Y.toList) = true) := by
          show _ = _
          rw [← hX, ← hY, hxy]; simp
        have HN : Hid (aa.take (j + 1) = bs.take (j + 1)) := by
          show _ = _
          rw [List.take_add_one, List.take_add_one, HG.out, HG2.out, HK.out, hxy]
        clear hxy hX hY
        go_wp2_with fail
        refine reg_begin (by kernel_rfl) ?_
        change wpAnyH _ _ _ _ _ 11 #[false, false, false, false, false, false, false, false, false, false, false] _ _
        refine reg_take (i := 0) (d := some 17) (v := (.slice (some ⟨b, o, none⟩) l c)) rfl rfl (by kernel_rfl) (by kernel_rfl) (by kernel_rfl) (fun _ _ _ h => h) (by rfl) (by intro w' hSw; go_simp) ?_
        try simp only [Act.put, List.setIfInBounds_toArray, List.set_cons_zero, List.set_cons_succ]
        refine reg_take (i := 1) (d := some 18) (v := (.int .i64 (j : Int))) rfl rfl (by kernel_rfl) (by kernel_rfl) (by kernel_rfl) (fun _ _ _ h => h) (by rfl) (by intro w' hSw; go_simp) ?_
        try simp only [Act.put, List.setIfInBounds_toArray, List.set_cons_zero, List.set_cons_succ]
        refine reg_take (i := 2) (d := some 19) (v := (.pointer (some ⟨b, o + j, none⟩))) rfl rfl (by kernel_rfl) (by kernel_rfl) (by kernel_rfl) (fun _ _ _ h => h) (by rfl) (by intro w' hSw; go_simp) ?_
        try simp only [Act.put, List.setIfInBounds_toArray, List.set_cons_zero, List.set_cons_succ]
        refine reg_take (i := 3) (d := some 20) (v := (.slice B q d)) rfl rfl (by kernel_rfl) (by kernel_rfl) (by kernel_rfl) (fun _ _ _ h => h) (by rfl) (by intro w' hSw; have h9 := HCA.out _ hSw; go_simp) ?_
        try simp only [Act.put, List.setIfInBounds_toArray, List.set_cons_zero, List.set_cons_succ]
        refine reg_take (i := 4) (d := some 21) (v := (.string X)) rfl rfl (by kernel_rfl) (by kernel_rfl) (by kernel_rfl) (fun _ _ _ h => h) (by rfl) (by intro w' hSw; have h9 := HSA.out _ hSw; go_simp) ?_
        try simp only [Act.put, List.setIfInBounds_toArray, List.set_cons_zero, List.set_cons_succ]
        refine reg_take (i := 5) (d := some 22) (v := (.slice (some ⟨b2, o2, none⟩) l c2)) rfl rfl (by kernel_rfl) (by kernel_rfl) (by kernel_rfl) (fun _ _ _ h => h) (by rfl) (by intro w' hSw; go_simp) ?_
        try simp only [Act.put, List.setIfInBounds_toArray, List.set_cons_zero, List.set_cons_succ]
        refine reg_take (i := 6) (d := some 23) (v := (.int .i64 (j : Int))) rfl rfl (by kernel_rfl) (by kernel_rfl) (by kernel_rfl) (fun _ _ _ h => h) (by rfl) (by intro w' hSw; go_simp) ?_
        try simp only [Act.put, List.setIfInBounds_toArray, List.set_cons_zero, List.set_cons_succ]
        refine reg_take (i := 7) (d := some 24) (v := (.pointer (some ⟨b2, o2 + j, none⟩))) rfl rfl (by kernel_rfl) (by kernel_rfl) (by kernel_rfl) (fun _ _ _ h => h) (by rfl) (by intro w' hSw; go_simp) ?_
        try simp only [Act.put, List.setIfInBounds_toArray, List.set_cons_zero, List.set_cons_succ]
        refine reg_take (i := 8) (d := some 25) (v := (.slice B2 q2 d2)) rfl rfl (by kernel_rfl) (by kernel_rfl) (by kernel_rfl) (fun _ _ _ h => h) (by rfl) (by intro w' hSw; have h9 := HCB.out _ hSw; go_simp) ?_
        try simp only [Act.put, List.setIfInBounds_toArray, List.set_cons_zero, List.set_cons_succ]
        refine reg_take (i := 9) (d := some 26) (v := (.string Y)) rfl rfl (by kernel_rfl) (by kernel_rfl) (by kernel_rfl) (fun _ _ _ h => h) (by rfl) (by intro w' hSw; have h9 := HSB.out _ hSw; go_simp) ?_
        try simp only [Act.put, List.setIfInBounds_toArray, List.set_cons_zero, List.set_cons_succ]
        refine reg_take (i := 10) (d := some 27) (v := (.bool false)) rfl rfl (by kernel_rfl) (by kernel_rfl) (by kernel_rfl) (fun _ _ _ h => h) (by rfl) (by intro w' hSw; have h9 := HXY.out; go_simp) ?_
        try simp only [Act.put, List.setIfInBounds_toArray, List.set_cons_zero, List.set_cons_succ]
        refine wpAnyH_done (by kernel_rfl) ?_ _
        go_wp2_with fail
        go_roundw
        case rel => exact ⟨j + 1, by omega, by go_num, hbd, HN⟩
        case measure => simp [intOf]; omega
      · have HXY : Hid ((X.toList == Y.toList) = false) := by
          show _ = _
          rw [← hX, ← hY]
          exact SealW.beq_no (fun h => hxy (by simpa using congrArg (fun z : ByteArray => z.data.toList) h))
        have HF : Hid (decide (aa = bs) = false) := decide_eq_false (fun h => by
          have h1 := HG.out; rw [h, HG2.out] at h1; exact hxy (Option.some.inj h1).symm)
        clear hxy hX hY
        go_wp2_with fail
        refine reg_begin (by kernel_rfl) ?_
        change wpAnyH _ _ _ _ _ 11 #[false, false, false, false, false, false, false, false, false, false, false] _ _
        refine reg_take (i := 0) (d := some 17) (v := (.slice (some ⟨b, o, none⟩) l c)) rfl rfl (by kernel_rfl) (by kernel_rfl) (by kernel_rfl) (fun _ _ _ h => h) (by rfl) (by intro w' hSw; go_simp) ?_
        try simp only [Act.put, List.setIfInBounds_toArray, List.set_cons_zero, List.set_cons_succ]
        refine reg_take (i := 1) (d := some 18) (v := (.int .i64 (j : Int))) rfl rfl (by kernel_rfl) (by kernel_rfl) (by kernel_rfl) (fun _ _ _ h => h) (by rfl) (by intro w' hSw; go_simp) ?_
        try simp only [Act.put, List.setIfInBounds_toArray, List.set_cons_zero, List.set_cons_succ]
        refine reg_take (i := 2) (d := some 19) (v := (.pointer (some ⟨b, o + j, none⟩))) rfl rfl (by kernel_rfl) (by kernel_rfl) (by kernel_rfl) (fun _ _ _ h => h) (by rfl) (by intro w' hSw; go_simp) ?_
        try simp only [Act.put, List.setIfInBounds_toArray, List.set_cons_zero, List.set_cons_succ]
        refine reg_take (i := 3) (d := some 20) (v := (.slice B q d)) rfl rfl (by kernel_rfl) (by kernel_rfl) (by kernel_rfl) (fun _ _ _ h => h) (by rfl) (by intro w' hSw; have h9 := HCA.out _ hSw; go_simp) ?_
        try simp only [Act.put, List.setIfInBounds_toArray, List.set_cons_zero, List.set_cons_succ]
        refine reg_take (i := 4) (d := some 21) (v := (.string X)) rfl rfl (by kernel_rfl) (by kernel_rfl) (by kernel_rfl) (fun _ _ _ h => h) (by rfl) (by intro w' hSw; have h9 := HSA.out _ hSw; go_simp) ?_
        try simp only [Act.put, List.setIfInBounds_toArray, List.set_cons_zero, List.set_cons_succ]
        refine reg_take (i := 5) (d := some 22) (v := (.slice (some ⟨b2, o2, none⟩) l c2)) rfl rfl (by kernel_rfl) (by kernel_rfl) (by kernel_rfl) (fun _ _ _ h => h) (by rfl) (by intro w' hSw; go_simp) ?_
        try simp only [Act.put, List.setIfInBounds_toArray, List.set_cons_zero, List.set_cons_succ]
        refine reg_take (i := 6) (d := some 23) (v := (.int .i64 (j : Int))) rfl rfl (by kernel_rfl) (by kernel_rfl) (by kernel_rfl) (fun _ _ _ h => h) (by rfl) (by intro w' hSw; go_simp) ?_
        try simp only [Act.put, List.setIfInBounds_toArray, List.set_cons_zero, List.set_cons_succ]
        refine reg_take (i := 7) (d := some 24) (v := (.pointer (some ⟨b2, o2 + j, none⟩))) rfl rfl (by kernel_rfl) (by kernel_rfl) (by kernel_rfl) (fun _ _ _ h => h) (by rfl) (by intro w' hSw; go_simp) ?_
        try simp only [Act.put, List.setIfInBounds_toArray, List.set_cons_zero, List.set_cons_succ]
        refine reg_take (i := 8) (d := some 25) (v := (.slice B2 q2 d2)) rfl rfl (by kernel_rfl) (by kernel_rfl) (by kernel_rfl) (fun _ _ _ h => h) (by rfl) (by intro w' hSw; have h9 := HCB.out _ hSw; go_simp) ?_
        try simp only [Act.put, List.setIfInBounds_toArray, List.set_cons_zero, List.set_cons_succ]
        refine reg_take (i := 9) (d := some 26) (v := (.string Y)) rfl rfl (by kernel_rfl) (by kernel_rfl) (by kernel_rfl) (fun _ _ _ h => h) (by rfl) (by intro w' hSw; have h9 := HSB.out _ hSw; go_simp) ?_
        try simp only [Act.put, List.setIfInBounds_toArray, List.set_cons_zero, List.set_cons_succ]
        refine reg_take (i := 10) (d := some 27) (v := (.bool true)) rfl rfl (by kernel_rfl) (by kernel_rfl) (by kernel_rfl) (fun _ _ _ h => h) (by rfl) (by intro w' hSw; have h9 := HXY.out; go_simp) ?_
        try simp only [Act.put, List.setIfInBounds_toArray, List.set_cons_zero, List.set_cons_succ]
        refine wpAnyH_done (by kernel_rfl) ?_ _
        go_wp2_with fail
        go_ret
        exact ⟨by rw [HF.out]; rfl, hbd⟩
    · have HF : Hid (decide (aa = bs) = true) := decide_eq_true (by
        have h := HK.out
        rwa [List.take_of_length_le (by rw [HL.out]; omega), List.take_of_length_le (by rw [HL2.out]; omega)] at h)
      go_wp2_with fail
      go_ret
      exact ⟨by rw [HF.out]; rfl, hbel⟩
end Go.Proofs.YtihkfomldbjpoaaDoor.ClW
