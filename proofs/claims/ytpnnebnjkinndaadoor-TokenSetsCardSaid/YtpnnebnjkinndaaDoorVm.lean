/- The law TokenSets. -/
import Derived.Test.YtpnnebnjkinndaaDoorVj
namespace Go.Proofs.YtpnnebnjkinndaaDoor.TokW
open Go.RowKit UtfW Go.Sort Go.Shelf
theorem rise_step {l : List (List UInt8)} (h : Rise l) {j k : Nat} (hjk : j < k) (hk : k < l.length) : l.getD j [] < l.getD k [] := by
  have := List.pairwise_iff_getElem.1 h j k (by omega) hk hjk
  have e1 : l.getD j [] = l[j] := by simp [List.getD, show j < l.length by omega]
  have e2 : l.getD k [] = l[k] := by simp [List.getD, hk]
  rw [e1, e2]; exact this
theorem getD_mem {l : List (List UInt8)} {k : Nat} (hk : k < l.length) : l.getD k [] ∈ l := by
  have e2 : l.getD k [] = l[k] := by simp [List.getD, hk]
  rw [e2]; exact List.getElem_mem hk
theorem geq_no {X Y : ByteArray} (h : X.data.toList < Y.data.toList) (w : World) : Sem.run Tryd.prog (binOp .geq 9 (.string X) (.string Y)) w = .ok (.bool false) w := by
  have h1 := less_yes h
  simp [binOp, Op.stringOp, h1]
/-- Whether a text is among the first ones. -/
def among (l : List ByteArray) (x : ByteArray) (k : Nat) : Bool := (l.take k).any fun y => decide (y = x)
theorem among_succ {l : List ByteArray} {x y : ByteArray} {k : Nat} (h : k < l.length) (hy : l.getD k ⟨#[]⟩ = y) : among l x (k + 1) = (among l x k || decide (y = x)) := by
  have e : l[k] = y := by simpa [List.getD, h] using hy
  unfold among
  rw [List.take_succ_eq_append_getElem h, List.any_append, e]
  simp
theorem among_all {l : List ByteArray} {x : ByteArray} {k : Nat} (h : l.length ≤ k) (hx : x.data.toList ∈ sbytes l) : among l x k = true := by
  unfold among
  rw [List.take_of_length_le h, List.any_eq_true]
  obtain ⟨y, hy, e⟩ := List.mem_map.1 hx
  exact ⟨y, hy, by simpa using ba_eq e⟩
set_option maxRecDepth 1000000 in
set_option maxHeartbeats 4000000 in
theorem lawSets (A : Option Addr) (n c : Nat) (bs : List UInt8) (w : World) (hT : Tabs w) (hn : bs.length = n) (hA : Sl w A (bcells bs)) (hnc : n ≤ c) (hc : c ≤ 9223372036854775807) :
    Calls Tryd.prog 7 #[.slice A n c] w fun e w' => e = .returned (.bool true) ∧ Below w.heap.size w w' := by
  have HT := Lib.hid (fun W (hb : Below w.heap.size w W) => hT.below hb hT.pos)
  have hlen := terms_len bs
  rw [hn] at hlen
  have HM := Lib.hid hn
  clear hn
  by_cases hg : 2000 < n
  · go_enter Tryd.func7, Tryd.ntmps7
    go_wp2_with fail
    refine (great_yes A n c _ hg).mono ?_
    rintro e w1 ⟨rfl, rfl⟩
    go_wp2_with fail
    refine (knows_any _ hT).mono ?_
    rintro e w1 ⟨rfl, b1⟩
    go_wp2_with fail
    go_ret
    exact ⟨rfl, b1⟩
  go_enter Tryd.func7, Tryd.ntmps7
  go_wp2_with fail
  refine (great_no A n c _ hg).mono ?_
  rintro e w1 ⟨rfl, rfl⟩
  go_wp2_with fail
  refine (terms_any A n c bs _ hT HM.out hA hnc hc (by omega)).mono ?_
  rintro e w2 ⟨v2, s2, rfl, hss2, o2, b2⟩
  obtain ⟨r, hr⟩ : ∃ r, r = s2.length := ⟨_, rfl⟩
  have hrn : r ≤ n := by rw [hr]; rw [← hss2, sbytes_len] at hlen; exact hlen
  have HS2 := Lib.hid hss2
  have HR := Lib.hid hr
  clear hr
  go_wp2_with fail
  refine (set_any A n c bs _ (HT.out _ b2) HM.out (hA.below b2) hnc hc (by omega)).mono ?_
  rintro e w4 ⟨v4, s4, rfl, hss4, o4, hb4⟩
  have b4 := b2.trans (hb4.mono b2.size)
  have z4 := b4.size
  have o2' := o2.below hb4
  obtain ⟨m, hm⟩ : ∃ m, m = s4.length := ⟨_, rfl⟩
  have HS4 := Lib.hid hss4
  have HS := Lib.hid hm
  obtain ⟨A2, c2, rfl, t2, _, _, _⟩ := o2'.slice
  obtain ⟨A4, c4, rfl, t4, _, hm4, _⟩ := o4.slice
  rw [← HR.out, ← hm]
  have hmx : m ≤ 9223372036854775807 := by
    have h1 : s4.length ≤ c4 := by assumption
    unfold maxLen at hm4; omega
  clear o2 o2' o4 hb4 b2 hss2 hss4 hm hlen hT
  go_wp2_with fail
  go_loopw [5] (fun i wr => ∃ k : Nat, k ≤ m ∧ i = .int .i64 (k : Int) ∧ Below w4.heap.size w4 wr) (fun i _ => m - (intOf i).toNat)
  case atStart => exact ⟨0, by omega, rfl, Below.refl _ _⟩
  case round =>
    obtain ⟨k, hk, rfl, hbel⟩ := hrel
    have hs := hbel.size
    have b5 := b4.trans (hbel.mono z4)
    by_cases hlt : k < m
    · obtain ⟨b, o, rfl, hblt, hcell⟩ := t4.get (j := k) (by rw [scells_len, ← HS.out]; exact hlt)
      have hcy := hcell k _ (scells_get s4 k (by rw [← HS.out]; exact hlt))
      have hym : (s4.getD k ⟨#[]⟩).data.toList ∈ termsU bs := by
        rw [← tx_get s4 k (by rw [← HS.out]; exact hlt), HS4.out]
        exact (set_mem _ _).1 (getD_mem (by rw [← HS4.out, sbytes_len, ← HS.out]; exact hlt))
      have hbq : Below w4.heap.size w4 wr.drew := hbel.drew
      have bq : Below w.heap.size w wr.drew := b5.drew
      obtain ⟨Y, hY⟩ : ∃ Y, s4.getD k ⟨#[]⟩ = Y := ⟨_, rfl⟩
      rw [hY] at hcy hym
      have HCY : Hid (∀ w', Below wr.drew.heap.size wr.drew w' → w'.cell? ⟨b, o + k, none⟩ = some (.string Y)) := fun w' hb => (hb.cell (p := ⟨b, o + k, none⟩) (Nat.lt_of_lt_of_le hblt hs)).trans ((hbel.cell (p := ⟨b, o + k, none⟩) hblt).trans hcy)
      obtain ⟨q, hq⟩ : ∃ q, (placesU (termsU bs) Y.data.toList).length = q := ⟨_, rfl⟩
      have hq0 : 0 < q := by rw [← hq]; exact List.length_pos_iff.2 (places_mem hym)
      have hql : q ≤ n := by
        have h1 := placesK_len (termsU bs) Y.data.toList (termsU bs).length
        have h2 := terms_len bs
        rw [HM.out] at h2
        rw [placesK_all, hq] at h1; omega
      have HQL := Lib.hid hq
      have HQ1 : Hid (((q : Int) == 0) = false) := by
        show _ = _
        have : (q : Int) ≠ 0 := by omega
        simpa using this
      have HQ2 : Hid (decide ((q : Int) = 0) = false) := decide_eq_false (by omega)
      by_cases hk0 : 0 < k
      · have HD : Hid (decide ((0 : Int) < (k : Int)) = true) := decide_eq_true (by omega)
        obtain ⟨j, hj⟩ : ∃ j, k = j + 1 := ⟨k - 1, by omega⟩
        have hjm : j < m := by omega
        have hcx := hcell j _ (scells_get s4 j (by rw [← HS.out]; exact hjm))
        have hless : (s4.getD j ⟨#[]⟩).data.toList < Y.data.toList := by
          have := rise_step (set_rise (termsU bs)) (j := j) (k := k) (by omega) (by rw [← HS4.out, sbytes_len, ← HS.out]; exact hlt)
          rw [← HS4.out, tx_get s4 j (by rw [← HS.out]; exact hjm), tx_get s4 k (by rw [← HS.out]; exact hlt), hY] at this
          exact this
        obtain ⟨X, hX⟩ : ∃ X, s4.getD j ⟨#[]⟩ = X := ⟨_, rfl⟩
        rw [hX] at hcx hless
        have HLS := Lib.hid (geq_no hless)
        have HCX : Hid (∀ w', Below wr.drew.heap.size wr.drew w' → w'.cell? ⟨b, o + j, none⟩ = some (.string X)) := fun w' hb => (hb.cell (p := ⟨b, o + j, none⟩) (Nat.lt_of_lt_of_le hblt hs)).trans ((hbel.cell (p := ⟨b, o + j, none⟩) hblt).trans hcx)
        have HW2 : Hid ((k : Int) - 1 = (j : Int)) := by show _ = _; omega
        have HW1 : Hid (IntKind.i64.wrap (j : Int) = (j : Int)) := IntWalk.i64_in _ (by omega)
        have HJ := Lib.hid hj
        clear hcell hcy hcx hless hX hY hq hym hj
        go_wp2_with fail
        refine reg_begin (by kernel_rfl) ?_
        change wpAnyH _ _ _ _ _ 24 #[false, false, false, false, false, false, false, false, false, false, false, false, false, false, false, false, false, false, false, false, false, false, false, false] _ _
        refine reg_take (i := 0) (d := some 22) (v := (.int .i64 (k : Int))) rfl rfl (by kernel_rfl) (by kernel_rfl) (by kernel_rfl) (fun _ _ _ h => h) (by rfl) (by intro w' hSw; go_simp) ?_
        try simp only [Act.put, List.setIfInBounds_toArray, List.set_cons_zero, List.set_cons_succ]
        refine reg_take (i := 1) (d := some 23) (v := (.bool true)) rfl rfl (by kernel_rfl) (by kernel_rfl) (by kernel_rfl) (fun _ _ _ h => h) (by rfl) (by intro w' hSw; have h9 := HD.out; go_simp) ?_
        try simp only [Act.put, List.setIfInBounds_toArray, List.set_cons_zero, List.set_cons_succ]
        refine reg_take (i := 2) (d := some 24) (v := (.bool true)) rfl rfl (by kernel_rfl) (by kernel_rfl) (by kernel_rfl) (fun _ _ _ h => h) (by rfl) (by intro w' hSw; go_simp) ?_
        try simp only [Act.put, List.setIfInBounds_toArray, List.set_cons_zero, List.set_cons_succ]
        refine reg_take (i := 3) (d := some 25) (v := (.slice (some ⟨b, o, none⟩) m c4)) rfl rfl (by kernel_rfl) (by kernel_rfl) (by kernel_rfl) (fun _ _ _ h => h) (by rfl) (by intro w' hSw; go_simp) ?_
        try simp only [Act.put, List.setIfInBounds_toArray, List.set_cons_zero, List.set_cons_succ]
        refine reg_take (i := 4) (d := some 26) (v := (.int .i64 (k : Int))) rfl rfl (by kernel_rfl) (by kernel_rfl) (by kernel_rfl) (fun _ _ _ h => h) (by rfl) (by intro w' hSw; go_simp) ?_
        try simp only [Act.put, List.setIfInBounds_toArray, List.set_cons_zero, List.set_cons_succ]
        refine reg_take (i := 5) (d := some 27) (v := (.int .i64 (j : Int))) rfl rfl (by kernel_rfl) (by kernel_rfl) (by kernel_rfl) (fun _ _ _ h => h) (by rfl) (by intro w' hSw; have h9 := HW1.out; have h8 := HW2.out; go_simp) ?_
        try simp only [Act.put, List.setIfInBounds_toArray, List.set_cons_zero, List.set_cons_succ]
        refine reg_take (i := 6) (d := some 28) (v := (.pointer (some ⟨b, o + j, none⟩))) rfl rfl (by kernel_rfl) (by kernel_rfl) (by kernel_rfl) (fun _ _ _ h => h) (by rfl) (by intro w' hSw; go_simp) ?_
        try simp only [Act.put, List.setIfInBounds_toArray, List.set_cons_zero, List.set_cons_succ]
        refine reg_take (i := 7) (d := some 29) (v := (.string X)) rfl rfl (by kernel_rfl) (by kernel_rfl) (by kernel_rfl) (fun _ _ _ h => h) (by rfl) (by intro w' hSw; have h9 := HCX.out _ hSw; go_simp) ?_
        try simp only [Act.put, List.setIfInBounds_toArray, List.set_cons_zero, List.set_cons_succ]
        refine reg_take (i := 8) (d := some 30) (v := (.slice (some ⟨b, o, none⟩) m c4)) rfl rfl (by kernel_rfl) (by kernel_rfl) (by kernel_rfl) (fun _ _ _ h => h) (by rfl) (by intro w' hSw; go_simp) ?_
        try simp only [Act.put, List.setIfInBounds_toArray, List.set_cons_zero, List.set_cons_succ]
        refine reg_take (i := 9) (d := some 31) (v := (.int .i64 (k : Int))) rfl rfl (by kernel_rfl) (by kernel_rfl) (by kernel_rfl) (fun _ _ _ h => h) (by rfl) (by intro w' hSw; go_simp) ?_
        try simp only [Act.put, List.setIfInBounds_toArray, List.set_cons_zero, List.set_cons_succ]
        refine reg_take (i := 10) (d := some 32) (v := (.pointer (some ⟨b, o + k, none⟩))) rfl rfl (by kernel_rfl) (by kernel_rfl) (by kernel_rfl) (fun _ _ _ h => h) (by rfl) (by intro w' hSw; go_simp) ?_
        try simp only [Act.put, List.setIfInBounds_toArray, List.set_cons_zero, List.set_cons_succ]
        refine reg_take (i := 11) (d := some 33) (v := (.string Y)) rfl rfl (by kernel_rfl) (by kernel_rfl) (by kernel_rfl) (fun _ _ _ h => h) (by rfl) (by intro w' hSw; have h9 := HCY.out _ hSw; go_simp) ?_
        try simp only [Act.put, List.setIfInBounds_toArray, List.set_cons_zero, List.set_cons_succ]
        refine reg_take (i := 12) (d := some 34) (v := (.bool false)) rfl rfl (by kernel_rfl) (by kernel_rfl) (by kernel_rfl) (fun _ _ _ h => h) (by rfl) (by intro w' hSw; have h9 := HLS.out w'; go_simp) ?_
        try simp only [Act.put, List.setIfInBounds_toArray, List.set_cons_zero, List.set_cons_succ]
        refine reg_take (i := 13) (d := some 35) (v := (.bool false)) rfl rfl (by kernel_rfl) (by kernel_rfl) (by kernel_rfl) (fun _ _ _ h => h) (by rfl) (by intro w' hSw; go_simp) ?_
        try simp only [Act.put, List.setIfInBounds_toArray, List.set_cons_zero, List.set_cons_succ]
        refine reg_take (i := 14) (d := some 36) (v := (.bool false)) rfl rfl (by kernel_rfl) (by kernel_rfl) (by kernel_rfl) (fun _ _ _ h => h) (by rfl) (by intro w' hSw; go_simp) ?_
        try simp only [Act.put, List.setIfInBounds_toArray, List.set_cons_zero, List.set_cons_succ]
        refine reg_take (i := 15) (d := some 37) (v := (.slice A n c)) rfl rfl (by kernel_rfl) (by kernel_rfl) (by kernel_rfl) (fun _ _ _ h => h) (by rfl) (by intro w' hSw; go_simp) ?_
        try simp only [Act.put, List.setIfInBounds_toArray, List.set_cons_zero, List.set_cons_succ]
        refine reg_take (i := 16) (d := some 38) (v := (.slice (some ⟨b, o, none⟩) m c4)) rfl rfl (by kernel_rfl) (by kernel_rfl) (by kernel_rfl) (fun _ _ _ h => h) (by rfl) (by intro w' hSw; go_simp) ?_
        try simp only [Act.put, List.setIfInBounds_toArray, List.set_cons_zero, List.set_cons_succ]
        refine reg_take (i := 17) (d := some 39) (v := (.int .i64 (k : Int))) rfl rfl (by kernel_rfl) (by kernel_rfl) (by kernel_rfl) (fun _ _ _ h => h) (by rfl) (by intro w' hSw; go_simp) ?_
        try simp only [Act.put, List.setIfInBounds_toArray, List.set_cons_zero, List.set_cons_succ]
        refine reg_take (i := 18) (d := some 40) (v := (.pointer (some ⟨b, o + k, none⟩))) rfl rfl (by kernel_rfl) (by kernel_rfl) (by kernel_rfl) (fun _ _ _ h => h) (by rfl) (by intro w' hSw; go_simp) ?_
        try simp only [Act.put, List.setIfInBounds_toArray, List.set_cons_zero, List.set_cons_succ]
        refine reg_take (i := 19) (d := some 41) (v := (.string Y)) rfl rfl (by kernel_rfl) (by kernel_rfl) (by kernel_rfl) (fun _ _ _ h => h) (by rfl) (by intro w' hSw; have h9 := HCY.out _ hSw; go_simp) ?_
        try simp only [Act.put, List.setIfInBounds_toArray, List.set_cons_zero, List.set_cons_succ]
        refine reg_call (i := 20) rfl (by kernel_rfl) (by rfl) fun K hK => ?_
        go_simp
        refine (places_any A n c bs Y _ (HT.out _ bq) HM.out (hA.below bq) hnc hc (by omega)).mono ?_
        rintro e w5 ⟨v5, rfl, o5, hb5⟩
        obtain ⟨A5, c5, rfl, _, _, _, _⟩ := o5.slice
        rw [HQL.out]
        refine hK.out _ _ hb5 ?_
        have b5 := bq.trans (hb5.mono bq.size)
        have bel5 := hbq.trans (hb5.mono hbq.size)
        clear o5 hb5
        clear hK K
        try simp only [List.setIfInBounds_toArray, List.set_cons_zero, List.set_cons_succ]
        refine reg_take (i := 21) (d := some 43) (v := (.int .i64 (q : Int))) rfl rfl (by kernel_rfl) (by kernel_rfl) (by kernel_rfl) (fun _ _ _ h => h) (by rfl) (by intro w' hSw; go_simp) ?_
        try simp only [Act.put, List.setIfInBounds_toArray, List.set_cons_zero, List.set_cons_succ]
        refine reg_take (i := 22) (d := some 44) (v := (.bool false)) rfl rfl (by kernel_rfl) (by kernel_rfl) (by kernel_rfl) (fun _ _ _ h => h) (by rfl) (by intro w' hSw; have h9 := HQ1.out; have h8 := HQ2.out; go_simp) ?_
        try simp only [Act.put, List.setIfInBounds_toArray, List.set_cons_zero, List.set_cons_succ]
        refine reg_take (i := 23) (d := some 45) (v := (.bool false)) rfl rfl (by kernel_rfl) (by kernel_rfl) (by kernel_rfl) (fun _ _ _ h => h) (by rfl) (by intro w' hSw; go_simp) ?_
        try simp only [Act.put, List.setIfInBounds_toArray, List.set_cons_zero, List.set_cons_succ]
        refine wpAnyH_done (by kernel_rfl) ?_ _
        go_simp
        go_wp2_with fail
        go_roundw
        case rel => exact ⟨k + 1, by omega, by go_num, bel5⟩
        case measure => simp [intOf]; omega
      · have HD : Hid (decide ((0 : Int) < (k : Int)) = false) := decide_eq_false (by omega)
        clear hcell hcy hY hq hym
        go_wp2_with fail
        refine reg_begin (by kernel_rfl) ?_
        change wpAnyH _ _ _ _ _ 24 #[false, false, false, false, false, false, false, false, false, false, false, false, false, false, false, false, false, false, false, false, false, false, false, false] _ _
        refine reg_take (i := 0) (d := some 22) (v := (.int .i64 (k : Int))) rfl rfl (by kernel_rfl) (by kernel_rfl) (by kernel_rfl) (fun _ _ _ h => h) (by rfl) (by intro w' hSw; go_simp) ?_
        try simp only [Act.put, List.setIfInBounds_toArray, List.set_cons_zero, List.set_cons_succ]
        refine reg_take (i := 1) (d := some 23) (v := (.bool false)) rfl rfl (by kernel_rfl) (by kernel_rfl) (by kernel_rfl) (fun _ _ _ h => h) (by rfl) (by intro w' hSw; have h9 := HD.out; go_simp) ?_
        try simp only [Act.put, List.setIfInBounds_toArray, List.set_cons_zero, List.set_cons_succ]
        refine reg_take (i := 2) (d := some 24) (v := (.bool false)) rfl rfl (by kernel_rfl) (by kernel_rfl) (by kernel_rfl) (fun _ _ _ h => h) (by rfl) (by intro w' hSw; go_simp) ?_
        try simp only [Act.put, List.setIfInBounds_toArray, List.set_cons_zero, List.set_cons_succ]
        refine reg_skip (i := 3) (d := some 25) rfl rfl (by kernel_rfl) (by kernel_rfl) (by kernel_rfl) (fun _ _ _ h => h) (by rfl) ?_
        try simp only [Act.put, List.setIfInBounds_toArray, List.set_cons_zero, List.set_cons_succ]
        refine reg_skip (i := 4) (d := some 26) rfl rfl (by kernel_rfl) (by kernel_rfl) (by kernel_rfl) (fun _ _ _ h => h) (by rfl) ?_
        try simp only [Act.put, List.setIfInBounds_toArray, List.set_cons_zero, List.set_cons_succ]
        refine reg_skip (i := 5) (d := some 27) rfl rfl (by kernel_rfl) (by kernel_rfl) (by kernel_rfl) (fun _ _ _ h => h) (by rfl) ?_
        try simp only [Act.put, List.setIfInBounds_toArray, List.set_cons_zero, List.set_cons_succ]
        refine reg_skip (i := 6) (d := some 28) rfl rfl (by kernel_rfl) (by kernel_rfl) (by kernel_rfl) (fun _ _ _ h => h) (by rfl) ?_
        try simp only [Act.put, List.setIfInBounds_toArray, List.set_cons_zero, List.set_cons_succ]
        refine reg_skip (i := 7) (d := some 29) rfl rfl (by kernel_rfl) (by kernel_rfl) (by kernel_rfl) (fun _ _ _ h => h) (by rfl) ?_
        try simp only [Act.put, List.setIfInBounds_toArray, List.set_cons_zero, List.set_cons_succ]
        refine reg_skip (i := 8) (d := some 30) rfl rfl (by kernel_rfl) (by kernel_rfl) (by kernel_rfl) (fun _ _ _ h => h) (by rfl) ?_
        try simp only [Act.put, List.setIfInBounds_toArray, List.set_cons_zero, List.set_cons_succ]
        refine reg_skip (i := 9) (d := some 31) rfl rfl (by kernel_rfl) (by kernel_rfl) (by kernel_rfl) (fun _ _ _ h => h) (by rfl) ?_
        try simp only [Act.put, List.setIfInBounds_toArray, List.set_cons_zero, List.set_cons_succ]
        refine reg_skip (i := 10) (d := some 32) rfl rfl (by kernel_rfl) (by kernel_rfl) (by kernel_rfl) (fun _ _ _ h => h) (by rfl) ?_
        try simp only [Act.put, List.setIfInBounds_toArray, List.set_cons_zero, List.set_cons_succ]
        refine reg_skip (i := 11) (d := some 33) rfl rfl (by kernel_rfl) (by kernel_rfl) (by kernel_rfl) (fun _ _ _ h => h) (by rfl) ?_
        try simp only [Act.put, List.setIfInBounds_toArray, List.set_cons_zero, List.set_cons_succ]
        refine reg_skip (i := 12) (d := some 34) rfl rfl (by kernel_rfl) (by kernel_rfl) (by kernel_rfl) (fun _ _ _ h => h) (by rfl) ?_
        try simp only [Act.put, List.setIfInBounds_toArray, List.set_cons_zero, List.set_cons_succ]
        refine reg_take (i := 13) (d := some 35) (v := (.bool false)) rfl rfl (by kernel_rfl) (by kernel_rfl) (by kernel_rfl) (fun _ _ _ h => h) (by rfl) (by intro w' hSw; go_simp) ?_
        try simp only [Act.put, List.setIfInBounds_toArray, List.set_cons_zero, List.set_cons_succ]
        refine reg_take (i := 14) (d := some 36) (v := (.bool false)) rfl rfl (by kernel_rfl) (by kernel_rfl) (by kernel_rfl) (fun _ _ _ h => h) (by rfl) (by intro w' hSw; go_simp) ?_
        try simp only [Act.put, List.setIfInBounds_toArray, List.set_cons_zero, List.set_cons_succ]
        refine reg_take (i := 15) (d := some 37) (v := (.slice A n c)) rfl rfl (by kernel_rfl) (by kernel_rfl) (by kernel_rfl) (fun _ _ _ h => h) (by rfl) (by intro w' hSw; go_simp) ?_
        try simp only [Act.put, List.setIfInBounds_toArray, List.set_cons_zero, List.set_cons_succ]
        refine reg_take (i := 16) (d := some 38) (v := (.slice (some ⟨b, o, none⟩) m c4)) rfl rfl (by kernel_rfl) (by kernel_rfl) (by kernel_rfl) (fun _ _ _ h => h) (by rfl) (by intro w' hSw; go_simp) ?_
        try simp only [Act.put, List.setIfInBounds_toArray, List.set_cons_zero, List.set_cons_succ]
        refine reg_take (i := 17) (d := some 39) (v := (.int .i64 (k : Int))) rfl rfl (by kernel_rfl) (by kernel_rfl) (by kernel_rfl) (fun _ _ _ h => h) (by rfl) (by intro w' hSw; go_simp) ?_
        try simp only [Act.put, List.setIfInBounds_toArray, List.set_cons_zero, List.set_cons_succ]
        refine reg_take (i := 18) (d := some 40) (v := (.pointer (some ⟨b, o + k, none⟩))) rfl rfl (by kernel_rfl) (by kernel_rfl) (by kernel_rfl) (fun _ _ _ h => h) (by rfl) (by intro w' hSw; go_simp) ?_
        try simp only [Act.put, List.setIfInBounds_toArray, List.set_cons_zero, List.set_cons_succ]
        refine reg_take (i := 19) (d := some 41) (v := (.string Y)) rfl rfl (by kernel_rfl) (by kernel_rfl) (by kernel_rfl) (fun _ _ _ h => h) (by rfl) (by intro w' hSw; have h9 := HCY.out _ hSw; go_simp) ?_
        try simp only [Act.put, List.setIfInBounds_toArray, List.set_cons_zero, List.set_cons_succ]
        refine reg_call (i := 20) rfl (by kernel_rfl) (by rfl) fun K hK => ?_
        go_simp
        refine (places_any A n c bs Y _ (HT.out _ bq) HM.out (hA.below bq) hnc hc (by omega)).mono ?_
        rintro e w5 ⟨v5, rfl, o5, hb5⟩
        obtain ⟨A5, c5, rfl, _, _, _, _⟩ := o5.slice
        rw [HQL.out]
        refine hK.out _ _ hb5 ?_
        have b5 := bq.trans (hb5.mono bq.size)
        have bel5 := hbq.trans (hb5.mono hbq.size)
        clear o5 hb5
        clear hK K
        try simp only [List.setIfInBounds_toArray, List.set_cons_zero, List.set_cons_succ]
        refine reg_take (i := 21) (d := some 43) (v := (.int .i64 (q : Int))) rfl rfl (by kernel_rfl) (by kernel_rfl) (by kernel_rfl) (fun _ _ _ h => h) (by rfl) (by intro w' hSw; go_simp) ?_
        try simp only [Act.put, List.setIfInBounds_toArray, List.set_cons_zero, List.set_cons_succ]
        refine reg_take (i := 22) (d := some 44) (v := (.bool false)) rfl rfl (by kernel_rfl) (by kernel_rfl) (by kernel_rfl) (fun _ _ _ h => h) (by rfl) (by intro w' hSw; have h9 := HQ1.out; have h8 := HQ2.out; go_simp) ?_
        try simp only [Act.put, List.setIfInBounds_toArray, List.set_cons_zero, List.set_cons_succ]
        refine reg_take (i := 23) (d := some 45) (v := (.bool false)) rfl rfl (by kernel_rfl) (by kernel_rfl) (by kernel_rfl) (fun _ _ _ h => h) (by rfl) (by intro w' hSw; go_simp) ?_
        try simp only [Act.put, List.setIfInBounds_toArray, List.set_cons_zero, List.set_cons_succ]
        refine wpAnyH_done (by kernel_rfl) ?_ _
        go_simp
        go_wp2_with fail
        go_roundw
        case rel => exact ⟨k + 1, by omega, by go_num, bel5⟩
        case measure => simp [intOf]; omega
    · clear b5
      go_wp2_with fail
      clear hk hlt
      go_loopw [6] (fun i wi => ∃ k : Nat, k ≤ r ∧ i = .int .i64 (k : Int) ∧ Below w4.heap.size w4 wi) (fun i _ => r - (intOf i).toNat)
      case atStart => exact ⟨0, by omega, rfl, hbel⟩
      case round =>
        clear hbel hs
        obtain ⟨i, hi, rfl, hbel⟩ := hrel
        have hs := hbel.size
        have b5 := b4.trans (hbel.mono z4)
        by_cases hir : i < r
        · obtain ⟨b, o, rfl, hblt, hcell⟩ := t2.get (j := i) (by rw [scells_len, ← HR.out]; exact hir)
          have hcx := hcell i _ (scells_get s2 i (by rw [← HR.out]; exact hir))
          have hxm : (s2.getD i ⟨#[]⟩).data.toList ∈ sbytes s4 := by
            rw [← tx_get s2 i (by rw [← HR.out]; exact hir), HS4.out, set_mem, ← HS2.out]
            exact getD_mem (by rw [sbytes_len, ← HR.out]; exact hir)
          generalize s2.getD i ⟨#[]⟩ = x at hcx hxm
          have HALL : Hid (∀ k, m ≤ k → among s4 x k = true) := fun k hk => among_all (by rw [← HS.out]; exact hk) hxm
          clear hcell hxm
          go_wp2_with fail
          go_loopw [7, 8] (fun f k wk => ∃ j : Nat, j ≤ m ∧ k = .int .i64 (j : Int) ∧ f = .bool (among s4 x j) ∧ Below w4.heap.size w4 wk) (fun _ k _ => m - (intOf k).toNat)
          case atStart => exact ⟨0, by omega, rfl, rfl, hbel⟩
          case round =>
            clear hbel hs b5
            obtain ⟨j, hj, rfl, rfl, hbel⟩ := hrel
            have hs := hbel.size
            have b5 := b4.trans (hbel.mono z4)
            by_cases hjm : j < m
            · obtain ⟨b', o', rfl, hblt', hcell'⟩ := t4.get (j := j) (by rw [scells_len, ← HS.out]; exact hjm)
              have hc0 := (hbel.cell (p := ⟨b', o' + j, none⟩) hblt').trans (hcell' j _ (scells_get s4 j (by rw [← HS.out]; exact hjm)))
              have hc1 := (hbel.cell (p := ⟨b, o + i, none⟩) hblt).trans hcx
              have HA := Lib.hid (fun y hy => among_succ (l := s4) (x := x) (y := y) (k := j) (by rw [← HS.out]; exact hjm) hy)
              obtain ⟨y, hy⟩ : ∃ y, s4.getD j ⟨#[]⟩ = y := ⟨_, rfl⟩
              rw [hy] at hc0
              have HA2 := Lib.hid (HA.out y hy)
              obtain ⟨f, hf⟩ : ∃ f, f = among s4 x j := ⟨_, rfl⟩
              rw [← hf] at HA2 ⊢
              clear hcell' hy HA hf
              cases f
              · by_cases he : y = x
                · have hqq := beq_yes he
                  have HF : Hid (among s4 x (j + 1) = true) := by show _ = _; rw [HA2.out]; simpa using he
                  clear he HA2
                  go_wp2_with fail
                  go_quiet (fail)
                  go_wp2_with fail
                  go_roundw
                  case rel => exact ⟨j + 1, by omega, by go_num, by rw [HF.out], hbel.trans (below_drewN (Below.refl _ _) _)⟩
                  case measure => simp [intOf]; omega
                · have hqq := beq_no he
                  have HF : Hid (among s4 x (j + 1) = false) := by show _ = _; rw [HA2.out]; simpa using he
                  clear he HA2
                  go_wp2_with fail
                  go_quiet (fail)
                  go_wp2_with fail
                  go_roundw
                  case rel => exact ⟨j + 1, by omega, by go_num, by rw [HF.out], hbel.trans (below_drewN (Below.refl _ _) _)⟩
                  case measure => simp [intOf]; omega
              · have HF : Hid (among s4 x (j + 1) = true) := by show _ = _; rw [HA2.out]; rfl
                clear HA2
                go_wp2_with fail
                go_quiet (fail)
                go_wp2_with fail
                go_roundw
                case rel => exact ⟨j + 1, by omega, by go_num, by rw [HF.out], hbel.trans (below_drewN (Below.refl _ _) _)⟩
                case measure => simp [intOf]; omega
            · rw [HALL.out j (by omega)]
              go_wp2_with fail
              go_roundw
              case rel => exact ⟨i + 1, by omega, by go_num, hbel⟩
              case measure => simp [intOf]; omega
        · go_wp2_with fail
          refine (knows_any _ (HT.out _ b5)).mono ?_
          rintro e w6 ⟨rfl, b6⟩
          have b7 := b5.trans (b6.mono b5.size)
          go_wp2_with fail
          go_ret
          exact ⟨rfl, b7⟩
end Go.Proofs.YtpnnebnjkinndaaDoor.TokW
