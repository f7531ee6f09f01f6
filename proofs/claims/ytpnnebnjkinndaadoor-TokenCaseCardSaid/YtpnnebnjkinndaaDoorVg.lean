/- token: comparing terms with their places. -/
import Derived.Test.YtpnnebnjkinndaaDoorVf
import Derived.Test.YtpnnebnjkinndaaDoorReg
import Derived.Test.YtpnnebnjkinndaaDoorInts
import Derived.Test.YtpnnebnjkinndaaDoorSrk
namespace Go.Proofs.YtpnnebnjkinndaaDoor.TokW
open Go.RowKit UtfW Go.Sort Go.Shelf
theorem nan_any (x : Int) (w : World) : Calls Tryd.prog 63 #[.int .i64 x] w fun e w' => e = .returned (.bool false) ∧ w = w' := by
  go_enter Tryd.func63, Tryd.ntmps63
  go_wp2_with fail
  go_ret
  exact ⟨rfl, rfl⟩
set_option maxHeartbeats 1000000 in
theorem cmpInt_any (x y : Int) (w : World) : Calls Tryd.prog 53 #[.int .i64 x, .int .i64 y] w fun e w' => e = .returned (.int .i64 (Lib.compareInt x y)) ∧ w = w' := by
  by_cases h1 : x < y
  · have HC : Hid (Lib.compareInt x y = -1) := by show _ = _; unfold Lib.compareInt; rw [if_pos h1]
    go_enter Tryd.func53, Tryd.ntmps53
    go_wp2_with fail
    refine (nan_any x _).mono ?_
    rintro e w1 ⟨rfl, rfl⟩
    go_wp2_with fail
    refine (nan_any y _).mono ?_
    rintro e w1 ⟨rfl, rfl⟩
    go_wp2_with fail
    go_ret
    exact ⟨by rw [HC.out]; rfl, rfl⟩
  · by_cases h2 : y < x
    · have HC : Hid (Lib.compareInt x y = 1) := by show _ = _; unfold Lib.compareInt; rw [if_neg h1, if_pos h2]
      go_enter Tryd.func53, Tryd.ntmps53
      go_wp2_with fail
      refine (nan_any x _).mono ?_
      rintro e w1 ⟨rfl, rfl⟩
      go_wp2_with fail
      refine (nan_any y _).mono ?_
      rintro e w1 ⟨rfl, rfl⟩
      go_wp2_with fail
      go_ret
      exact ⟨by rw [HC.out]; rfl, rfl⟩
    · have HC : Hid (Lib.compareInt x y = 0) := by show _ = _; unfold Lib.compareInt; rw [if_neg h1, if_neg (by omega)]
      go_enter Tryd.func53, Tryd.ntmps53
      go_wp2_with fail
      refine (nan_any x _).mono ?_
      rintro e w1 ⟨rfl, rfl⟩
      go_wp2_with fail
      refine (nan_any y _).mono ?_
      rintro e w1 ⟨rfl, rfl⟩
      go_wp2_with fail
      go_ret
      exact ⟨by rw [HC.out]; rfl, rfl⟩
/-- The first that is not 0. -/
def orL : List Int → Int
  | [] => 0
  | z :: zs => if z = 0 then orL zs else z
theorem orL_no {zs : List Int} {k : Nat} {z : Int} (h : k < zs.length) (hz : zs.getD k 0 = z) (h0 : z = 0) : orL (zs.drop k) = orL (zs.drop (k + 1)) := by
  rw [List.drop_eq_getElem_cons h]
  have e : zs[k] = z := by simpa [List.getD, h] using hz
  rw [e, h0]; simp [orL]
theorem orL_yes {zs : List Int} {k : Nat} {z : Int} (h : k < zs.length) (hz : zs.getD k 0 = z) (h0 : ¬ z = 0) : orL (zs.drop k) = z := by
  rw [List.drop_eq_getElem_cons h]
  have e : zs[k] = z := by simpa [List.getD, h] using hz
  rw [e]; simp [orL, h0]
set_option maxHeartbeats 1000000 in
theorem or_any (A : Option Addr) (n c : Nat) (zs : List Int) (w : World) (hn : zs.length = n) (hA : Sl w A (zcells zs)) (hn63 : n ≤ 9223372036854775807) :
    Calls Tryd.prog 52 #[.slice A n c] w fun e w' => e = .returned (.int .i64 (orL zs)) ∧ w = w' := by
  have HN := Lib.hid hn
  clear hn
  go_enter Tryd.func52, Tryd.ntmps52
  go_wp2_with fail
  go_loop [8] (fun i => ∃ k : Nat, k ≤ n ∧ i = .int .i64 (k : Int) ∧ Hid (orL zs = orL (zs.drop k))) (fun i => n - (intOf i).toNat)
  case atStart => exact ⟨0, by omega, rfl, rfl⟩
  case round =>
    obtain ⟨k, hk, rfl, HK⟩ := hrel
    by_cases hlt : k < n
    · obtain ⟨b, o, rfl, hblt, hcell⟩ := hA.get (j := k) (by rw [zcells_len, HN.out]; exact hlt)
      have hc0 := hcell k _ (zcells_get zs k (by rw [HN.out]; exact hlt))
      obtain ⟨z, hz⟩ : ∃ z, zs.getD k 0 = z := ⟨_, rfl⟩
      rw [hz] at hc0
      have HY := Lib.hid (fun h => orL_yes (by rw [HN.out]; exact hlt) hz h)
      have HNO := Lib.hid (fun h => orL_no (by rw [HN.out]; exact hlt) hz h)
      clear hcell hz
      by_cases h0 : z = 0
      · have HR := Lib.hid (HNO.out h0)
        clear HY HNO
        subst h0
        go_wp2_with fail
        go_round
        case rel => exact ⟨k + 1, by omega, by go_num, by show _ = _; rw [HK.out, HR.out]⟩
        case measure => simp [intOf]; omega
      · have HR := Lib.hid (HY.out h0)
        have h1 : (z == 0) = false := by simpa using h0
        have h2 : (z != 0) = true := by simpa using h0
        have h3 : decide (z = 0) = false := by simpa using h0
        clear HY HNO h0
        go_wp2_with fail
        go_ret
        exact ⟨by rw [HK.out, HR.out]; rfl, rfl⟩
    · have HF : Hid (orL zs = 0) := by show _ = _; rw [HK.out, List.drop_eq_nil_of_le (by rw [HN.out]; omega)]; rfl
      go_wp2_with fail
      go_ret
      exact ⟨by rw [HF.out]; rfl, rfl⟩
theorem or_cmp (a b : List UInt8) (i j : Nat) : orL [Lib.compareBytes a b, Lib.compareInt i j] = cmpP (a, i) (b, j) := by
  unfold cmpP orL orL
  by_cases h : Lib.compareBytes a b = 0
  · simp only [h, if_true]
    by_cases h2 : Lib.compareInt (i : Int) (j : Int) = 0
    · simp [h2, orL]
    · simp [h2]
  · simp only [h, if_false]
theorem three (w : World) (o1 o2 o3 : Obj) : (((w.alloc o1).alloc o2).alloc o3).drew = grow (w.drewN 1) #[o1, o2, o3] := by
  rw [alloc_eq_grow, alloc_eq_grow, alloc_eq_grow, grow_grow, grow_grow, drew_grow]; rfl
set_option maxRecDepth 100000 in
set_option maxHeartbeats 2000000 in
theorem compareAt_any (a b : ByteArray) (i j : Nat) (w : World) : Calls Tryd.prog 32 #[.agg #[.string a, .int .i64 (i : Int)], .agg #[.string b, .int .i64 (j : Int)]] w fun e w' =>
    e = .returned (.int .i64 (cmpP (a.data.toList, i) (b.data.toList, j))) ∧ ∃ q os', w' = grow (w.drewN q) os' := by
  obtain ⟨c1, hc1⟩ : ∃ c1, Lib.compareBytes a.data.toList b.data.toList = c1 := ⟨_, rfl⟩
  obtain ⟨c2, hc2⟩ : ∃ c2, Lib.compareInt (i : Int) (j : Int) = c2 := ⟨_, rfl⟩
  obtain ⟨c3, hc3⟩ : ∃ c3, orL [c1, c2] = c3 := ⟨_, rfl⟩
  have HC1 := Lib.hid hc1
  have HC2 := Lib.hid hc2
  have HC3 := Lib.hid hc3
  have HR : Hid (cmpP (a.data.toList, i) (b.data.toList, j) = c3) := by show _ = _; rw [← or_cmp, hc1, hc2, hc3]
  clear hc1 hc2 hc3
  have k0 : At (w.alloc (.cells #[.string a, .int .i64 (i : Int)] 35)) w.heap.size 35 [.string a, .int .i64 (i : Int)] := At.new_ w _ 35 _ rfl
  have k1 : At ((w.alloc (.cells #[.string a, .int .i64 (i : Int)] 35)).alloc (.cells #[.string b, .int .i64 (j : Int)] 35)) (w.heap.size + 1) 35 [.string b, .int .i64 (j : Int)] := At.new_ _ _ 35 _ (by simp)
  have k2 := k0.alloc (.cells #[.string b, .int .i64 (j : Int)] 35)
  obtain ⟨X, hX⟩ : ∃ X, X = (w.alloc (.cells #[.string a, .int .i64 (i : Int)] 35)).alloc (.cells #[.string b, .int .i64 (j : Int)] 35) := ⟨_, rfl⟩
  have HX := Lib.hid hX
  rw [← hX] at k1 k2
  have HA0 : Hid (∀ w', Below X.drew.heap.size X.drew w' → w'.cell? ⟨w.heap.size, 0, none⟩ = some (.string a)) := fun w' hb => ((k2.drew.below hb k2.drew.lt).cell 0).trans rfl
  have HA1 : Hid (∀ w', Below X.drew.heap.size X.drew w' → w'.cell? ⟨w.heap.size, 1, none⟩ = some (.int .i64 (i : Int))) := fun w' hb => ((k2.drew.below hb k2.drew.lt).cell 1).trans rfl
  have HB0 : Hid (∀ w', Below X.drew.heap.size X.drew w' → w'.cell? ⟨w.heap.size + 1, 0, none⟩ = some (.string b)) := fun w' hb => ((k1.drew.below hb k1.drew.lt).cell 0).trans rfl
  have HB1 : Hid (∀ w', Below X.drew.heap.size X.drew w' → w'.cell? ⟨w.heap.size + 1, 1, none⟩ = some (.int .i64 (j : Int))) := fun w' hb => ((k1.drew.below hb k1.drew.lt).cell 1).trans rfl
  have kn : Hid (Sl (X.drew.alloc (.cells #[.int .i64 c1, .int .i64 c2] 3)) (some ⟨X.heap.size, 0, none⟩) (zcells [c1, c2])) := by
    have := Sl.of_at_all (At.new_ X.drew X.heap.size 3 (zcells [c1, c2]) rfl)
    exact this
  clear k0 k1 k2 hX
  go_enter Tryd.func32, Tryd.ntmps32
  go_wp2_with fail
  rw [← HX.out]
  refine reg_begin (by kernel_rfl) ?_
  change wpAnyH _ _ _ _ _ 13 #[false, false, false, false, false, false, false, false, false, false, false, false, false] _ _
  refine reg_take (i := 0) (d := some 5) (v := (.pointer (some ⟨w.heap.size, 0, none⟩))) rfl rfl (by kernel_rfl) (by kernel_rfl) (by kernel_rfl) (fun _ _ _ h => h) (by rfl) (by intro w' hSw; go_simp) ?_
  try simp only [Act.put, List.setIfInBounds_toArray, List.set_cons_zero, List.set_cons_succ]
  refine reg_take (i := 1) (d := some 6) (v := (.string a)) rfl rfl (by kernel_rfl) (by kernel_rfl) (by kernel_rfl) (fun _ _ _ h => h) (by rfl) (by intro w' hSw; have h9 := HA0.out _ hSw; go_simp) ?_
  try simp only [Act.put, List.setIfInBounds_toArray, List.set_cons_zero, List.set_cons_succ]
  refine reg_take (i := 2) (d := some 7) (v := (.pointer (some ⟨w.heap.size + 1, 0, none⟩))) rfl rfl (by kernel_rfl) (by kernel_rfl) (by kernel_rfl) (fun _ _ _ h => h) (by rfl) (by intro w' hSw; go_simp) ?_
  try simp only [Act.put, List.setIfInBounds_toArray, List.set_cons_zero, List.set_cons_succ]
  refine reg_take (i := 3) (d := some 8) (v := (.string b)) rfl rfl (by kernel_rfl) (by kernel_rfl) (by kernel_rfl) (fun _ _ _ h => h) (by rfl) (by intro w' hSw; have h9 := HB0.out _ hSw; go_simp) ?_
  try simp only [Act.put, List.setIfInBounds_toArray, List.set_cons_zero, List.set_cons_succ]
  refine reg_take (i := 5) (d := some 10) (v := (.pointer (some ⟨w.heap.size, 1, none⟩))) rfl rfl (by kernel_rfl) (by kernel_rfl) (by kernel_rfl) (fun _ _ _ h => h) (by rfl) (by intro w' hSw; go_simp) ?_
  try simp only [Act.put, List.setIfInBounds_toArray, List.set_cons_zero, List.set_cons_succ]
  refine reg_take (i := 6) (d := some 11) (v := (.int .i64 (i : Int))) rfl rfl (by kernel_rfl) (by kernel_rfl) (by kernel_rfl) (fun _ _ _ h => h) (by rfl) (by intro w' hSw; have h9 := HA1.out _ hSw; go_simp) ?_
  try simp only [Act.put, List.setIfInBounds_toArray, List.set_cons_zero, List.set_cons_succ]
  refine reg_take (i := 7) (d := some 12) (v := (.pointer (some ⟨w.heap.size + 1, 1, none⟩))) rfl rfl (by kernel_rfl) (by kernel_rfl) (by kernel_rfl) (fun _ _ _ h => h) (by rfl) (by intro w' hSw; go_simp) ?_
  try simp only [Act.put, List.setIfInBounds_toArray, List.set_cons_zero, List.set_cons_succ]
  refine reg_take (i := 8) (d := some 13) (v := (.int .i64 (j : Int))) rfl rfl (by kernel_rfl) (by kernel_rfl) (by kernel_rfl) (fun _ _ _ h => h) (by rfl) (by intro w' hSw; have h9 := HB1.out _ hSw; go_simp) ?_
  try simp only [Act.put, List.setIfInBounds_toArray, List.set_cons_zero, List.set_cons_succ]
  refine reg_call (i := 4) rfl (by kernel_rfl) (by rfl) fun K hK => ?_
  go_simp
  refine (compare_any a b _).mono ?_
  rintro e w2 ⟨rfl, rfl⟩
  refine hK.out _ _ (Below.refl _ _) ?_
  rw [HC1.out]
  clear hK K
  try simp only [List.setIfInBounds_toArray, List.set_cons_zero, List.set_cons_succ]
  refine reg_call (i := 9) rfl (by kernel_rfl) (by rfl) fun K hK => ?_
  go_simp
  refine (cmpInt_any (i : Int) (j : Int) _).mono ?_
  rintro e w3 ⟨rfl, rfl⟩
  refine hK.out _ _ (Below.refl _ _) ?_
  rw [HC2.out]
  clear hK K
  try simp only [List.setIfInBounds_toArray, List.set_cons_zero, List.set_cons_succ]
  refine reg_call (i := 10) rfl (by kernel_rfl) (by rfl) fun K hK => ?_
  go_simp
  refine hK.out _ _ ((Below.refl _ _).alloc (Nat.le_refl _) _) ?_
  clear hK K
  try simp only [List.setIfInBounds_toArray, List.set_cons_zero, List.set_cons_succ]
  refine reg_call (i := 11) rfl (by kernel_rfl) (by rfl) fun K hK => ?_
  go_simp
  refine (or_any (some ⟨X.heap.size, 0, none⟩) 2 2 [c1, c2] _ rfl (kn.out) (by omega)).mono ?_
  rintro e w4 ⟨rfl, rfl⟩
  refine hK.out _ _ (Below.refl _ _) ?_
  rw [HC3.out]
  clear hK K
  try simp only [List.setIfInBounds_toArray, List.set_cons_zero, List.set_cons_succ]
  refine reg_take (i := 12) (d := some 4) (v := (.int .i64 c3)) rfl rfl (by kernel_rfl) (by kernel_rfl) (by kernel_rfl) (fun _ _ _ h => h) (by rfl) (by intro w' hSw; go_simp) ?_
  try simp only [Act.put, List.setIfInBounds_toArray, List.set_cons_zero, List.set_cons_succ]
  refine wpAnyH_done (by kernel_rfl) ?_ _
  go_simp
  go_wp2_with fail
  go_ret
  refine ⟨by rw [HR.out]; rfl, 1, #[.cells #[.string a, .int .i64 (i : Int)] 35, .cells #[.string b, .int .i64 (j : Int)] 35, .cells #[.int .i64 c1, .int .i64 c2] 3], ?_⟩
  rw [HX.out]
  exact three w _ _ _
end Go.Proofs.YtpnnebnjkinndaaDoor.TokW
