/- rubrickref06.Climb; the statements' own Great, digests, ways. -/
import Derived.Test.YtmebogaenbjmnaaDoorMg
import Derived.Test.YtmebogaenbjmnaaDoorRsOf
namespace Go.Proofs.YtmebogaenbjmnaaDoor.TrW
open Go.RowKit TreeW
open ShaW Sha
theorem climb_size : ∀ (m : Nat) (leaf : ByteArray) (i n : Nat) (ss : List ByteArray), n ≤ m → leaf.size = 32 → (climb nd ed leaf i n ss).size = 32
  | m, leaf, i, n, ss, hm, h => by
    by_cases h2 : n < 2
    · rw [climb_one nd ed leaf i n ss h2]; exact h
    · rw [climb_two nd ed leaf i n ss (by omega)]
      split <;> exact nd_size _ _
/-- A path's last digest, and those ahead of it. -/
theorem path_parts {w : World} {A : Option Addr} {ss : List ByteArray} {l c m : Nat} (hl : ss.length = l) (hs : Sl w A (scells ss)) (hc : l ≤ c) (hm : l = 1 + m) (hd : Digs ss) :
    ∃ (q0 : List ByteArray) (d : ByteArray) (b o : Nat), ss = q0 ++ [d] ∧ q0.length = m ∧ A = some ⟨b, o, none⟩ ∧ b < w.heap.size ∧ (∀ w', Below w.heap.size w w' → w'.cell? ⟨b, o + m, none⟩ = some (.string d)) ∧ Sl w A (scells q0) ∧ Digs q0 ∧ d.size = 32 ∧
      (∀ w', (Instr.slice 22 (.slice A l c) none (some (.int .i64 (m : Int))) none).run Tryd.prog w' = .ok (.slice A m c) w') := by
  obtain ⟨q0, d, rfl, hq⟩ := snoc_of (p := ss) (m := m) (by omega)
  obtain ⟨b, o, rfl, hblt, hcell⟩ := hs.get (j := m) (by rw [scells_len]; omega)
  have hx : (q0 ++ [d])[m]? = some d := by rw [← hq, List.getElem?_concat_length]
  refine ⟨q0, d, b, o, rfl, hq, rfl, hblt, fun w' hb => (hb.cell (p := ⟨b, o + m, none⟩) hblt).trans (hcell m _ (scells_at hx)), ?_, fun x hx => hd x (List.mem_append_left _ hx), hd d (by simp), fun w' => run_to strsTy w' _ l c m .i64 (by omega)⟩
  have := hs.take q0.length
  rwa [scells_take, List.take_left] at this
set_option maxRecDepth 1000000 in
set_option maxHeartbeats 2000000 in
theorem refClimb_any : ∀ (m : Nat) (leaf : ByteArray) (i n : Nat) (A : Option Addr) (l c : Nat) (ss : List ByteArray) (_hm : n ≤ m) (w : World) (_h1 : leaf.size = 32) (_hl : ss.length = l) (_hs : Sl w A (scells ss)) (_hd : Digs ss) (_hlc : l ≤ c) (_hn : n ≤ 1099511627776) (_hi : i < 1099511627777) (_hst : l = steps i n),
    Calls Tryd.prog 23 #[.string leaf, .int .i64 (i : Int), .int .i64 (n : Int), .slice A l c] w fun e w' => e = .returned (.string (climb nd ed leaf i n ss)) ∧ Below w.heap.size w w' := by
  intro m
  induction m with
  | zero =>
    intro leaf i n A l c ss hm w h1 hl hs hd hlc hn hi hst
    have HC := Lib.hid (climb_one nd ed leaf i n ss (by omega))
    have k1 : (n : Int) < 2 := by omega
    clear h1 hl hs hd hst
    go_enter Tryd.func23, Tryd.ntmps23
    go_wp2_with fail
    go_ret
    exact ⟨by rw [HC.out]; rfl, Below.refl _ _⟩
  | succ m ih =>
    intro leaf i n A l c ss hm w h1 hl hs hd hlc hn hi hst
    by_cases h2 : n < 2
    · have HC := Lib.hid (climb_one nd ed leaf i n ss h2)
      have k1 : (n : Int) < 2 := by omega
      clear h1 hl hs hd hst ih
      go_enter Tryd.func23, Tryd.ntmps23
      go_wp2_with fail
      go_ret
      exact ⟨by rw [HC.out]; rfl, Below.refl _ _⟩
    obtain ⟨sa, sb, _, _⟩ := split_spec (n := n) (by omega)
    have hyes := fun (p : List ByteArray) (d : ByteArray) => climb_left nd ed (x := leaf) (i := i) (n := n) (p := p) (d := d) (by omega)
    have hno := fun (p : List ByteArray) (d : ByteArray) => climb_right nd ed (x := leaf) (i := i) (n := n) (p := p) (d := d) (by omega)
    have syes := steps_left (i := i) (n := n) (by omega)
    have sno := steps_right (i := i) (n := n) (by omega)
    obtain ⟨k, hk⟩ : ∃ k, k = split n := ⟨_, rfl⟩
    rw [← hk] at sa sb syes sno
    simp only [← hk] at hyes hno
    have HK := Lib.hid hk
    have k1 : ¬ (n : Int) < 2 := by omega
    have b0 : Below w.heap.size w w.drew := (Below.refl _ _).drew
    have H1 := Lib.hid h1
    clear hk
    by_cases hik : i < k
    · obtain ⟨p, hp⟩ : ∃ p, p = steps i k := ⟨_, rfl⟩
      have hl1 : l = 1 + p := by rw [hst, syes hik, hp]
      obtain ⟨q0, d, b, o, rfl, hq, rfl, hblt, hcell, hsq, hdq, hd32, hto⟩ := path_parts hl hs hlc hl1 hd
      have HCL := Lib.hid (hyes q0 d hik)
      have HQ := Lib.hid hq
      have HCELL := Lib.hid hcell
      have HDQ := Lib.hid hdq
      have HD32 := Lib.hid hd32
      have HTO := Lib.hid hto
      have ZC := Lib.hid (climb_size k leaf i k q0 (Nat.le_refl _) h1)
      have HP := Lib.hid hp
      have k5 : (i : Int) < (k : Int) := by omega
      have q1 : (1 : Int) + (p : Int) - 1 = (p : Int) := by omega
      have q2 : (0 : Int) ≤ (p : Int) := by omega
      have q3 : ¬ ((1 : Int) + (p : Int) ≤ (p : Int)) := by omega
      have q4 : ¬ ((p : Int) < 0) := by omega
      have q5 : IntKind.i64.wrap (p : Int) = (p : Int) := IntWalk.i64_in _ (by have := steps_le k i; omega)
      subst hl1
      clear hyes hno syes sno hl hs hd hst h1 hp hq hcell hdq hd32 hto
      go_enter Tryd.func23, Tryd.ntmps23
      go_wp2_with fail
      refine (refSplit_in n _ (by omega) hn).mono ?_
      rintro e w1 ⟨rfl, rfl⟩
      rw [← HK.out]
      go_wp2_with fail
      refine regB_begin (w.heap.size) (by kernel_rfl) ?_
      change wpAnyH _ _ _ _ _ 13 #[false, false, false, false, false, false, false, false, false, false, false, false, false] _ _
      refine regB_take (i := 0) (d := some 22) (v := (.string leaf)) rfl rfl (by kernel_rfl) (by kernel_rfl) (by kernel_rfl) (fun _ _ _ h => h) (by rfl) (by intro w' hSw; go_simp) ?_
      try simp only [Act.put, List.setIfInBounds_toArray, List.set_cons_zero, List.set_cons_succ]
      refine regB_take (i := 1) (d := some 23) (v := (.int .i64 (i : Int))) rfl rfl (by kernel_rfl) (by kernel_rfl) (by kernel_rfl) (fun _ _ _ h => h) (by rfl) (by intro w' hSw; go_simp) ?_
      try simp only [Act.put, List.setIfInBounds_toArray, List.set_cons_zero, List.set_cons_succ]
      refine regB_take (i := 2) (d := some 24) (v := (.int .i64 (k : Int))) rfl rfl (by kernel_rfl) (by kernel_rfl) (by kernel_rfl) (fun _ _ _ h => h) (by rfl) (by intro w' hSw; go_simp) ?_
      try simp only [Act.put, List.setIfInBounds_toArray, List.set_cons_zero, List.set_cons_succ]
      refine regB_take (i := 3) (d := some 25) (v := (.slice (some ⟨b, o, none⟩) (1 + p) c)) rfl rfl (by kernel_rfl) (by kernel_rfl) (by kernel_rfl) (fun _ _ _ h => h) (by rfl) (by intro w' hSw; go_simp) ?_
      try simp only [Act.put, List.setIfInBounds_toArray, List.set_cons_zero, List.set_cons_succ]
      refine regB_take (i := 4) (d := some 26) (v := (.int .i64 (p : Int))) rfl rfl (by kernel_rfl) (by kernel_rfl) (by kernel_rfl) (fun _ _ _ h => h) (by rfl) (by intro w' hSw; go_simp) ?_
      try simp only [Act.put, List.setIfInBounds_toArray, List.set_cons_zero, List.set_cons_succ]
      refine regB_take (i := 5) (d := some 27) (v := (.slice (some ⟨b, o, none⟩) p c)) rfl rfl (by kernel_rfl) (by kernel_rfl) (by kernel_rfl) (fun _ _ _ h => h) (by rfl) (by intro w' hSw; have h9 := HTO.out w'; go_simp) ?_
      try simp only [Act.put, List.setIfInBounds_toArray, List.set_cons_zero, List.set_cons_succ]
      refine regB_take (i := 7) (d := some 29) (v := (.slice (some ⟨b, o, none⟩) (1 + p) c)) rfl rfl (by kernel_rfl) (by kernel_rfl) (by kernel_rfl) (fun _ _ _ h => h) (by rfl) (by intro w' hSw; go_simp) ?_
      try simp only [Act.put, List.setIfInBounds_toArray, List.set_cons_zero, List.set_cons_succ]
      refine regB_take (i := 8) (d := some 30) (v := (.int .i64 (p : Int))) rfl rfl (by kernel_rfl) (by kernel_rfl) (by kernel_rfl) (fun _ _ _ h => h) (by rfl) (by intro w' hSw; go_simp) ?_
      try simp only [Act.put, List.setIfInBounds_toArray, List.set_cons_zero, List.set_cons_succ]
      refine regB_take (i := 9) (d := some 31) (v := (.pointer (some ⟨b, o + p, none⟩))) rfl rfl (by kernel_rfl) (by kernel_rfl) (by kernel_rfl) (fun _ _ _ h => h) (by rfl) (by intro w' hSw; go_simp) ?_
      try simp only [Act.put, List.setIfInBounds_toArray, List.set_cons_zero, List.set_cons_succ]
      refine regB_take (i := 10) (d := some 32) (v := (.string d)) rfl rfl (by kernel_rfl) (by kernel_rfl) (by kernel_rfl) (fun _ _ _ h => h) (by rfl) (by intro w' hSw; have h9 := HCELL.out w' (b0.trans hSw); go_simp) ?_
      try simp only [Act.put, List.setIfInBounds_toArray, List.set_cons_zero, List.set_cons_succ]
      refine regB_call (i := 6) rfl (by kernel_rfl) (by rfl) fun K hK => ?_
      go_simp
      refine (ih leaf i k (some ⟨b, o, none⟩) p c q0 (by omega) _ H1.out HQ.out (hsq.below b0) HDQ.out (by omega) (by omega) hi HP.out).mono ?_
      rintro e w2 ⟨rfl, hb2⟩
      have b2 := b0.trans (hb2.mono b0.size)
      refine hK.out _ _ (hb2.mono b0.size) ?_
      clear hK K
      try simp only [List.setIfInBounds_toArray, List.set_cons_zero, List.set_cons_succ]
      refine regB_call (i := 11) rfl (by kernel_rfl) (by rfl) fun K hK => ?_
      go_simp
      refine (refNode_nd (climb nd ed leaf i k q0) d _ (by rw [ZC.out, HD32.out]; omega)).mono ?_
      rintro e w3 ⟨rfl, hb3⟩
      have b3 := b2.trans (hb3.mono b2.size)
      refine hK.out _ _ (hb3.mono b2.size) ?_
      clear hK K
      try simp only [List.setIfInBounds_toArray, List.set_cons_zero, List.set_cons_succ]
      refine regB_take (i := 12) (d := some 8) (v := (.string (nd (climb nd ed leaf i k q0) d))) rfl rfl (by kernel_rfl) (by kernel_rfl) (by kernel_rfl) (fun _ _ _ h => h) (by rfl) (by intro w' hSw; go_simp) ?_
      try simp only [Act.put, List.setIfInBounds_toArray, List.set_cons_zero, List.set_cons_succ]
      refine wpAnyH_done (by kernel_rfl) ?_ _
      go_wp2_with fail
      go_ret
      exact ⟨by rw [HCL.out]; rfl, b3⟩

    · obtain ⟨p, hp⟩ : ∃ p, p = steps (i - k) (n - k) := ⟨_, rfl⟩
      have hl1 : l = 1 + p := by rw [hst, sno hik, hp]
      obtain ⟨q0, d, b, o, rfl, hq, rfl, hblt, hcell, hsq, hdq, hd32, hto⟩ := path_parts hl hs hlc hl1 hd
      have HCL := Lib.hid (hno q0 d hik)
      obtain ⟨r, hr⟩ : ∃ r, i - k = r := ⟨_, rfl⟩
      obtain ⟨z, hz⟩ : ∃ z, n - k = z := ⟨_, rfl⟩
      rw [hr, hz] at HCL hp
      have HQ := Lib.hid hq
      have HCELL := Lib.hid hcell
      have HDQ := Lib.hid hdq
      have HD32 := Lib.hid hd32
      have HTO := Lib.hid hto
      have ZC := Lib.hid (climb_size z leaf r z q0 (Nat.le_refl _) h1)
      have HP := Lib.hid hp
      have k5 : ¬ (i : Int) < (k : Int) := by omega
      have q1 : (1 : Int) + (p : Int) - 1 = (p : Int) := by omega
      have q3 : ¬ ((1 : Int) + (p : Int) ≤ (p : Int)) := by omega
      have q4 : ¬ ((p : Int) < 0) := by omega
      have q5 : IntKind.i64.wrap (p : Int) = (p : Int) := IntWalk.i64_in _ (by have := steps_le z r; omega)
      have k6 : (i : Int) - (k : Int) = (r : Int) := by omega
      have k7 : (n : Int) - (k : Int) = (z : Int) := by omega
      have k8 : IntKind.i64.wrap (r : Int) = (r : Int) := IntWalk.i64_in _ (by omega)
      have k9 : IntKind.i64.wrap (z : Int) = (z : Int) := IntWalk.i64_in _ (by omega)
      subst hl1
      clear hyes hno syes sno hl hs hd hst h1 hp hq hcell hdq hd32 hto
      go_enter Tryd.func23, Tryd.ntmps23
      go_wp2_with fail
      refine (refSplit_in n _ (by omega) hn).mono ?_
      rintro e w1 ⟨rfl, rfl⟩
      rw [← HK.out]
      go_wp2_with fail
      refine regB_begin (w.heap.size) (by kernel_rfl) ?_
      change wpAnyH _ _ _ _ _ 17 #[false, false, false, false, false, false, false, false, false, false, false, false, false, false, false, false, false] _ _
      refine regB_take (i := 0) (d := some 34) (v := (.slice (some ⟨b, o, none⟩) (1 + p) c)) rfl rfl (by kernel_rfl) (by kernel_rfl) (by kernel_rfl) (fun _ _ _ h => h) (by rfl) (by intro w' hSw; go_simp) ?_
      try simp only [Act.put, List.setIfInBounds_toArray, List.set_cons_zero, List.set_cons_succ]
      refine regB_take (i := 1) (d := some 35) (v := (.int .i64 (p : Int))) rfl rfl (by kernel_rfl) (by kernel_rfl) (by kernel_rfl) (fun _ _ _ h => h) (by rfl) (by intro w' hSw; go_simp) ?_
      try simp only [Act.put, List.setIfInBounds_toArray, List.set_cons_zero, List.set_cons_succ]
      refine regB_take (i := 2) (d := some 36) (v := (.pointer (some ⟨b, o + p, none⟩))) rfl rfl (by kernel_rfl) (by kernel_rfl) (by kernel_rfl) (fun _ _ _ h => h) (by rfl) (by intro w' hSw; go_simp) ?_
      try simp only [Act.put, List.setIfInBounds_toArray, List.set_cons_zero, List.set_cons_succ]
      refine regB_take (i := 3) (d := some 37) (v := (.string d)) rfl rfl (by kernel_rfl) (by kernel_rfl) (by kernel_rfl) (fun _ _ _ h => h) (by rfl) (by intro w' hSw; have h9 := HCELL.out w' (b0.trans hSw); go_simp) ?_
      try simp only [Act.put, List.setIfInBounds_toArray, List.set_cons_zero, List.set_cons_succ]
      refine regB_take (i := 4) (d := some 38) (v := (.string leaf)) rfl rfl (by kernel_rfl) (by kernel_rfl) (by kernel_rfl) (fun _ _ _ h => h) (by rfl) (by intro w' hSw; go_simp) ?_
      try simp only [Act.put, List.setIfInBounds_toArray, List.set_cons_zero, List.set_cons_succ]
      refine regB_take (i := 5) (d := some 39) (v := (.int .i64 (i : Int))) rfl rfl (by kernel_rfl) (by kernel_rfl) (by kernel_rfl) (fun _ _ _ h => h) (by rfl) (by intro w' hSw; go_simp) ?_
      try simp only [Act.put, List.setIfInBounds_toArray, List.set_cons_zero, List.set_cons_succ]
      refine regB_take (i := 6) (d := some 40) (v := (.int .i64 (k : Int))) rfl rfl (by kernel_rfl) (by kernel_rfl) (by kernel_rfl) (fun _ _ _ h => h) (by rfl) (by intro w' hSw; go_simp) ?_
      try simp only [Act.put, List.setIfInBounds_toArray, List.set_cons_zero, List.set_cons_succ]
      refine regB_take (i := 7) (d := some 41) (v := (.int .i64 (r : Int))) rfl rfl (by kernel_rfl) (by kernel_rfl) (by kernel_rfl) (fun _ _ _ h => h) (by rfl) (by intro w' hSw; go_simp) ?_
      try simp only [Act.put, List.setIfInBounds_toArray, List.set_cons_zero, List.set_cons_succ]
      refine regB_take (i := 8) (d := some 42) (v := (.int .i64 (n : Int))) rfl rfl (by kernel_rfl) (by kernel_rfl) (by kernel_rfl) (fun _ _ _ h => h) (by rfl) (by intro w' hSw; go_simp) ?_
      try simp only [Act.put, List.setIfInBounds_toArray, List.set_cons_zero, List.set_cons_succ]
      refine regB_take (i := 9) (d := some 43) (v := (.int .i64 (k : Int))) rfl rfl (by kernel_rfl) (by kernel_rfl) (by kernel_rfl) (fun _ _ _ h => h) (by rfl) (by intro w' hSw; go_simp) ?_
      try simp only [Act.put, List.setIfInBounds_toArray, List.set_cons_zero, List.set_cons_succ]
      refine regB_take (i := 10) (d := some 44) (v := (.int .i64 (z : Int))) rfl rfl (by kernel_rfl) (by kernel_rfl) (by kernel_rfl) (fun _ _ _ h => h) (by rfl) (by intro w' hSw; go_simp) ?_
      try simp only [Act.put, List.setIfInBounds_toArray, List.set_cons_zero, List.set_cons_succ]
      refine regB_take (i := 11) (d := some 45) (v := (.slice (some ⟨b, o, none⟩) (1 + p) c)) rfl rfl (by kernel_rfl) (by kernel_rfl) (by kernel_rfl) (fun _ _ _ h => h) (by rfl) (by intro w' hSw; go_simp) ?_
      try simp only [Act.put, List.setIfInBounds_toArray, List.set_cons_zero, List.set_cons_succ]
      refine regB_take (i := 12) (d := some 46) (v := (.int .i64 (p : Int))) rfl rfl (by kernel_rfl) (by kernel_rfl) (by kernel_rfl) (fun _ _ _ h => h) (by rfl) (by intro w' hSw; go_simp) ?_
      try simp only [Act.put, List.setIfInBounds_toArray, List.set_cons_zero, List.set_cons_succ]
      refine regB_take (i := 13) (d := some 47) (v := (.slice (some ⟨b, o, none⟩) p c)) rfl rfl (by kernel_rfl) (by kernel_rfl) (by kernel_rfl) (fun _ _ _ h => h) (by rfl) (by intro w' hSw; have h9 := HTO.out w'; go_simp) ?_
      try simp only [Act.put, List.setIfInBounds_toArray, List.set_cons_zero, List.set_cons_succ]
      refine regB_call (i := 14) rfl (by kernel_rfl) (by rfl) fun K hK => ?_
      go_simp
      refine (ih leaf r z (some ⟨b, o, none⟩) p c q0 (by omega) _ H1.out HQ.out (hsq.below b0) HDQ.out (by omega) (by omega) (by omega) HP.out).mono ?_
      rintro e w2 ⟨rfl, hb2⟩
      have b2 := b0.trans (hb2.mono b0.size)
      refine hK.out _ _ (hb2.mono b0.size) ?_
      clear hK K
      try simp only [List.setIfInBounds_toArray, List.set_cons_zero, List.set_cons_succ]
      refine regB_call (i := 15) rfl (by kernel_rfl) (by rfl) fun K hK => ?_
      go_simp
      refine (refNode_nd d (climb nd ed leaf r z q0) _ (by rw [ZC.out, HD32.out]; omega)).mono ?_
      rintro e w3 ⟨rfl, hb3⟩
      have b3 := b2.trans (hb3.mono b2.size)
      refine hK.out _ _ (hb3.mono b2.size) ?_
      clear hK K
      try simp only [List.setIfInBounds_toArray, List.set_cons_zero, List.set_cons_succ]
      refine regB_take (i := 16) (d := some 8) (v := (.string (nd d (climb nd ed leaf r z q0)))) rfl rfl (by kernel_rfl) (by kernel_rfl) (by kernel_rfl) (fun _ _ _ h => h) (by rfl) (by intro w' hSw; go_simp) ?_
      try simp only [Act.put, List.setIfInBounds_toArray, List.set_cons_zero, List.set_cons_succ]
      refine wpAnyH_done (by kernel_rfl) ?_ _
      go_wp2_with fail
      go_ret
      exact ⟨by rw [HCL.out]; rfl, b3⟩

end Go.Proofs.YtmebogaenbjmnaaDoor.TrW
