/- Texts of one proof, joined. -/
import Derived.Test.YtihkfomldbjpoaaDoorJ3
/- seal: Is. -/
namespace Go.Proofs.YtihkfomldbjpoaaDoor.SealW
open Go.RowKit
open ShaW Sha
set_option maxRecDepth 100000 in
set_option maxHeartbeats 2000000 in
theorem is_any (A : Option Addr) (n c : Nat) (xs : List UInt8) (B : Option Addr) (l d : Nat) (ys : List UInt8) (w : World) (hT : Tab w) (hn : xs.length = n) (hA : Sl w A (bcells xs)) (hl : ys.length = l) (hB : Sl w B (bcells ys))
    (hn40 : n ≤ 1000000000000) (hl40 : l ≤ 1000000000000) (hnc : n ≤ c) (hc : c ≤ 9223372036854775807) (hld : l ≤ d) (hd : d ≤ 9223372036854775807) :
    Calls Tryd.prog 28 #[.agg #[.slice A n c, .slice B l d]] w fun e w' => e = .returned (.bool (decide (xs ≠ ys ∧ sha xs = sha ys))) ∧ Below w.heap.size w w' := by
  have HN : Hid (xs.length = n) := hn
  have HL : Hid (ys.length = l) := hl
  have hpos := hT.pos
  have h0 : At (w.alloc (.cells #[.slice A n c, .slice B l d] 29)) w.heap.size 29 [.slice A n c, .slice B l d] := At.new_ w _ 29 _ rfl
  have b0 : Below w.heap.size w (w.alloc (.cells #[.slice A n c, .slice B l d] 29)).drew := ((Below.refl _ _).alloc (Nat.le_refl _) _).drew
  have hT1 : Tab (w.alloc (.cells #[.slice A n c, .slice B l d] 29)).drew := hT.below b0 hpos
  have hA1 := hA.below b0
  have hB1 := hB.below b0
  have HCA : Hid (∀ w', Below (w.alloc (.cells #[.slice A n c, .slice B l d] 29)).drew.heap.size (w.alloc (.cells #[.slice A n c, .slice B l d] 29)).drew w' → w'.cell? ⟨w.heap.size, 0, none⟩ = some (.slice A n c)) := fun w' hb => (((h0.drew).below hb h0.drew.lt).cell 0).trans rfl
  have HCB : Hid (∀ w', Below (w.alloc (.cells #[.slice A n c, .slice B l d] 29)).drew.heap.size (w.alloc (.cells #[.slice A n c, .slice B l d] 29)).drew w' → w'.cell? ⟨w.heap.size, 1, none⟩ = some (.slice B l d)) := fun w' hb => (((h0.drew).below hb h0.drew.lt).cell 1).trans rfl
  have bb1 := b0
  obtain ⟨S1, hS1⟩ : ∃ S : ByteArray, (⟨(sha xs).toArray⟩ : ByteArray) = S := ⟨_, rfl⟩
  obtain ⟨S2, hS2⟩ : ∃ S : ByteArray, (⟨(sha ys).toArray⟩ : ByteArray) = S := ⟨_, rfl⟩
  have HS1 : Hid ((⟨(sha xs).toArray⟩ : ByteArray) = S1) := hS1
  have HS2 : Hid ((⟨(sha ys).toArray⟩ : ByteArray) = S2) := hS2
  clear hn hl h0 b0 hS1 hS2
  by_cases hxy : xs = ys
  · have HEQ : Hid (decide (xs = ys) = true) := decide_eq_true hxy
    have HR : Hid (decide (xs ≠ ys ∧ sha xs = sha ys) = false) := decide_eq_false fun h => h.1 hxy
    clear hxy
    rw [HR.out]
    go_enter Tryd.func28, Tryd.ntmps28
    go_wp2_with fail
    refine reg_begin (by kernel_rfl) ?_
    change wpAnyH _ _ _ _ _ 16 #[false, false, false, false, false, false, false, false, false, false, false, false, false, false, false, false] _ _
    refine reg_take (i := 0) (d := some 3) (v := (.pointer (some ⟨w.heap.size, 0, none⟩))) rfl rfl (by kernel_rfl) (by kernel_rfl) (by kernel_rfl) (fun _ _ _ h => h) (by rfl) (by intro w' hSw; go_simp) ?_
    try simp only [Act.put, List.setIfInBounds_toArray, List.set_cons_zero, List.set_cons_succ]
    refine reg_take (i := 1) (d := some 4) (v := (.slice A n c)) rfl rfl (by kernel_rfl) (by kernel_rfl) (by kernel_rfl) (fun _ _ _ h => h) (by rfl) (by intro w' hSw; have h9 := HCA.out _ hSw; go_simp) ?_
    try simp only [Act.put, List.setIfInBounds_toArray, List.set_cons_zero, List.set_cons_succ]
    refine reg_take (i := 2) (d := some 5) (v := (.pointer (some ⟨w.heap.size, 1, none⟩))) rfl rfl (by kernel_rfl) (by kernel_rfl) (by kernel_rfl) (fun _ _ _ h => h) (by rfl) (by intro w' hSw; go_simp) ?_
    try simp only [Act.put, List.setIfInBounds_toArray, List.set_cons_zero, List.set_cons_succ]
    refine reg_take (i := 3) (d := some 6) (v := (.slice B l d)) rfl rfl (by kernel_rfl) (by kernel_rfl) (by kernel_rfl) (fun _ _ _ h => h) (by rfl) (by intro w' hSw; have h9 := HCB.out _ hSw; go_simp) ?_
    try simp only [Act.put, List.setIfInBounds_toArray, List.set_cons_zero, List.set_cons_succ]
    refine reg_call (i := 4) rfl (by kernel_rfl) (by rfl) fun K hK => ?_
    go_simp
    refine (equal_any A n c xs B l d ys _ HN.out hA1 HL.out hB1).mono ?_
    rintro e w2 ⟨rfl, rfl⟩
    refine hK.out _ _ (Below.refl _ _) ?_
    rw [HEQ.out]
    clear hK K
    try simp only [List.setIfInBounds_toArray, List.set_cons_zero, List.set_cons_succ]
    refine reg_take (i := 5) (d := some 8) (v := (.bool false)) rfl rfl (by kernel_rfl) (by kernel_rfl) (by kernel_rfl) (fun _ _ _ h => h) (by rfl) (by intro w' hSw; go_simp) ?_
    try simp only [Act.put, List.setIfInBounds_toArray, List.set_cons_zero, List.set_cons_succ]
    refine reg_take (i := 6) (d := some 9) (v := (.bool false)) rfl rfl (by kernel_rfl) (by kernel_rfl) (by kernel_rfl) (fun _ _ _ h => h) (by rfl) (by intro w' hSw; go_simp) ?_
    try simp only [Act.put, List.setIfInBounds_toArray, List.set_cons_zero, List.set_cons_succ]
    refine reg_skip (i := 7) (d := some 10) rfl rfl (by kernel_rfl) (by kernel_rfl) (by kernel_rfl) (fun _ _ _ h => h) (by rfl) ?_
    try simp only [Act.put, List.setIfInBounds_toArray, List.set_cons_zero, List.set_cons_succ]
    refine reg_skip (i := 8) (d := some 11) rfl rfl (by kernel_rfl) (by kernel_rfl) (by kernel_rfl) (fun _ _ _ h => h) (by rfl) ?_
    try simp only [Act.put, List.setIfInBounds_toArray, List.set_cons_zero, List.set_cons_succ]
    refine reg_skip (i := 9) (d := some 12) rfl rfl (by kernel_rfl) (by kernel_rfl) (by kernel_rfl) (fun _ _ _ h => h) (by rfl) ?_
    try simp only [Act.put, List.setIfInBounds_toArray, List.set_cons_zero, List.set_cons_succ]
    refine reg_skip (i := 10) (d := some 13) rfl rfl (by kernel_rfl) (by kernel_rfl) (by kernel_rfl) (fun _ _ _ h => h) (by rfl) ?_
    try simp only [Act.put, List.setIfInBounds_toArray, List.set_cons_zero, List.set_cons_succ]
    refine reg_skip (i := 11) (d := some 14) rfl rfl (by kernel_rfl) (by kernel_rfl) (by kernel_rfl) (fun _ _ _ h => h) (by rfl) ?_
    try simp only [Act.put, List.setIfInBounds_toArray, List.set_cons_zero, List.set_cons_succ]
    refine reg_skip (i := 12) (d := some 15) rfl rfl (by kernel_rfl) (by kernel_rfl) (by kernel_rfl) (fun _ _ _ h => h) (by rfl) ?_
    try simp only [Act.put, List.setIfInBounds_toArray, List.set_cons_zero, List.set_cons_succ]
    refine reg_skip (i := 13) (d := some 16) rfl rfl (by kernel_rfl) (by kernel_rfl) (by kernel_rfl) (fun _ _ _ h => h) (by rfl) ?_
    try simp only [Act.put, List.setIfInBounds_toArray, List.set_cons_zero, List.set_cons_succ]
    refine reg_take (i := 14) (d := some 17) (v := (.bool false)) rfl rfl (by kernel_rfl) (by kernel_rfl) (by kernel_rfl) (fun _ _ _ h => h) (by rfl) (by intro w' hSw; go_simp) ?_
    try simp only [Act.put, List.setIfInBounds_toArray, List.set_cons_zero, List.set_cons_succ]
    refine reg_take (i := 15) (d := some 2) (v := (.bool false)) rfl rfl (by kernel_rfl) (by kernel_rfl) (by kernel_rfl) (fun _ _ _ h => h) (by rfl) (by intro w' hSw; go_simp) ?_
    try simp only [Act.put, List.setIfInBounds_toArray, List.set_cons_zero, List.set_cons_succ]
    refine wpAnyH_done (by kernel_rfl) ?_ _
    go_simp
    go_wp2_with fail
    go_ret
    exact ⟨rfl, bb1⟩
  · have HEQ : Hid (decide (xs = ys) = false) := decide_eq_false hxy
    by_cases hs : sha xs = sha ys
    · have HR : Hid (decide (xs ≠ ys ∧ sha xs = sha ys) = true) := decide_eq_true ⟨hxy, hs⟩
      have q1 : (S1.toList == S2.toList) = true := beq_yes (by rw [← HS1.out, ← HS2.out, hs])
      clear hxy hs
      rw [HR.out]
      go_enter Tryd.func28, Tryd.ntmps28
      go_wp2_with fail
      refine reg_begin (by kernel_rfl) ?_
      change wpAnyH _ _ _ _ _ 16 #[false, false, false, false, false, false, false, false, false, false, false, false, false, false, false, false] _ _
      refine reg_take (i := 0) (d := some 3) (v := (.pointer (some ⟨w.heap.size, 0, none⟩))) rfl rfl (by kernel_rfl) (by kernel_rfl) (by kernel_rfl) (fun _ _ _ h => h) (by rfl) (by intro w' hSw; go_simp) ?_
      try simp only [Act.put, List.setIfInBounds_toArray, List.set_cons_zero, List.set_cons_succ]
      refine reg_take (i := 1) (d := some 4) (v := (.slice A n c)) rfl rfl (by kernel_rfl) (by kernel_rfl) (by kernel_rfl) (fun _ _ _ h => h) (by rfl) (by intro w' hSw; have h9 := HCA.out _ hSw; go_simp) ?_
      try simp only [Act.put, List.setIfInBounds_toArray, List.set_cons_zero, List.set_cons_succ]
      refine reg_take (i := 2) (d := some 5) (v := (.pointer (some ⟨w.heap.size, 1, none⟩))) rfl rfl (by kernel_rfl) (by kernel_rfl) (by kernel_rfl) (fun _ _ _ h => h) (by rfl) (by intro w' hSw; go_simp) ?_
      try simp only [Act.put, List.setIfInBounds_toArray, List.set_cons_zero, List.set_cons_succ]
      refine reg_take (i := 3) (d := some 6) (v := (.slice B l d)) rfl rfl (by kernel_rfl) (by kernel_rfl) (by kernel_rfl) (fun _ _ _ h => h) (by rfl) (by intro w' hSw; have h9 := HCB.out _ hSw; go_simp) ?_
      try simp only [Act.put, List.setIfInBounds_toArray, List.set_cons_zero, List.set_cons_succ]
      refine reg_call (i := 4) rfl (by kernel_rfl) (by rfl) fun K hK => ?_
      go_simp
      refine (equal_any A n c xs B l d ys _ HN.out hA1 HL.out hB1).mono ?_
      rintro e w2 ⟨rfl, rfl⟩
      refine hK.out _ _ (Below.refl _ _) ?_
      rw [HEQ.out]
      clear hK K
      try simp only [List.setIfInBounds_toArray, List.set_cons_zero, List.set_cons_succ]
      refine reg_take (i := 5) (d := some 8) (v := (.bool true)) rfl rfl (by kernel_rfl) (by kernel_rfl) (by kernel_rfl) (fun _ _ _ h => h) (by rfl) (by intro w' hSw; go_simp) ?_
      try simp only [Act.put, List.setIfInBounds_toArray, List.set_cons_zero, List.set_cons_succ]
      refine reg_take (i := 6) (d := some 9) (v := (.bool true)) rfl rfl (by kernel_rfl) (by kernel_rfl) (by kernel_rfl) (fun _ _ _ h => h) (by rfl) (by intro w' hSw; go_simp) ?_
      try simp only [Act.put, List.setIfInBounds_toArray, List.set_cons_zero, List.set_cons_succ]
      refine reg_take (i := 7) (d := some 10) (v := (.pointer (some ⟨w.heap.size, 0, none⟩))) rfl rfl (by kernel_rfl) (by kernel_rfl) (by kernel_rfl) (fun _ _ _ h => h) (by rfl) (by intro w' hSw; go_simp) ?_
      try simp only [Act.put, List.setIfInBounds_toArray, List.set_cons_zero, List.set_cons_succ]
      refine reg_take (i := 8) (d := some 11) (v := (.slice A n c)) rfl rfl (by kernel_rfl) (by kernel_rfl) (by kernel_rfl) (fun _ _ _ h => h) (by rfl) (by intro w' hSw; have h9 := HCA.out _ hSw; go_simp) ?_
      try simp only [Act.put, List.setIfInBounds_toArray, List.set_cons_zero, List.set_cons_succ]
      refine reg_take (i := 10) (d := some 13) (v := (.pointer (some ⟨w.heap.size, 1, none⟩))) rfl rfl (by kernel_rfl) (by kernel_rfl) (by kernel_rfl) (fun _ _ _ h => h) (by rfl) (by intro w' hSw; go_simp) ?_
      try simp only [Act.put, List.setIfInBounds_toArray, List.set_cons_zero, List.set_cons_succ]
      refine reg_take (i := 11) (d := some 14) (v := (.slice B l d)) rfl rfl (by kernel_rfl) (by kernel_rfl) (by kernel_rfl) (fun _ _ _ h => h) (by rfl) (by intro w' hSw; have h9 := HCB.out _ hSw; go_simp) ?_
      try simp only [Act.put, List.setIfInBounds_toArray, List.set_cons_zero, List.set_cons_succ]
      refine reg_call (i := 9) rfl (by kernel_rfl) (by rfl) fun K hK => ?_
      go_simp
      refine (sum_wide A n c xs _ hT1 HN.out hA1 (by omega) (by omega) (by omega)).mono ?_
      rintro e w3 ⟨rfl, hb3⟩
      refine hK.out _ _ hb3 ?_
      have hT3 := hT1.below hb3 hT1.pos
      have hB3 := hB1.below hb3
      have bb3 := bb1.trans (hb3.mono bb1.size)
      rw [HS1.out]
      clear hK K
      try simp only [List.setIfInBounds_toArray, List.set_cons_zero, List.set_cons_succ]
      refine reg_call (i := 12) rfl (by kernel_rfl) (by rfl) fun K hK => ?_
      go_simp
      refine (sum_wide B l d ys _ hT3 HL.out hB3 (by omega) (by omega) (by omega)).mono ?_
      rintro e w4 ⟨rfl, hb4⟩
      refine hK.out _ _ hb4 ?_
      have bb4 := bb3.trans (hb4.mono bb3.size)
      rw [HS2.out]
      clear hK K
      try simp only [List.setIfInBounds_toArray, List.set_cons_zero, List.set_cons_succ]
      refine reg_take (i := 13) (d := some 16) (v := (.bool true)) rfl rfl (by kernel_rfl) (by kernel_rfl) (by kernel_rfl) (fun _ _ _ h => h) (by rfl) (by intro w' hSw; go_simp) ?_
      try simp only [Act.put, List.setIfInBounds_toArray, List.set_cons_zero, List.set_cons_succ]
      refine reg_take (i := 14) (d := some 17) (v := (.bool true)) rfl rfl (by kernel_rfl) (by kernel_rfl) (by kernel_rfl) (fun _ _ _ h => h) (by rfl) (by intro w' hSw; go_simp) ?_
      try simp only [Act.put, List.setIfInBounds_toArray, List.set_cons_zero, List.set_cons_succ]
      refine reg_take (i := 15) (d := some 2) (v := (.bool true)) rfl rfl (by kernel_rfl) (by kernel_rfl) (by kernel_rfl) (fun _ _ _ h => h) (by rfl) (by intro w' hSw; go_simp) ?_
      try simp only [Act.put, List.setIfInBounds_toArray, List.set_cons_zero, List.set_cons_succ]
      refine wpAnyH_done (by kernel_rfl) ?_ _
      go_simp
      go_wp2_with fail
      go_ret
      exact ⟨rfl, bb4⟩
    · have HR : Hid (decide (xs ≠ ys ∧ sha xs = sha ys) = false) := decide_eq_false fun h => hs h.2
      have q1 : (S1.toList == S2.toList) = false := beq_no (by rw [← HS1.out, ← HS2.out]; exact fun h => hs (mk_inj.1 h))
      clear hxy hs
      rw [HR.out]
      go_enter Tryd.func28, Tryd.ntmps28
      go_wp2_with fail
      refine reg_begin (by kernel_rfl) ?_
      change wpAnyH _ _ _ _ _ 16 #[false, false, false, false, false, false, false, false, false, false, false, false, false, false, false, false] _ _
      refine reg_take (i := 0) (d := some 3) (v := (.pointer (some ⟨w.heap.size, 0, none⟩))) rfl rfl (by kernel_rfl) (by kernel_rfl) (by kernel_rfl) (fun _ _ _ h => h) (by rfl) (by intro w' hSw; go_simp) ?_
      try simp only [Act.put, List.setIfInBounds_toArray, List.set_cons_zero, List.set_cons_succ]
      refine reg_take (i := 1) (d := some 4) (v := (.slice A n c)) rfl rfl (by kernel_rfl) (by kernel_rfl) (by kernel_rfl) (fun _ _ _ h => h) (by rfl) (by intro w' hSw; have h9 := HCA.out _ hSw; go_simp) ?_
      try simp only [Act.put, List.setIfInBounds_toArray, List.set_cons_zero, List.set_cons_succ]
      refine reg_take (i := 2) (d := some 5) (v := (.pointer (some ⟨w.heap.size, 1, none⟩))) rfl rfl (by kernel_rfl) (by kernel_rfl) (by kernel_rfl) (fun _ _ _ h => h) (by rfl) (by intro w' hSw; go_simp) ?_
      try simp only [Act.put, List.setIfInBounds_toArray, List.set_cons_zero, List.set_cons_succ]
      refine reg_take (i := 3) (d := some 6) (v := (.slice B l d)) rfl rfl (by kernel_rfl) (by kernel_rfl) (by kernel_rfl) (fun _ _ _ h => h) (by rfl) (by intro w' hSw; have h9 := HCB.out _ hSw; go_simp) ?_
      try simp only [Act.put, List.setIfInBounds_toArray, List.set_cons_zero, List.set_cons_succ]
      refine reg_call (i := 4) rfl (by kernel_rfl) (by rfl) fun K hK => ?_
      go_simp
      refine (equal_any A n c xs B l d ys _ HN.out hA1 HL.out hB1).mono ?_
      rintro e w2 ⟨rfl, rfl⟩
      refine hK.out _ _ (Below.refl _ _) ?_
      rw [HEQ.out]
      clear hK K
      try simp only [List.setIfInBounds_toArray, List.set_cons_zero, List.set_cons_succ]
      refine reg_take (i := 5) (d := some 8) (v := (.bool true)) rfl rfl (by kernel_rfl) (by kernel_rfl) (by kernel_rfl) (fun _ _ _ h => h) (by rfl) (by intro w' hSw; go_simp) ?_
      try simp only [Act.put, List.setIfInBounds_toArray, List.set_cons_zero, List.set_cons_succ]
      refine reg_take (i := 6) (d := some 9) (v := (.bool true)) rfl rfl (by kernel_rfl) (by kernel_rfl) (by kernel_rfl) (fun _ _ _ h => h) (by rfl) (by intro w' hSw; go_simp) ?_
      try simp only [Act.put, List.setIfInBounds_toArray, List.set_cons_zero, List.set_cons_succ]
      refine reg_take (i := 7) (d := some 10) (v := (.pointer (some ⟨w.heap.size, 0, none⟩))) rfl rfl (by kernel_rfl) (by kernel_rfl) (by kernel_rfl) (fun _ _ _ h => h) (by rfl) (by intro w' hSw; go_simp) ?_
      try simp only [Act.put, List.setIfInBounds_toArray, List.set_cons_zero, List.set_cons_succ]
      refine reg_take (i := 8) (d := some 11) (v := (.slice A n c)) rfl rfl (by kernel_rfl) (by kernel_rfl) (by kernel_rfl) (fun _ _ _ h => h) (by rfl) (by intro w' hSw; have h9 := HCA.out _ hSw; go_simp) ?_
      try simp only [Act.put, List.setIfInBounds_toArray, List.set_cons_zero, List.set_cons_succ]
      refine reg_take (i := 10) (d := some 13) (v := (.pointer (some ⟨w.heap.size, 1, none⟩))) rfl rfl (by kernel_rfl) (by kernel_rfl) (by kernel_rfl) (fun _ _ _ h => h) (by rfl) (by intro w' hSw; go_simp) ?_
      try simp only [Act.put, List.setIfInBounds_toArray, List.set_cons_zero, List.set_cons_succ]
      refine reg_take (i := 11) (d := some 14) (v := (.slice B l d)) rfl rfl (by kernel_rfl) (by kernel_rfl) (by kernel_rfl) (fun _ _ _ h => h) (by rfl) (by intro w' hSw; have h9 := HCB.out _ hSw; go_simp) ?_
      try simp only [Act.put, List.setIfInBounds_toArray, List.set_cons_zero, List.set_cons_succ]
      refine reg_call (i := 9) rfl (by kernel_rfl) (by rfl) fun K hK => ?_
      go_simp
      refine (sum_wide A n c xs _ hT1 HN.out hA1 (by omega) (by omega) (by omega)).mono ?_
      rintro e w3 ⟨rfl, hb3⟩
      refine hK.out _ _ hb3 ?_
      have hT3 := hT1.below hb3 hT1.pos
      have hB3 := hB1.below hb3
      have bb3 := bb1.trans (hb3.mono bb1.size)
      rw [HS1.out]
      clear hK K
      try simp only [List.setIfInBounds_toArray, List.set_cons_zero, List.set_cons_succ]
      refine reg_call (i := 12) rfl (by kernel_rfl) (by rfl) fun K hK => ?_
      go_simp
      refine (sum_wide B l d ys _ hT3 HL.out hB3 (by omega) (by omega) (by omega)).mono ?_
      rintro e w4 ⟨rfl, hb4⟩
      refine hK.out _ _ hb4 ?_
      have bb4 := bb3.trans (hb4.mono bb3.size)
      rw [HS2.out]
      clear hK K
      try simp only [List.setIfInBounds_toArray, List.set_cons_zero, List.set_cons_succ]
      refine reg_take (i := 13) (d := some 16) (v := (.bool false)) rfl rfl (by kernel_rfl) (by kernel_rfl) (by kernel_rfl) (fun _ _ _ h => h) (by rfl) (by intro w' hSw; go_simp) ?_
      try simp only [Act.put, List.setIfInBounds_toArray, List.set_cons_zero, List.set_cons_succ]
      refine reg_take (i := 14) (d := some 17) (v := (.bool false)) rfl rfl (by kernel_rfl) (by kernel_rfl) (by kernel_rfl) (fun _ _ _ h => h) (by rfl) (by intro w' hSw; go_simp) ?_
      try simp only [Act.put, List.setIfInBounds_toArray, List.set_cons_zero, List.set_cons_succ]
      refine reg_take (i := 15) (d := some 2) (v := (.bool false)) rfl rfl (by kernel_rfl) (by kernel_rfl) (by kernel_rfl) (fun _ _ _ h => h) (by rfl) (by intro w' hSw; go_simp) ?_
      try simp only [Act.put, List.setIfInBounds_toArray, List.set_cons_zero, List.set_cons_succ]
      refine wpAnyH_done (by kernel_rfl) ?_ _
      go_simp
      go_wp2_with fail
      go_ret
      exact ⟨rfl, bb4⟩
end Go.Proofs.YtihkfomldbjpoaaDoor.SealW

/- bytes: Clone. -/
namespace Go.Proofs.YtihkfomldbjpoaaDoor.SealW
open Go.RowKit
theorem clone_any (A : Option Addr) (n c : Nat) (xs : List UInt8) (w : World) (hn : xs.length = n) (hA : Sl w A (bcells xs)) (h47 : n ≤ 140737488355328) :
    Calls Tryd.prog 94 #[.slice A n c] w fun e w' => ∃ A' c', e = .returned (.slice A' n c') ∧ Sl w' A' (bcells xs) ∧ n ≤ c' ∧ c' ≤ maxLen ∧ (∀ b o s, A' = some ⟨b, o, s⟩ → w.heap.size ≤ b) ∧ Below w.heap.size w w' := by
  rcases A with _ | ad
  · have hm : xs = [] := by
      rcases Classical.em (xs = []) with h' | h'
      · exact h'
      · obtain ⟨b, o, e, _⟩ := hA (by simpa [bcells] using h'); cases e
    subst hm
    obtain rfl : n = 0 := by simpa using hn.symm
    have en := fun w : World => Lib.run_eql_slice_nil (P := Tryd.prog) w 23 5 none 0 c 0 0 underBytes
    go_enter Tryd.func94, Tryd.ntmps94
    go_wp2_with fail
    go_ret
    exact ⟨none, 0, rfl, Sl.nil, Nat.le_refl _, by simp [maxLen], (fun _ _ _ h => by cases h), Below.refl _ _⟩
  · have HN : Hid (xs.length = n) := hn
    have h0 : Below w.heap.size w (w.alloc (.cells #[] 5)) := (Below.refl _ _).alloc (Nat.le_refl _) _
    have o0 := own_lit w w.heap.size 5 [] 0 rfl (Nat.le_refl _) (by omega)
    clear hn
    go_enter Tryd.func94, Tryd.ntmps94
    have en := fun w : World => Lib.run_eql_slice_nil (P := Tryd.prog) w 23 5 (some ad) n c 0 0 underBytes
    go_wp2_with (refine wpList_app rfl (.tmp 5) (.tmp 6) 23 rfl bytesTy w.heap.size (.slice (some ⟨w.heap.size, 0, none⟩) 0 0) 0 [] rfl o0 (some ad) n c (bcells xs) rfl (by rw [bcells_len]; exact HN.out) (hA.below h0) (bcells_one _) (by omega) h0.size ?_; intro v1 w1 hown1 hgr1 hbl1)
    rw [Nat.zero_add, List.nil_append] at hown1
    have hb1 := below_app h0 hgr1 o0 (Nat.le_refl _) h0.size
    obtain ⟨A', c', rfl, hsl, hc', _, hm', ha'⟩ := own_slice hown1
    go_ret
    exact ⟨A', c', rfl, hsl, hc', hm', ha', hb1⟩
end Go.Proofs.YtihkfomldbjpoaaDoor.SealW

/- seal: Between. -/
namespace Go.Proofs.YtihkfomldbjpoaaDoor.SealW
open Go.RowKit
open ShaW Sha
theorem results_cellA2 {P : Program} {fn : Func} {p u : Tmp} {ty : TypeId} (h : fn.results = #[.cell p ty, .tmp u]) {n : Nat} (T : AggTy P ty n) (tmps : Array Value) (w : World) (g : Nat) (t : TypeId) (cs : List Value)
    (hp : tmps.getD p undef = .pointer (some ⟨g, 0, none⟩)) (hg : At w g t cs) (hl : cs.length = n) (v : Value) (hv : tmps.getD u undef = v) : (results fn tmps).run P w = .ok (.tuple #[.agg cs.toArray, v]) w := by
  rw [results_cell_tmp h, hp, hv]
  simp [asAddr, run_loadA T w g 0 t cs hg cs hl (all_at cs)]
theorem clashTy : AggTy Tryd.prog 29 2 := ⟨by kernel_rfl, by kernel_rfl⟩
theorem slices_one {A B : Option Addr} {n c l d : Nat} : ∀ v ∈ ([.slice A n c, .slice B l d] : List Value), v.oneCell' = true := by
  intro v hv
  simp at hv
  rcases hv with rfl | rfl <;> rfl
set_option maxRecDepth 100000 in
set_option maxHeartbeats 2000000 in
theorem between_no (A : Option Addr) (n c : Nat) (xs : List UInt8) (B : Option Addr) (l d : Nat) (ys : List UInt8) (w : World) (hT : Tab w) (hn : xs.length = n) (hA : Sl w A (bcells xs)) (hl : ys.length = l) (hB : Sl w B (bcells ys))
    (hn40 : n ≤ 1000000000000) (hl40 : l ≤ 1000000000000) (hnc : n ≤ c) (hc : c ≤ 9223372036854775807) (hld : l ≤ d) (hd : d ≤ 9223372036854775807) (hno : ¬ (xs ≠ ys ∧ sha xs = sha ys)) :
    Calls Tryd.prog 76 #[.slice A n c, .slice B l d] w fun e w' => e = .returned (.tuple #[.agg #[.slice none 0 0, .slice none 0 0], .bool false]) ∧ Below w.heap.size w w' := by
  have HR : Hid (decide (xs ≠ ys ∧ sha xs = sha ys) = false) := decide_eq_false hno
  have HN : Hid (xs.length = n) := hn
  have HL : Hid (ys.length = l) := hl
  have hpos := hT.pos
  have h0 : At (w.alloc (.cells #[.slice none 0 0, .slice none 0 0] 29)) w.heap.size 29 [.slice none 0 0, .slice none 0 0] := At.new_ w _ 29 _ rfl
  have b0 : Below w.heap.size w (w.alloc (.cells #[.slice none 0 0, .slice none 0 0] 29)) := (Below.refl _ _).alloc (Nat.le_refl _) _
  have hT1 := hT.below b0 hpos
  have hA1 := hA.below b0
  have hB1 := hB.below b0
  clear hn hl hno hA hB
  go_enter Tryd.func76, Tryd.ntmps76
  go_wp2_with fail
  refine (is_any A n c xs B l d ys _ hT1 HN.out hA1 HL.out hB1 hn40 hl40 hnc hc hld hd).mono ?_
  rintro e w1 ⟨rfl, hb1⟩
  rw [HR.out]
  have h1 := h0.below hb1 h0.lt
  have b1 := b0.trans (hb1.mono b0.size)
  clear h0 b0 hT1 hA1 hB1
  go_wp2_with (refine wpList_storeA rfl rfl 29 (.tmp 4) (.tmp 11) rfl clashTy w.heap.size 0 rfl [.slice none 0 0, .slice none 0 0] rfl 29 _ h1 rfl (by simp) slices_one ?_)
  exact bodyPost_ret (v := .tuple #[.agg #[.slice none 0 0, .slice none 0 0], .bool false]) (results_cellA2 rfl clashTy _ _ w.heap.size 29 [.slice none 0 0, .slice none 0 0] rfl h1.setRow rfl _ rfl) rfl ⟨rfl, below_setRow b1 (Nat.le_refl _) _⟩
set_option maxRecDepth 100000 in
set_option maxHeartbeats 2000000 in
theorem between_yes (A : Option Addr) (n c : Nat) (xs : List UInt8) (B : Option Addr) (l d : Nat) (ys : List UInt8) (w : World) (hT : Tab w) (hn : xs.length = n) (hA : Sl w A (bcells xs)) (hl : ys.length = l) (hB : Sl w B (bcells ys))
    (hn40 : n ≤ 1000000000000) (hl40 : l ≤ 1000000000000) (hnc : n ≤ c) (hc : c ≤ 9223372036854775807) (hld : l ≤ d) (hd : d ≤ 9223372036854775807) (hyes : xs ≠ ys ∧ sha xs = sha ys) :
    Calls Tryd.prog 76 #[.slice A n c, .slice B l d] w fun e w' => ∃ A' c' B' d', e = .returned (.tuple #[.agg #[.slice A' n c', .slice B' l d'], .bool true]) ∧ Sl w' A' (bcells xs) ∧ n ≤ c' ∧ c' ≤ maxLen ∧ Sl w' B' (bcells ys) ∧ l ≤ d' ∧ d' ≤ maxLen ∧ Below w.heap.size w w' := by
  have HR : Hid (decide (xs ≠ ys ∧ sha xs = sha ys) = true) := decide_eq_true hyes
  have HN : Hid (xs.length = n) := hn
  have HL : Hid (ys.length = l) := hl
  have hpos := hT.pos
  have h0 : At (w.alloc (.cells #[.slice none 0 0, .slice none 0 0] 29)) w.heap.size 29 [.slice none 0 0, .slice none 0 0] := At.new_ w _ 29 _ rfl
  have b0 : Below w.heap.size w (w.alloc (.cells #[.slice none 0 0, .slice none 0 0] 29)) := (Below.refl _ _).alloc (Nat.le_refl _) _
  have hT1 := hT.below b0 hpos
  have hA1 := hA.below b0
  have hB1 := hB.below b0
  clear hn hl hyes hA hB
  go_enter Tryd.func76, Tryd.ntmps76
  go_wp2_with fail
  refine (is_any A n c xs B l d ys _ hT1 HN.out hA1 HL.out hB1 hn40 hl40 hnc hc hld hd).mono ?_
  rintro e w1 ⟨rfl, hb1⟩
  rw [HR.out]
  have h1 := h0.below hb1 h0.lt
  have b1 := b0.trans (hb1.mono b0.size)
  have hA2 := hA1.below hb1
  have hB2 := hB1.below hb1
  have hw1 : w.heap.size < w1.heap.size := h1.lt
  clear h0 b0 hT1 hA1 hB1 hb1
  go_wp2_with fail
  refine (clone_any A n c xs _ HN.out hA2 (by omega)).mono ?_
  rintro e w2 ⟨A', c', rfl, hA', hnc', hcm', ha', hb2⟩
  have h2 := h1.below hb2 h1.lt
  have b2 := b1.trans (hb2.mono b1.size)
  have hB3 := hB2.below hb2
  have hw2 : w.heap.size < w2.heap.size := h2.lt
  clear h1 b1 hA2 hB2 hb2
  go_wp2_with fail
  refine (clone_any B l d ys _ HL.out hB3 (by omega)).mono ?_
  rintro e w3 ⟨B', d', rfl, hB', hld', hdm', hq', hb3⟩
  have h3 := h2.below hb3 h2.lt
  have b3 := b2.trans (hb3.mono b2.size)
  have hA4 := hA'.below hb3
  clear h2 b2 hB3 hb3 hA'
  go_wp2_with (refine wpList_storeA rfl rfl 29 (.tmp 4) (.tmp 16) rfl clashTy w.heap.size 0 rfl [.slice A' n c', .slice B' l d'] rfl 29 _ h3 rfl (by simp) slices_one ?_)
  have k1 := hA4.from_ (w' := w3.setRow w.heap.size (spl [Value.slice none 0 0, Value.slice none 0 0] 0 [Value.slice A' n c', Value.slice B' l d']).toArray) ha' fun b o hb => cell_setRow_ne _ _ _ _ _ (by omega)
  have k2 := hB'.from_ (w' := w3.setRow w.heap.size (spl [Value.slice none 0 0, Value.slice none 0 0] 0 [Value.slice A' n c', Value.slice B' l d']).toArray) hq' fun b o hb => cell_setRow_ne _ _ _ _ _ (by omega)
  exact bodyPost_ret (v := .tuple #[.agg #[.slice A' n c', .slice B' l d'], .bool true]) (results_cellA2 rfl clashTy _ _ w.heap.size 29 [.slice A' n c', .slice B' l d'] rfl h3.setRow rfl _ rfl) rfl ⟨A', c', B', d', rfl, k1, hnc', hcm', k2, hld', hdm', below_setRow b3 (Nat.le_refl _) _⟩
end Go.Proofs.YtihkfomldbjpoaaDoor.SealW

/- The statements' same. -/
namespace Go.Proofs.YtihkfomldbjpoaaDoor.ClW
open Go.RowKit TreeW ConsW TrW ClashW CoW
open ShaW Sha
/-- What is told of a clash: which two texts. -/
theorem TC.sized {base : Nat} {w : World} {o : Cl} {A : Option Addr} {n c : Nat} {B : Option Addr} {m d : Nat} {q : Bool} (hg : Good o) (h : TC base w o A n c B m d q) : n ≤ 1000000000000 ∧ m ≤ 1000000000000 := by
  obtain ⟨x, y, hxy, lx, ly, _⟩ := h.ex
  rcases hxy with h | ⟨_, rfl, rfl⟩
  · obtain ⟨_, h1, h2⟩ := hg _ h
    exact ⟨by rw [← lx]; exact h1, by rw [← ly]; exact h2⟩
  · simp at lx ly; omega
/-- Is told of a clash that it is one? -/
theorem isTold (base : Nat) (o : Cl) (hg : Good o) (A : Option Addr) (n c : Nat) (B : Option Addr) (m d : Nat) (w : World) (hT : Tab w) (h : TC base w o A n c B m d true) :
    Calls Tryd.prog 28 #[.agg #[.slice A n c, .slice B m d]] w fun e w' => e = .returned (.bool true) ∧ Below w.heap.size w w' := by
  obtain ⟨z1, z2⟩ := h.sized hg
  have hq := h.yes
  obtain ⟨x, y, hxy, lx, ly, sx, sy, a1, a2, a3, a4⟩ := h.ex
  have hd : decide (x ≠ y ∧ sha x = sha y) = true := by
    rcases hxy with h | ⟨h, _, _⟩
    · exact decide_eq_true (hg _ h).1
    · rw [h] at hq; cases hq
  have := SealW.is_any A n c x B m d y w hT lx sx ly sy z1 z2 a1 (by unfold maxLen at a2; omega) a3 (by unfold maxLen at a4; omega)
  rwa [hd] at this
set_option maxRecDepth 1000000 in
set_option maxHeartbeats 4000000 in
theorem same_any (base base2 : Nat) (o : Cl) (hg : Good o) (A : Option Addr) (n c : Nat) (B : Option Addr) (m d : Nat) (q : Bool) (A2 : Option Addr) (n2 c2 : Nat) (B2 : Option Addr) (m2 d2 : Nat) (q2 : Bool) (w : World) (hT : Tab w) (h1 : TC base w o A n c B m d q) (h2 : TC base2 w o A2 n2 c2 B2 m2 d2 q2) :
    Calls Tryd.prog 15 #[.agg #[.slice A n c, .slice B m d], .bool q, .agg #[.slice A2 n2 c2, .slice B2 m2 d2], .bool q2] w fun e w' => e = .returned (.bool true) ∧ Below w.heap.size w w' := by
  have hpos := hT.pos
  have hq : q2 = q := h2.yes.trans h1.yes.symm
  subst hq
  obtain ⟨x, y, hxy, lx, ly, sx, sy, a1⟩ := h1.ex
  obtain ⟨x2, y2, hxy2, lx2, ly2, sx2, sy2, a2⟩ := h2.ex
  obtain ⟨e1, e2⟩ : x2 = x ∧ y2 = y := by
    rcases hxy with h | ⟨h, rfl, rfl⟩ <;> rcases hxy2 with h' | ⟨h', rfl, rfl⟩
    · rw [h] at h'; cases h'; exact ⟨rfl, rfl⟩
    · rw [h] at h'; cases h'
    · rw [h] at h'; cases h'
    · exact ⟨rfl, rfl⟩
  subst e1 e2
  have k1 : At (w.alloc (.cells #[.slice A n c, .slice B m d] 29)) w.heap.size 29 [.slice A n c, .slice B m d] := At.new_ w _ 29 _ rfl
  have b1 : Below w.heap.size w (w.alloc (.cells #[.slice A n c, .slice B m d] 29)) := (Below.refl _ _).alloc (Nat.le_refl _) _
  obtain ⟨W1, hW1⟩ : ∃ W, W = w.alloc (.cells #[.slice A n c, .slice B m d] 29) := ⟨_, rfl⟩
  have z1 : W1.heap.size = w.heap.size + 1 := by rw [hW1]; simp
  rw [← hW1] at k1 b1
  have k2 : At (W1.alloc (.cells #[.slice A2 n2 c2, .slice B2 m2 d2] 33)) W1.heap.size 33 [.slice A2 n2 c2, .slice B2 m2 d2] := At.new_ W1 _ 33 _ rfl
  have b12 : Below W1.heap.size W1 (W1.alloc (.cells #[.slice A2 n2 c2, .slice B2 m2 d2] 33)) := (Below.refl _ _).alloc (Nat.le_refl _) _
  have b2 := b1.trans (b12.mono b1.size)
  have k12 := k1.below b12 k1.lt
  have t2 := hT.below b2 hpos
  have u1 := h1.below b2
  have f1 := k12.cell 0
  have f2 := k12.cell 1
  have f3 := k2.cell 0
  have f4 := k2.cell 1
  have v1 := run_str (P := Tryd.prog) _ 23 9 5 SealW.underBytes SealW.underU8 SealW.underStr A x2 n c lx (sx.below b2)
  have v2 := run_str (P := Tryd.prog) _ 23 9 5 SealW.underBytes SealW.underU8 SealW.underStr A2 x2 n2 c2 lx2 (sx2.below b2)
  have v3 := run_str (P := Tryd.prog) _ 23 9 5 SealW.underBytes SealW.underU8 SealW.underStr B y2 m d ly (sy.below b2)
  have v4 := run_str (P := Tryd.prog) _ 23 9 5 SealW.underBytes SealW.underU8 SealW.underStr B2 y2 m2 d2 ly2 (sy2.below b2)
  obtain ⟨X, hX⟩ : ∃ X : ByteArray, ⟨x2.toArray⟩ = X := ⟨_, rfl⟩
  obtain ⟨Y, hY⟩ : ∃ Y : ByteArray, ⟨y2.toArray⟩ = Y := ⟨_, rfl⟩
  rw [hX] at v1 v2
  rw [hY] at v3 v4
  have g1 := SealW.beq_yes (X := X) rfl
  have g2 := SealW.beq_yes (X := Y) rfl
  rw [z1] at f3 f4
  subst hW1
  clear hX hY lx ly lx2 ly2 sx sy sx2 sy2 hxy hxy2 a1 a2 h1 h2 k1 k2 k12 b1 b12 z1 hT hpos
  cases q2 with
  | false =>
    go_enter Tryd.func15, Tryd.ntmps15
    go_wp2_with fail
    go_ret
    exact ⟨rfl, b2⟩
  | true =>
    go_enter Tryd.func15, Tryd.ntmps15
    go_wp2_with fail
    refine (isTold base o hg A n c B m d _ t2 u1).mono ?_
    rintro e w3 ⟨rfl, hb3⟩
    go_wp2_with fail
    go_ret
    exact ⟨rfl, b2.trans (hb3.mono b2.size)⟩
end Go.Proofs.YtihkfomldbjpoaaDoor.ClW

/- clash: finders; what they find as long as their own memory is as it was. -/
namespace Go.Proofs.YtihkfomldbjpoaaDoor.ClW
open Go.RowKit TreeW ConsW TrW ClashW
open ShaW Sha
/-- All blocks but some are as they were. -/
structure Frm (S : Nat → Prop) (w w' : World) : Prop where
  os : w'.os = w.os
  tape : w'.tape = w.tape
  output : w'.output = w.output
  size : w.heap.size ≤ w'.heap.size
  block : ∀ k, k < w.heap.size → ¬ S k → w'.heap[k]? = w.heap[k]?
theorem Frm.of_below {S : Nat → Prop} {w w' : World} (h : Below w.heap.size w w') : Frm S w w' := ⟨h.os, h.tape, h.output, h.size, fun k hk _ => h.block k hk⟩
theorem Frm.refl (S : Nat → Prop) (w : World) : Frm S w w := .of_below (Below.refl _ _)
theorem Frm.trans {S : Nat → Prop} {a b c : World} (h : Frm S a b) (k : Frm S b c) : Frm S a c :=
  ⟨k.os.trans h.os, k.tape.trans h.tape, k.output.trans h.output, Nat.le_trans h.size k.size, fun i hi hn => (k.block i (Nat.lt_of_lt_of_le hi h.size) hn).trans (h.block i hi hn)⟩
theorem Frm.below {S : Nat → Prop} {B : Nat} {w w' : World} (h : Frm S w w') (hS : ∀ k, S k → B ≤ k) (hB : B ≤ w.heap.size) : Below B w w' :=
  ⟨h.os, h.tape, h.output, h.size, fun k hk => h.block k (Nat.lt_of_lt_of_le hk hB) fun hs => Nat.not_le_of_lt hk (hS k hs)⟩
theorem Frm.at_ {S : Nat → Prop} {w w' : World} {b : Nat} {t : TypeId} {cs : List Value} (h : Frm S w w') (ha : At w b t cs) (hn : ¬ S b) : At w' b t cs := (h.block b ha.lt hn).trans ha
theorem Frm.sl {S : Nat → Prop} {w w' : World} {A : Option Addr} {cs : List Value} (h : Frm S w w') (hs : Sl w A cs) (hn : ∀ b o s, A = some ⟨b, o, s⟩ → ¬ S b) : Sl w' A cs := fun hne => by
  rcases Nat.eq_zero_or_pos cs.length with h0 | h0
  · exact absurd (List.eq_nil_of_length_eq_zero h0) hne
  · obtain ⟨b, o, rfl, hlt, hc⟩ := hs.get h0
    exact ⟨b, o, rfl, fun j u hu => (World.cell?_of_block (w := w) (a := ⟨b, o + j, none⟩) (h.block b hlt (hn b o none rfl))).trans (hc j u hu)⟩
theorem Frm.grown {S : Nat → Prop} {w w' : World} {row : Option Nat} (h : w.grownBy w' row) (hS : ∀ k, row = some k → S k) : Frm S w w' :=
  ⟨h.os, h.tape, h.output, h.size, fun k hk hn => h.block k hk fun e => hn (hS k e.symm)⟩
theorem Frm.grow {S S' : Nat → Prop} {w w' : World} (h : Frm S w w') (hS : ∀ k, S k → S' k) : Frm S' w w' := ⟨h.os, h.tape, h.output, h.size, fun k hk hn => h.block k hk fun hs => hn (hS k hs)⟩
/-- A function value with two variables of its own. -/
def fv (N p q : Nat) : Value := .func (.func N) #[] #[.pointer (some ⟨p, 0, none⟩), .pointer (some ⟨q, 0, none⟩)]
/-- What is told, by a call. -/
def Tells (o : Cl) (w : World) (e : Ending) (w' : World) : Prop :=
  ∃ A' n' c' B' m' d' b, e = .returned (.tuple #[.agg #[.slice A' n' c', .slice B' m' d'], .bool b]) ∧ TC w.heap.size w' o A' n' c' B' m' d' b ∧ Below w.heap.size w w'
/-- A finder of o, whatever becomes of the blocks in S. -/
def Fd (S : Nat → Prop) (w : World) (v : Value) (o : Cl) : Prop :=
  ∃ N p q, v = fv N p q ∧ (∀ a w', (callFunc N a).run Tryd.prog w' = .ok (.enter N a) w') ∧ ∀ w', Frm S w w' → Calls Tryd.prog N #[.pointer (some ⟨p, 0, none⟩), .pointer (some ⟨q, 0, none⟩)] w' (Tells o w')
theorem Fd.frm {S S' : Nat → Prop} {w w2 : World} {v : Value} {o : Cl} (h : Fd S w v o) (hf : Frm S w w2) (hS : ∀ k, S' k → S k ∨ w.heap.size ≤ k) : Fd S' w2 v o := by
  obtain ⟨N, p, q, e, hc, hr⟩ := h
  refine ⟨N, p, q, e, hc, fun w' hw => hr w' ⟨hw.os.trans hf.os, hw.tape.trans hf.tape, hw.output.trans hf.output, Nat.le_trans hf.size hw.size, fun k hk hn => ?_⟩⟩
  refine (hw.block k (Nat.lt_of_lt_of_le hk hf.size) fun hs => ?_).trans (hf.block k hk hn)
  rcases hS k hs with h1 | h1
  · exact hn h1
  · omega
theorem Fd.below {S : Nat → Prop} {w w2 : World} {v : Value} {o : Cl} (h : Fd S w v o) (hb : Below w.heap.size w w2) : Fd S w2 v o := h.frm (.of_below hb) fun _ hs => .inl hs
theorem Fd.one {S : Nat → Prop} {w : World} {v : Value} {o : Cl} (h : Fd S w v o) : v.oneCell' = true := by
  obtain ⟨N, p, q, rfl, _⟩ := h; rfl
/-- A row of finders. -/
def Fds (S : Nat → Prop) (w : World) : List Value → List Cl → Prop
  | [], [] => True
  | v :: vs, o :: os => Fd S w v o ∧ Fds S w vs os
  | _, _ => False
theorem Fds.nil (S : Nat → Prop) (w : World) : Fds S w [] [] := trivial
theorem Fds.cons {S : Nat → Prop} {w : World} {v : Value} {o : Cl} {vs : List Value} {os : List Cl} (h : Fd S w v o) (k : Fds S w vs os) : Fds S w (v :: vs) (o :: os) := ⟨h, k⟩
theorem Fds.sole {S : Nat → Prop} {w : World} {v : Value} {o : Cl} (h : Fd S w v o) : Fds S w [v] [o] := ⟨h, trivial⟩
theorem Fds.frm {S S' : Nat → Prop} {w w2 : World} (hf : Frm S w w2) (hS : ∀ k, S' k → S k ∨ w.heap.size ≤ k) : ∀ {vs : List Value} {os : List Cl}, Fds S w vs os → Fds S' w2 vs os
  | [], [], _ => trivial
  | _ :: _, _ :: _, h => ⟨h.1.frm hf hS, h.2.frm hf hS⟩
  | [], _ :: _, h => h.elim
  | _ :: _, [], h => h.elim
theorem Fds.below {S : Nat → Prop} {w w2 : World} {vs : List Value} {os : List Cl} (h : Fds S w vs os) (hb : Below w.heap.size w w2) : Fds S w2 vs os := h.frm (.of_below hb) fun _ hs => .inl hs
theorem Fds.app {S : Nat → Prop} {w : World} {us : List Value} {ps : List Cl} (k : Fds S w us ps) : ∀ {vs : List Value} {os : List Cl}, Fds S w vs os → Fds S w (vs ++ us) (os ++ ps)
  | [], [], _ => k
  | _ :: _, _ :: _, h => ⟨h.1, Fds.app k h.2⟩
  | [], _ :: _, h => h.elim
  | _ :: _, [], h => h.elim
theorem Fds.len {S : Nat → Prop} {w : World} : ∀ {vs : List Value} {os : List Cl}, Fds S w vs os → vs.length = os.length
  | [], [], _ => rfl
  | _ :: _, _ :: _, h => by rw [List.length_cons, List.length_cons, h.2.len]
  | [], _ :: _, h => h.elim
  | _ :: _, [], h => h.elim
theorem Fds.one {S : Nat → Prop} {w : World} : ∀ {vs : List Value} {os : List Cl}, Fds S w vs os → ∀ v ∈ vs, v.oneCell' = true
  | [], [], _, v, hv => by cases hv
  | _ :: _, _ :: _, h, v, hv => by
    rcases List.mem_cons.1 hv with rfl | hv
    · exact h.1.one
    · exact h.2.one v hv
  | [], _ :: _, h, _, _ => h.elim
  | _ :: _, [], h, _, _ => h.elim
theorem Fds.get {S : Nat → Prop} {w : World} : ∀ {vs : List Value} {os : List Cl}, Fds S w vs os → ∀ {k : Nat} (hk : k < vs.length), ∃ o, os[k]? = some o ∧ Fd S w vs[k] o
  | _ :: _, _ :: _, h, 0, _ => ⟨_, rfl, h.1⟩
  | _ :: _, _ :: _, h, k + 1, hk => by
    obtain ⟨o, h1, h2⟩ := h.2.get (k := k) (by simpa using hk)
    exact ⟨o, by simpa using h1, by simpa using h2⟩
  | _ :: _, [], h, _, _ => h.elim
/-- The first that is told. -/
def fo : List Cl → Cl
  | [] => none
  | o :: r => orE o (fo r)
theorem orE_assoc (a b c : Cl) : orE (orE a b) c = orE a (orE b c) := by cases a <;> rfl
theorem fo_app (l m : List Cl) : fo (l ++ m) = orE (fo l) (fo m) := by
  induction l with
  | nil => rfl
  | cons o r ih => rw [List.cons_append, fo, fo, ih, orE_assoc]
theorem fo_one (o : Cl) : fo [o] = o := orE_last o
end Go.Proofs.YtihkfomldbjpoaaDoor.ClW

/- seal: what Between tells lies in new memory. -/
namespace Go.Proofs.YtihkfomldbjpoaaDoor.SealW
open Go.RowKit
open ShaW Sha
set_option maxRecDepth 100000 in
set_option maxHeartbeats 2000000 in
theorem between_new_yes (A : Option Addr) (n c : Nat) (xs : List UInt8) (B : Option Addr) (l d : Nat) (ys : List UInt8) (w : World) (hT : Tab w) (hn : xs.length = n) (hA : Sl w A (bcells xs)) (hl : ys.length = l) (hB : Sl w B (bcells ys))
    (hn40 : n ≤ 1000000000000) (hl40 : l ≤ 1000000000000) (hnc : n ≤ c) (hc : c ≤ 9223372036854775807) (hld : l ≤ d) (hd : d ≤ 9223372036854775807) (hyes : xs ≠ ys ∧ sha xs = sha ys) :
    Calls Tryd.prog 76 #[.slice A n c, .slice B l d] w fun e w' => ∃ A' c' B' d', e = .returned (.tuple #[.agg #[.slice A' n c', .slice B' l d'], .bool true]) ∧ Sl w' A' (bcells xs) ∧ n ≤ c' ∧ c' ≤ maxLen ∧ Sl w' B' (bcells ys) ∧ l ≤ d' ∧ d' ≤ maxLen ∧ (∀ b o s, A' = some ⟨b, o, s⟩ → w.heap.size ≤ b) ∧ (∀ b o s, B' = some ⟨b, o, s⟩ → w.heap.size ≤ b) ∧ Below w.heap.size w w' := by
  have HR : Hid (decide (xs ≠ ys ∧ sha xs = sha ys) = true) := decide_eq_true hyes
  have HN : Hid (xs.length = n) := hn
  have HL : Hid (ys.length = l) := hl
  have hpos := hT.pos
  have h0 : At (w.alloc (.cells #[.slice none 0 0, .slice none 0 0] 29)) w.heap.size 29 [.slice none 0 0, .slice none 0 0] := At.new_ w _ 29 _ rfl
  have b0 : Below w.heap.size w (w.alloc (.cells #[.slice none 0 0, .slice none 0 0] 29)) := (Below.refl _ _).alloc (Nat.le_refl _) _
  have hT1 := hT.below b0 hpos
  have hA1 := hA.below b0
  have hB1 := hB.below b0
  clear hn hl hyes hA hB
  go_enter Tryd.func76, Tryd.ntmps76
  go_wp2_with fail
  refine (is_any A n c xs B l d ys _ hT1 HN.out hA1 HL.out hB1 hn40 hl40 hnc hc hld hd).mono ?_
  rintro e w1 ⟨rfl, hb1⟩
  rw [HR.out]
  have h1 := h0.below hb1 h0.lt
  have b1 := b0.trans (hb1.mono b0.size)
  have hA2 := hA1.below hb1
  have hB2 := hB1.below hb1
  have hw1 : w.heap.size < w1.heap.size := h1.lt
  clear h0 b0 hT1 hA1 hB1 hb1
  go_wp2_with fail
  refine (clone_any A n c xs _ HN.out hA2 (by omega)).mono ?_
  rintro e w2 ⟨A', c', rfl, hA', hnc', hcm', ha', hb2⟩
  have h2 := h1.below hb2 h1.lt
  have b2 := b1.trans (hb2.mono b1.size)
  have hB3 := hB2.below hb2
  have hw2 : w.heap.size < w2.heap.size := h2.lt
  clear h1 b1 hA2 hB2 hb2
  go_wp2_with fail
  refine (clone_any B l d ys _ HL.out hB3 (by omega)).mono ?_
  rintro e w3 ⟨B', d', rfl, hB', hld', hdm', hq', hb3⟩
  have h3 := h2.below hb3 h2.lt
  have b3 := b2.trans (hb3.mono b2.size)
  have hA4 := hA'.below hb3
  clear h2 b2 hB3 hb3 hA'
  go_wp2_with (refine wpList_storeA rfl rfl 29 (.tmp 4) (.tmp 16) rfl clashTy w.heap.size 0 rfl [.slice A' n c', .slice B' l d'] rfl 29 _ h3 rfl (by simp) slices_one ?_)
  have k1 := hA4.from_ (w' := w3.setRow w.heap.size (spl [Value.slice none 0 0, Value.slice none 0 0] 0 [Value.slice A' n c', Value.slice B' l d']).toArray) ha' fun b o hb => cell_setRow_ne _ _ _ _ _ (by omega)
  have k2 := hB'.from_ (w' := w3.setRow w.heap.size (spl [Value.slice none 0 0, Value.slice none 0 0] 0 [Value.slice A' n c', Value.slice B' l d']).toArray) hq' fun b o hb => cell_setRow_ne _ _ _ _ _ (by omega)
  exact bodyPost_ret (v := .tuple #[.agg #[.slice A' n c', .slice B' l d'], .bool true]) (results_cellA2 rfl clashTy _ _ w.heap.size 29 [.slice A' n c', .slice B' l d'] rfl h3.setRow rfl _ rfl) rfl ⟨A', c', B', d', rfl, k1, hnc', hcm', k2, hld', hdm', (fun b o s h => by have := ha' b o s h; omega), (fun b o s h => by have := hq' b o s h; omega), below_setRow b3 (Nat.le_refl _) _⟩
end Go.Proofs.YtihkfomldbjpoaaDoor.SealW
namespace Go.Proofs.YtihkfomldbjpoaaDoor.ClW
open Go.RowKit TreeW ConsW TrW ClashW
open ShaW Sha
theorem between_tc (A : Option Addr) (n c : Nat) (xs : List UInt8) (B : Option Addr) (l d : Nat) (ys : List UInt8) (w : World) (hT : Tab w) (hn : xs.length = n) (hA : Sl w A (bcells xs)) (hl : ys.length = l) (hB : Sl w B (bcells ys))
    (hn40 : n ≤ 1000000000000) (hl40 : l ≤ 1000000000000) (hnc : n ≤ c) (hc : c ≤ 9223372036854775807) (hld : l ≤ d) (hd : d ≤ 9223372036854775807) :
    Calls Tryd.prog 76 #[.slice A n c, .slice B l d] w fun e w' => ∃ A' n' c' B' m' d' q, e = .returned (.tuple #[.agg #[.slice A' n' c', .slice B' m' d'], .bool q]) ∧ TC w.heap.size w' (btw sha xs ys) A' n' c' B' m' d' q ∧ Below w.heap.size w w' := by
  by_cases h : xs ≠ ys ∧ sha xs = sha ys
  · have e1 : btw sha xs ys = some (xs, ys) := by unfold btw; rw [if_pos h]
    exact (SealW.between_new_yes A n c xs B l d ys w hT hn hA hl hB hn40 hl40 hnc hc hld hd h).mono fun e w' ⟨A', c', B', d', h1, h2, h3, h4, h5, h6, h7, h8, h9, h10⟩ => ⟨A', n, c', B', l, d', true, h1, ⟨by rw [e1]; rfl, ⟨xs, ys, .inl e1, hn, hl, h2, h5, h3, h4, h6, h7⟩, h8, h9⟩, h10⟩
  · have e1 : btw sha xs ys = none := by unfold btw; rw [if_neg h]
    exact (SealW.between_no A n c xs B l d ys w hT hn hA hl hB hn40 hl40 hnc hc hld hd h).mono fun e w' ⟨h1, h2⟩ => ⟨none, 0, 0, none, 0, 0, false, h1, by rw [e1]; exact TC.none_ _ _, h2⟩
end Go.Proofs.YtihkfomldbjpoaaDoor.ClW

/- seal: PostsBytes. -/
namespace Go.Proofs.YtihkfomldbjpoaaDoor.SealW
open Go.RowKit
set_option maxHeartbeats 1000000 in
theorem postsBytes_any (B : Option Addr) (l d : Nat) (bs : List UInt8) (w : World) (hl : bs.length = l) (hb : Sl w B (bcells bs)) (h45 : l ≤ 35184372088832) :
    Calls Tryd.prog 45 #[.slice B l d] w fun e w' => ∃ A' c', e = .returned (.slice A' (l + 1) c') ∧ Sl w' A' (bcells (2 :: bs)) ∧ l + 1 ≤ c' ∧ c' ≤ maxLen ∧ Below w.heap.size w w' := by
  have HL : Hid (bs.length = l) := hl
  have HF : Hid ((2 :: [bs].flatten).length = l + 1) := by show _ = _; simp [hl]
  have h0 : Below w.heap.size w (w.alloc (.cells #[.slice B l d] 23)) := (Below.refl _ _).alloc (Nat.le_refl _) _
  have hs : Sl (w.alloc (.cells #[.slice B l d] 23)) (some ⟨w.heap.size, 0, none⟩) [.slice B l d] := Sl.of_at_all (At.new_ w _ 23 [.slice B l d] rfl)
  clear hl
  go_enter Tryd.func45, Tryd.ntmps45
  go_wp2_with fail
  refine (marked_any 2 (some ⟨w.heap.size, 0, none⟩) 1 1 [.slice B l d] [bs] _ rfl rfl hs (Parts.one HL.out (hb.below h0)) (by omega) (by simp [HL.out]; omega)).mono ?_
  rintro e w1 ⟨A', c', rfl, hs1, hc1, hm1, hb1⟩
  rw [HF.out] at hc1 ⊢
  have hbel := h0.trans (hb1.mono h0.size)
  go_wp2_with fail
  go_ret
  exact ⟨A', c', rfl, by simpa using hs1, hc1, hm1, hbel⟩
end Go.Proofs.YtihkfomldbjpoaaDoor.SealW

/- seal: HeadBytes. -/
namespace Go.Proofs.YtihkfomldbjpoaaDoor.SealW
open Go.RowKit
set_option maxHeartbeats 1000000 in
theorem headBytes_any (B : Option Addr) (l d : Nat) (bs : List UInt8) (w : World) (hl : bs.length = l) (hb : Sl w B (bcells bs)) (h45 : l ≤ 35184372088832) :
    Calls Tryd.prog 47 #[.slice B l d] w fun e w' => ∃ A' c', e = .returned (.slice A' (l + 1) c') ∧ Sl w' A' (bcells (3 :: bs)) ∧ l + 1 ≤ c' ∧ c' ≤ maxLen ∧ Below w.heap.size w w' := by
  have HL : Hid (bs.length = l) := hl
  have HF : Hid ((3 :: [bs].flatten).length = l + 1) := by show _ = _; simp [hl]
  have h0 : Below w.heap.size w (w.alloc (.cells #[.slice B l d] 23)) := (Below.refl _ _).alloc (Nat.le_refl _) _
  have hs : Sl (w.alloc (.cells #[.slice B l d] 23)) (some ⟨w.heap.size, 0, none⟩) [.slice B l d] := Sl.of_at_all (At.new_ w _ 23 [.slice B l d] rfl)
  clear hl
  go_enter Tryd.func47, Tryd.ntmps47
  go_wp2_with fail
  refine (marked_any 3 (some ⟨w.heap.size, 0, none⟩) 1 1 [.slice B l d] [bs] _ rfl rfl hs (Parts.one HL.out (hb.below h0)) (by omega) (by simp [HL.out]; omega)).mono ?_
  rintro e w1 ⟨A', c', rfl, hs1, hc1, hm1, hb1⟩
  rw [HF.out] at hc1 ⊢
  have hbel := h0.trans (hb1.mono h0.size)
  go_wp2_with fail
  go_ret
  exact ⟨A', c', rfl, by simpa using hs1, hc1, hm1, hbel⟩
end Go.Proofs.YtihkfomldbjpoaaDoor.SealW

/- seal: its bytes lie in new memory. -/
namespace Go.Proofs.YtihkfomldbjpoaaDoor.SealW
open Go.RowKit
set_option maxRecDepth 100000 in
set_option maxHeartbeats 1000000 in
theorem marked_new (k : UInt8) (A : Option Addr) (n c : Nat) (vs : List Value) (bss : List (List UInt8)) (w : World) (hn : bss.length = n) (hv : vs.length = n) (hA : Sl w A vs) (hP : Parts w vs bss) (hn63 : n ≤ 1000) (h45 : bss.flatten.length ≤ 35184372088832) :
    Calls Tryd.prog 77 #[.int .u8 (ub k), .slice A n c] w fun e w' => ∃ A' c', e = .returned (.slice A' (k :: bss.flatten).length c') ∧ Sl w' A' (bcells (k :: bss.flatten)) ∧ (k :: bss.flatten).length ≤ c' ∧ c' ≤ maxLen ∧ (∀ b o s, A' = some ⟨b, o, s⟩ → w.heap.size ≤ b) ∧ Below w.heap.size w w' := by
  have HN : Hid (bss.length = n) := hn
  have HV : Hid (vs.length = n) := hv
  have h0 : Below w.heap.size w (w.alloc (.cells (bcells [k]).toArray 5)) := (Below.refl _ _).alloc (Nat.le_refl _) _
  have o0 := own_lit w w.heap.size 5 (bcells [k]) 1 rfl (Nat.le_refl _) (by omega)
  clear hn hv
  go_enter Tryd.func77, Tryd.ntmps77
  go_wp2_with fail
  go_loopw [5, 7, 12] (fun v p i wr => ∃ j : Nat, j ≤ n ∧ i = .int .i64 j ∧ wr.ownsRow w.heap.size 5 1 v (k :: (bss.take j).flatten).length (bcells (k :: (bss.take j).flatten)) ∧ Below w.heap.size w wr)
    (fun _ _ i _ => n - (intOf i).toNat)
  case atStart => exact ⟨0, by omega, rfl, o0, h0⟩
  case round =>
    clear o0 h0
    obtain ⟨j, hj, rfl, hown, hbel⟩ := hrel
    by_cases hlt : j < n
    · obtain ⟨B, d, hvj, hB⟩ := hP j (by rw [HN.out]; exact hlt)
      have hjv : j < vs.length := by rw [HV.out]; exact hlt
      obtain ⟨b, o, rfl, hblt, hcell⟩ := hA.get hjv
      have hcw := (hbel.cell (p := ⟨b, o + j, none⟩) hblt).trans (hcell j _ hvj)
      have hB2 := hB.below hbel
      have HX : Hid ((bss.take (j + 1)).flatten = (bss.take j).flatten ++ bss.getD j []) := flat_snoc bss j (by rw [HN.out]; exact hlt)
      have hle := flat_le bss (j + 1)
      rw [HX.out, List.length_append] at hle
      clear hcell hvj hjv hB
      obtain ⟨p, hp⟩ : ∃ p, p = bss.getD j [] := ⟨_, rfl⟩
      rw [← hp] at hB2 hle hcw HX
      obtain ⟨l, hl⟩ : ∃ l, p.length = l := ⟨_, rfl⟩
      have HL : Hid (p.length = l) := hl
      rw [hl] at hcw hle
      obtain ⟨q, hq⟩ : ∃ q, q = (bss.take j).flatten := ⟨_, rfl⟩
      rw [← hq] at hown hle HX
      obtain ⟨m, hm⟩ : ∃ m, (k :: q).length = m := ⟨_, rfl⟩
      have HM : Hid ((k :: q).length = m) := hm
      rw [hm] at hown
      have hml : m + l ≤ 35184372088833 := by simp at hm; omega
      clear hp hl hq hm hle
      go_wp2_with (refine wpList_app rfl (.tmp 16) (.tmp 17) 23 rfl bytesTy w.heap.size u5 m (bcells (k :: q)) rfl hown B l d (bcells p) rfl (by rw [bcells_len]; exact HL.out) hB2 (bcells_one _) (by omega) hbel.size ?_; intro v1 w1 hown1 hgr1 hbl1)
      have hb1 := below_app hbel hgr1 hown (Nat.le_refl _) hbel.size
      go_roundw
      case rel =>
        refine ⟨j + 1, by omega, by go_num, ?_, hb1⟩
        rw [HX.out, ← List.cons_append, List.length_append, ← bcells_app, HL.out, HM.out]; exact hown1
      case measure => simp [intOf]; omega
    · have hjn : j = n := by omega
      have hfl : bss.take j = bss := List.take_of_length_le (by rw [HN.out]; omega)
      rw [hfl] at hown
      obtain ⟨A', c', rfl, hsl, hc', _, hm', ha'⟩ := own_slice hown
      clear hown hfl
      go_wp2_with fail
      go_ret
      exact ⟨A', c', rfl, hsl, hc', hm', ha', hbel⟩
set_option maxHeartbeats 1000000 in
theorem leafBytes_new (B : Option Addr) (l d : Nat) (bs : List UInt8) (w : World) (hl : bs.length = l) (hb : Sl w B (bcells bs)) (h45 : l ≤ 35184372088832) :
    Calls Tryd.prog 68 #[.slice B l d] w fun e w' => ∃ A' c', e = .returned (.slice A' (l + 1) c') ∧ Sl w' A' (bcells (0 :: bs)) ∧ l + 1 ≤ c' ∧ c' ≤ maxLen ∧ (∀ b o s, A' = some ⟨b, o, s⟩ → w.heap.size ≤ b) ∧ Below w.heap.size w w' := by
  have HL : Hid (bs.length = l) := hl
  have HF : Hid ((0 :: [bs].flatten).length = l + 1) := by show _ = _; simp [hl]
  have h0 : Below w.heap.size w (w.alloc (.cells #[.slice B l d] 23)) := (Below.refl _ _).alloc (Nat.le_refl _) _
  have hs : Sl (w.alloc (.cells #[.slice B l d] 23)) (some ⟨w.heap.size, 0, none⟩) [.slice B l d] := Sl.of_at_all (At.new_ w _ 23 [.slice B l d] rfl)
  clear hl
  go_enter Tryd.func68, Tryd.ntmps68
  go_wp2_with fail
  refine (marked_new 0 (some ⟨w.heap.size, 0, none⟩) 1 1 [.slice B l d] [bs] _ rfl rfl hs (Parts.one HL.out (hb.below h0)) (by omega) (by simp [HL.out]; omega)).mono ?_
  rintro e w1 ⟨A', c', rfl, hs1, hc1, hm1, ha1, hb1⟩
  rw [HF.out] at hc1 ⊢
  have hbel := h0.trans (hb1.mono h0.size)
  go_wp2_with fail
  go_ret
  exact ⟨A', c', rfl, by simpa using hs1, hc1, hm1, (fun b o s h => Nat.le_trans h0.size (ha1 b o s h)), hbel⟩
set_option maxHeartbeats 1000000 in
theorem postsBytes_new (B : Option Addr) (l d : Nat) (bs : List UInt8) (w : World) (hl : bs.length = l) (hb : Sl w B (bcells bs)) (h45 : l ≤ 35184372088832) :
    Calls Tryd.prog 45 #[.slice B l d] w fun e w' => ∃ A' c', e = .returned (.slice A' (l + 1) c') ∧ Sl w' A' (bcells (2 :: bs)) ∧ l + 1 ≤ c' ∧ c' ≤ maxLen ∧ (∀ b o s, A' = some ⟨b, o, s⟩ → w.heap.size ≤ b) ∧ Below w.heap.size w w' := by
  have HL : Hid (bs.length = l) := hl
  have HF : Hid ((2 :: [bs].flatten).length = l + 1) := by show _ = _; simp [hl]
  have h0 : Below w.heap.size w (w.alloc (.cells #[.slice B l d] 23)) := (Below.refl _ _).alloc (Nat.le_refl _) _
  have hs : Sl (w.alloc (.cells #[.slice B l d] 23)) (some ⟨w.heap.size, 0, none⟩) [.slice B l d] := Sl.of_at_all (At.new_ w _ 23 [.slice B l d] rfl)
  clear hl
  go_enter Tryd.func45, Tryd.ntmps45
  go_wp2_with fail
  refine (marked_new 2 (some ⟨w.heap.size, 0, none⟩) 1 1 [.slice B l d] [bs] _ rfl rfl hs (Parts.one HL.out (hb.below h0)) (by omega) (by simp [HL.out]; omega)).mono ?_
  rintro e w1 ⟨A', c', rfl, hs1, hc1, hm1, ha1, hb1⟩
  rw [HF.out] at hc1 ⊢
  have hbel := h0.trans (hb1.mono h0.size)
  go_wp2_with fail
  go_ret
  exact ⟨A', c', rfl, by simpa using hs1, hc1, hm1, (fun b o s h => Nat.le_trans h0.size (ha1 b o s h)), hbel⟩
set_option maxHeartbeats 1000000 in
theorem headBytes_new (B : Option Addr) (l d : Nat) (bs : List UInt8) (w : World) (hl : bs.length = l) (hb : Sl w B (bcells bs)) (h45 : l ≤ 35184372088832) :
    Calls Tryd.prog 47 #[.slice B l d] w fun e w' => ∃ A' c', e = .returned (.slice A' (l + 1) c') ∧ Sl w' A' (bcells (3 :: bs)) ∧ l + 1 ≤ c' ∧ c' ≤ maxLen ∧ (∀ b o s, A' = some ⟨b, o, s⟩ → w.heap.size ≤ b) ∧ Below w.heap.size w w' := by
  have HL : Hid (bs.length = l) := hl
  have HF : Hid ((3 :: [bs].flatten).length = l + 1) := by show _ = _; simp [hl]
  have h0 : Below w.heap.size w (w.alloc (.cells #[.slice B l d] 23)) := (Below.refl _ _).alloc (Nat.le_refl _) _
  have hs : Sl (w.alloc (.cells #[.slice B l d] 23)) (some ⟨w.heap.size, 0, none⟩) [.slice B l d] := Sl.of_at_all (At.new_ w _ 23 [.slice B l d] rfl)
  clear hl
  go_enter Tryd.func47, Tryd.ntmps47
  go_wp2_with fail
  refine (marked_new 3 (some ⟨w.heap.size, 0, none⟩) 1 1 [.slice B l d] [bs] _ rfl rfl hs (Parts.one HL.out (hb.below h0)) (by omega) (by simp [HL.out]; omega)).mono ?_
  rintro e w1 ⟨A', c', rfl, hs1, hc1, hm1, ha1, hb1⟩
  rw [HF.out] at hc1 ⊢
  have hbel := h0.trans (hb1.mono h0.size)
  go_wp2_with fail
  go_ret
  exact ⟨A', c', rfl, by simpa using hs1, hc1, hm1, (fun b o s h => Nat.le_trans h0.size (ha1 b o s h)), hbel⟩
set_option maxHeartbeats 1000000 in
theorem nodeBytes_new (l r : ByteArray) (w : World) (h1 : l.size ≤ 1099511627776) (h2 : r.size ≤ 1099511627776) :
    Calls Tryd.prog 72 #[.string l, .string r] w fun e w' => ∃ A' c', e = .returned (.slice A' (l.size + r.size + 1) c') ∧ Sl w' A' (bcells (1 :: (l.data.toList ++ r.data.toList))) ∧ l.size + r.size + 1 ≤ c' ∧ c' ≤ maxLen ∧ (∀ b o s, A' = some ⟨b, o, s⟩ → w.heap.size ≤ b) ∧ Below w.heap.size w w' := by
  have HL : Hid (l.data.toList.length = l.size) := bsize l
  have HR : Hid (r.data.toList.length = r.size) := bsize r
  have HF : Hid ((1 :: [l.data.toList, r.data.toList].flatten).length = l.size + r.size + 1) := by show _ = _; simp
  have HM : Hid (([l.data.toList, r.data.toList] : List (List UInt8)).flatten.length = l.size + r.size) := by show _ = _; simp
  go_enter Tryd.func72, Tryd.ntmps72
  go_wp2_with (first
    | (refine wpList_toBytes rfl 9 23 5 (.tmp 5) rfl underStr underBytes underU8 l rfl (by unfold maxLen; omega) ?_; intro A1 c1 w1 b1 s1 k1 m1 a1)
    | (refine wpList_toBytes rfl 9 23 5 (.tmp 7) rfl underStr underBytes underU8 r rfl (by unfold maxLen; omega) ?_; intro A2 c2 w2 b2 s2 k2 m2 a2))
  have h0 : Below w2.heap.size w2 (w2.alloc (.cells #[.slice A1 l.size c1, .slice A2 r.size c2] 23)) := (Below.refl _ _).alloc (Nat.le_refl _) _
  have hs : Sl (w2.alloc (.cells #[.slice A1 l.size c1, .slice A2 r.size c2] 23)) (some ⟨w2.heap.size, 0, none⟩) [.slice A1 l.size c1, .slice A2 r.size c2] := Sl.of_at_all (At.new_ w2 _ 23 [.slice A1 l.size c1, .slice A2 r.size c2] rfl)
  refine (marked_new 1 (some ⟨w2.heap.size, 0, none⟩) 2 2 [.slice A1 l.size c1, .slice A2 r.size c2] [l.data.toList, r.data.toList] _ rfl rfl hs (Parts.two HL.out ((s1.below b2).below h0) HR.out (s2.below h0)) (by omega) (by rw [HM.out]; omega)).mono ?_
  rintro e w3 ⟨A', c', rfl, hs1, hc1, hm1, ha1, hb1⟩
  rw [HF.out] at hc1 ⊢
  have q2 := b1.trans (b2.mono b1.size)
  have q3 := q2.trans (h0.mono q2.size)
  have hbel := q3.trans (hb1.mono q3.size)
  go_wp2_with fail
  go_ret
  exact ⟨A', c', rfl, by simpa using hs1, hc1, hm1, (fun b o s h => Nat.le_trans q3.size (ha1 b o s h)), hbel⟩
end Go.Proofs.YtihkfomldbjpoaaDoor.SealW

/- clash: pair, leaves. -/
namespace Go.Proofs.YtihkfomldbjpoaaDoor.ClW
open Go.RowKit TreeW ConsW TrW ClashW
open ShaW Sha
set_option maxRecDepth 1000000 in
set_option maxHeartbeats 2000000 in
theorem pairf_any (p q : Nat) (A : Option Addr) (n c : Nat) (xs : List UInt8) (B : Option Addr) (l d : Nat) (ys : List UInt8) (w : World) (hT : Tab w) (hp : At w p 23 [.slice A n c]) (hq : At w q 23 [.slice B l d])
    (hn : xs.length = n) (hA : Sl w A (bcells xs)) (hl : ys.length = l) (hB : Sl w B (bcells ys)) (hn40 : n ≤ 1000000000000) (hl40 : l ≤ 1000000000000) (hnc : n ≤ c) (hc : c ≤ maxLen) (hld : l ≤ d) (hd : d ≤ maxLen) :
    Calls Tryd.prog 75 #[.pointer (some ⟨p, 0, none⟩), .pointer (some ⟨q, 0, none⟩)] w (Tells (btw sha xs ys) w) := by
  have h0 : At (w.alloc (.cells #[.slice none 0 0, .slice none 0 0] 29)) w.heap.size 29 [.slice none 0 0, .slice none 0 0] := At.new_ w _ 29 _ rfl
  have b0 : Below w.heap.size w (w.alloc (.cells #[.slice none 0 0, .slice none 0 0] 29)) := (Below.refl _ _).alloc (Nat.le_refl _) _
  have HN := Lib.hid hn
  have HL := Lib.hid hl
  have hT1 := hT.below b0 hT.pos
  have hA1 := hA.below b0
  have hB1 := hB.below b0
  have cp := (hp.below b0 hp.lt).cell 0
  have cq := (hq.below b0 hq.lt).cell 0
  simp only [List.getElem?_cons_zero] at cp cq
  clear hn hl
  go_enter Tryd.func75, Tryd.ntmps75
  go_wp2_with fail
  refine (between_tc A n c xs B l d ys _ hT1 HN.out hA1 HL.out hB1 hn40 hl40 hnc (len_le hc) hld (len_le hd)).mono ?_
  rintro e w1 ⟨A', n', c', B', m', d', z, rfl, htc, hb1⟩
  have h1 := h0.below hb1 h0.lt
  have b1 := b0.trans (hb1.mono b0.size)
  clear h0 cp cq hT1 hA1 hB1
  go_wp2_with (refine wpList_storeB rfl rfl 29 (.tmp 2) (.tmp 7) rfl SealW.clashTy w.heap.size rfl [.slice A' n' c', .slice B' m' d'] rfl 29 _ h1 rfl rfl slices_one ?_; intro x1 k1 o1)
  have b2 := o1.below _ _ b1 (Nat.le_refl _)
  have hlt : w.heap.size < (w.alloc (.cells #[.slice none 0 0, .slice none 0 0] 29)).heap.size := by simp
  exact bodyPost_ret (v := .tuple #[.agg #[.slice A' n' c', .slice B' m' d'], .bool z]) (results_cellA2 rfl SealW.clashTy _ _ w.heap.size 29 [.slice A' n' c', .slice B' m' d'] rfl k1 rfl _ rfl) rfl
    ⟨A', n', c', B', m', d', z, rfl, (htc.only o1 hlt).base (Nat.le_of_lt hlt), b2⟩
set_option maxRecDepth 1000000 in
set_option maxHeartbeats 2000000 in
/-- A finder of the clash of two texts. -/
theorem pair_any (S : Nat → Prop) (base : Nat) (A : Option Addr) (n c : Nat) (xs : List UInt8) (B : Option Addr) (l d : Nat) (ys : List UInt8) (w0 w : World) (hT : Tab w0) (h0 : w0.heap.size = base) (hbel : Below base w0 w) (hS : ∀ k, S k → base ≤ k ∧ k < w.heap.size)
    (hn : xs.length = n) (hA : Sl w A (bcells xs)) (hl : ys.length = l) (hB : Sl w B (bcells ys)) (hn40 : n ≤ 1000000000000) (hl40 : l ≤ 1000000000000) (hnc : n ≤ c) (hc : c ≤ maxLen) (hld : l ≤ d) (hd : d ≤ maxLen)
    (nA : ∀ b o s, A = some ⟨b, o, s⟩ → ¬ S b) (nB : ∀ b o s, B = some ⟨b, o, s⟩ → ¬ S b) :
    Calls Tryd.prog 44 #[.slice A n c, .slice B l d] w fun e w' => ∃ v, e = .returned v ∧ Fd S w' v (btw sha xs ys) ∧ Below w.heap.size w w' := by
  have k0 : At (w.alloc (.cells #[.slice A n c] 23)) w.heap.size 23 [.slice A n c] := At.new_ w _ 23 _ rfl
  have b0 : Below w.heap.size w (w.alloc (.cells #[.slice A n c] 23)) := (Below.refl _ _).alloc (Nat.le_refl _) _
  have hz : (w.alloc (.cells #[.slice A n c] 23)).heap.size = w.heap.size + 1 := by simp
  have k1 : At ((w.alloc (.cells #[.slice A n c] 23)).alloc (.cells #[.slice B l d] 23)) (w.heap.size + 1) 23 [.slice B l d] := At.new_ _ _ 23 _ hz.symm
  have b1 : Below w.heap.size w ((w.alloc (.cells #[.slice A n c] 23)).alloc (.cells #[.slice B l d] 23)) := b0.alloc b0.size _
  have k0' := k0.alloc (.cells #[.slice B l d] 23)
  have key : Fd S ((w.alloc (.cells #[.slice A n c] 23)).alloc (.cells #[.slice B l d] 23)) (fv 75 w.heap.size (w.heap.size + 1)) (btw sha xs ys) := by
    refine ⟨_, _, _, rfl, (fun a w' => by kernel_rfl), fun w' hf => ?_⟩
    have nS0 : ¬ S w.heap.size := fun h => Nat.lt_irrefl _ (hS _ h).2
    have nS1 : ¬ S (w.heap.size + 1) := fun h => by have := (hS _ h).2; omega
    have hT' : Tab w' := hT.below (hbel.trans (((Below.mono b1 (by rw [← h0]; exact hbel.size)).trans (hf.below (fun k hk => (hS k hk).1) (by rw [← h0]; exact Nat.le_trans hbel.size b1.size))))) (by rw [← h0]; exact hT.pos)
    exact pairf_any _ _ A n c xs B l d ys w' hT' (hf.at_ k0' nS0) (hf.at_ k1 nS1) hn (hf.sl (hA.below b1) nA) hl (hf.sl (hB.below b1) nB) hn40 hl40 hnc hc hld hd
  have HK := Lib.hid key
  clear key hn hl hA hB hS nA nB hT hbel h0
  go_enter Tryd.func44, Tryd.ntmps44
  go_wp2_with fail
  go_ret
  exact ⟨_, rfl, HK.out, b1⟩
end Go.Proofs.YtihkfomldbjpoaaDoor.ClW

/- clash: leaves, first. -/
namespace Go.Proofs.YtihkfomldbjpoaaDoor.ClW
open Go.RowKit TreeW ConsW TrW ClashW
open ShaW Sha
set_option maxRecDepth 1000000 in
set_option maxHeartbeats 2000000 in
/-- A finder of the clash of two leaves. -/
theorem leaves_any (S : Nat → Prop) (base : Nat) (A : Option Addr) (n c : Nat) (xs : List UInt8) (B : Option Addr) (l d : Nat) (ys : List UInt8) (w0 w : World) (hT : Tab w0) (h0 : w0.heap.size = base) (hbel : Below base w0 w) (hS : ∀ k, S k → base ≤ k ∧ k < w.heap.size)
    (hn : xs.length = n) (hA : Sl w A (bcells xs)) (hl : ys.length = l) (hB : Sl w B (bcells ys)) (hn40 : n ≤ 100000000000) (hl40 : l ≤ 100000000000) :
    Calls Tryd.prog 74 #[.slice A n c, .slice B l d] w fun e w' => ∃ v, e = .returned v ∧ Fd S w' v (btw sha (0 :: xs) (0 :: ys)) ∧ Below w.heap.size w w' := by
  have HN := Lib.hid hn
  have HL := Lib.hid hl
  have HS := Lib.hid hS
  clear hn hl hS
  go_enter Tryd.func74, Tryd.ntmps74
  go_wp2_with fail
  refine (SealW.leafBytes_new A n c xs _ HN.out hA (by omega)).mono ?_
  rintro e w1 ⟨A1, c1, rfl, s1, k1, m1, n1, b1⟩
  have hB1 := hB.below b1
  go_wp2_with fail
  refine (SealW.leafBytes_new B l d ys _ HL.out hB1 (by omega)).mono ?_
  rintro e w2 ⟨A2, c2, rfl, s2, k2, m2, n2, b2⟩
  have b12 := b1.trans (b2.mono b1.size)
  go_wp2_with fail
  refine (pair_any S base A1 (n + 1) c1 (0 :: xs) A2 (l + 1) c2 (0 :: ys) w0 _ hT h0 (hbel.trans (b12.mono (by rw [← h0]; exact hbel.size))) (fun k hk => ⟨(HS.out k hk).1, Nat.lt_of_lt_of_le (HS.out k hk).2 b12.size⟩) (by rw [List.length_cons, HN.out]) (s1.below b2) (by rw [List.length_cons, HL.out]) s2 (by omega) (by omega) k1 m1 k2 m2
    (fun b o s h hk => Nat.not_le_of_lt (HS.out _ hk).2 (n1 b o s h)) (fun b o s h hk => Nat.not_le_of_lt (HS.out _ hk).2 (Nat.le_trans b1.size (n2 b o s h)))).mono ?_
  rintro e w3 ⟨v, rfl, hf, b3⟩
  go_wp2_with fail
  go_ret
  exact ⟨v, rfl, hf, b12.trans (b3.mono b12.size)⟩
theorem fo_drop {os : List Cl} {k : Nat} {o : Cl} (h : os[k]? = some o) : fo (os.drop k) = orE o (fo (os.drop (k + 1))) := by
  obtain ⟨hk, rfl⟩ := List.getElem?_eq_some_iff.1 h
  rw [List.drop_eq_getElem_cons hk]; rfl
set_option maxRecDepth 1000000 in
set_option maxHeartbeats 4000000 in
/-- The first clash that a finder finds. -/
theorem first_any (S : Nat → Prop) (A : Option Addr) (n c : Nat) (vs : List Value) (os : List Cl) (w : World) (hv : vs.length = n) (hA : Sl w A vs) (hF : Fds S w vs os) (hn40 : n ≤ 9223372036854775807) :
    Calls Tryd.prog 35 #[.slice A n c] w (Tells (fo os) w) := by
  have h0 : At (w.alloc (.cells #[.slice none 0 0, .slice none 0 0] 29)) w.heap.size 29 [.slice none 0 0, .slice none 0 0] := At.new_ w _ 29 _ rfl
  have b0 : Below w.heap.size w (w.alloc (.cells #[.slice none 0 0, .slice none 0 0] 29)) := (Below.refl _ _).alloc (Nat.le_refl _) _
  have HV := Lib.hid hv
  have HF := Lib.hid hF
  have HO := Lib.hid hF.len
  clear hv hF
  go_enter Tryd.func35, Tryd.ntmps35
  go_wp2_with fail
  go_loopw [10] (fun i wr => ∃ j : Nat, j ≤ n ∧ i = .int .i64 j ∧ Hid (fo os = fo (os.drop j)) ∧ At wr w.heap.size 29 [.slice none 0 0, .slice none 0 0] ∧ Below w.heap.size w wr)
    (fun i _ => n - (intOf i).toNat)
  case atStart => exact ⟨0, by omega, rfl, Lib.hid rfl, h0, b0⟩
  case round =>
    clear h0 b0
    obtain ⟨j, hj, rfl, hfo, hat, hbel⟩ := hrel
    by_cases hlt : j < n
    · obtain ⟨b, o, rfl, hblt, hcell⟩ := hA.get (j := j) (by rw [HV.out]; exact hlt)
      have hcw := (hbel.cell (p := ⟨b, o + j, none⟩) hblt).trans (hcell j _ (List.getElem?_eq_getElem (by rw [HV.out]; exact hlt)))
      obtain ⟨x, hx, N, p, q, hfv, hcf, hr⟩ := HF.out.get (k := j) (by rw [HV.out]; exact hlt)
      rw [hfv] at hcw
      unfold fv at hcw
      have hr2 := hr _ (.of_below hbel)
      have HX := Lib.hid (fo_drop hx)
      clear hcell hfv hr hx
      go_wp2_with fail
      refine hr2.mono ?_
      rintro e w2 ⟨A', n', c', B', m', d', z, rfl, htc, hb2⟩
      have h2 := hat.below hb2 hat.lt
      have b2 := hbel.trans (hb2.mono hbel.size)
      have hlt2 : w.heap.size < wr.heap.size := hat.lt
      have k2 : At (w2.alloc (.cells #[.slice none 0 0, .slice none 0 0] 29)) w2.heap.size 29 [.slice none 0 0, .slice none 0 0] := At.new_ w2 _ 29 _ rfl
      have a2 : Below w2.heap.size w2 (w2.alloc (.cells #[.slice none 0 0, .slice none 0 0] 29)) := (Below.refl _ _).alloc (Nat.le_refl _) _
      have hlt3 : w.heap.size < w2.heap.size := Nat.lt_of_lt_of_le hlt2 hb2.size
      clear hcf hr2 hcw hat hbel
      cases x with
      | some cl =>
        have hz : z = true := htc.yes
        subst hz
        go_wp2_with (first
          | (refine wpList_storeB rfl rfl 29 (.tmp 6) (.tmp 17) rfl SealW.clashTy w2.heap.size rfl [.slice A' n' c', .slice B' m' d'] rfl 29 _ k2 rfl rfl slices_one ?_; intro x3 k3 o3; have h3 := o3.at_ (h2.below a2 h2.lt) (Nat.ne_of_lt hlt3); have b3 := o3.below _ _ (b2.trans (a2.mono (Nat.le_of_lt hlt3))) (Nat.le_of_lt hlt3); have t3 := (htc.below a2); have f0 := k3.cell 0; have f1 := k3.cell 1; simp only [List.getElem?_cons_zero, List.getElem?_cons_succ] at f0 f1)
          | (refine wpList_storeB rfl rfl 29 (.tmp 2) (.tmp 20) rfl SealW.clashTy w.heap.size rfl [.slice A' n' c', .slice B' m' d'] rfl 29 _ h3 rfl rfl slices_one ?_; intro x4 k4 o4))
        have e1 : fo os = some cl := by rw [hfo.out, HX.out]; rfl
        have b4 := o4.below _ _ b3 (Nat.le_refl _)
        rw [e1]
        exact bodyPost_ret (v := .tuple #[.agg #[.slice A' n' c', .slice B' m' d'], .bool true]) (results_cellA2 rfl SealW.clashTy _ _ w.heap.size 29 [.slice A' n' c', .slice B' m' d'] rfl k4 rfl _ rfl) rfl
          ⟨A', n', c', B', m', d', true, rfl, ((htc.below (o3.below _ _ a2 (Nat.le_refl _))).only o4 hlt2).base (Nat.le_of_lt hlt2), b4⟩
      | none =>
        have hz : z = false := htc.yes
        subst hz
        go_wp2_with (refine wpList_storeB rfl rfl 29 (.tmp 6) (.tmp 17) rfl SealW.clashTy w2.heap.size rfl [.slice A' n' c', .slice B' m' d'] rfl 29 _ k2 rfl rfl slices_one ?_; intro x3 k3 o3)
        have h3 := o3.at_ (h2.below a2 h2.lt) (Nat.ne_of_lt hlt3)
        have b3 := o3.below _ _ (b2.trans (a2.mono (Nat.le_of_lt hlt3))) (Nat.le_of_lt hlt3)
        clear h2 b2 k2 a2 htc hb2
        go_roundw
        case rel => exact ⟨j + 1, by omega, by go_num, Lib.hid (by rw [hfo.out, HX.out]; rfl), h3, b3⟩
        case measure => simp [intOf]; omega
    · have hjn : j = n := by omega
      have e1 : fo os = none := by rw [hfo.out, hjn, List.drop_of_length_le (by rw [← HO.out, HV.out]; omega)]; rfl
      have HE := Lib.hid e1
      clear e1 hjn
      go_wp2_with (refine wpList_storeB rfl rfl 29 (.tmp 2) (.tmp 22) rfl SealW.clashTy w.heap.size rfl [.slice none 0 0, .slice none 0 0] rfl 29 _ hat rfl rfl slices_one ?_; intro x1 k1 o1)
      have b2 := o1.below _ _ hbel (Nat.le_refl _)
      rw [HE.out]
      exact bodyPost_ret (v := .tuple #[.agg #[.slice none 0 0, .slice none 0 0], .bool false]) (results_cellA2 rfl SealW.clashTy _ _ w.heap.size 29 [.slice none 0 0, .slice none 0 0] rfl k1 rfl _ rfl) rfl
        ⟨none, 0, 0, none, 0, 0, false, rfl, TC.none_ _ _, b2⟩
end Go.Proofs.YtihkfomldbjpoaaDoor.ClW

/- clash: the list's methods. -/
namespace Go.Proofs.YtihkfomldbjpoaaDoor.ClW
open Go.RowKit TreeW ConsW TrW ClashW
open ShaW Sha
/-- A list of leaves, with their digests. -/
structure LA (w : World) (bss : List (List UInt8)) (A : Option Addr) (l c : Nat) (B : Option Addr) (d : Nat) : Prop where
  len : bss.length = l
  ex : ∃ vs, Sl w A vs ∧ RowsAt w vs bss
  digs : Sl w B (scells (bss.map lf))
  lc : l ≤ c
  ld : l ≤ d
  l40 : l ≤ 1099511627776
  bd : ∀ x ∈ bss, x.length ≤ 100000000000
theorem LA.below {w w' : World} {bss : List (List UInt8)} {A : Option Addr} {l c : Nat} {B : Option Addr} {d : Nat} (h : LA w bss A l c B d) (hb : Below w.heap.size w w') : LA w' bss A l c B d := by
  obtain ⟨vs, h1, h2⟩ := h.ex
  exact ⟨h.len, ⟨vs, h1.below hb, h2.below hb⟩, h.digs.below hb, h.lc, h.ld, h.l40, h.bd⟩
theorem LA.dlen {w : World} {bss : List (List UInt8)} {A : Option Addr} {l c : Nat} {B : Option Addr} {d : Nat} (h : LA w bss A l c B d) : (bss.map lf).length = l := by rw [List.length_map, h.len]
theorem LA.start {w : World} {bss : List (List UInt8)} {A : Option Addr} {l c : Nat} {B : Option Addr} {d : Nat} (h : LA w bss A l c B d) (k : Nat) (hk : k ≤ l) :
    LA w (bss.take k) A k c B d ∧
      (∀ w', (Instr.slice 22 (.slice A l c) none (some (.int .i64 (k : Int))) none).run Tryd.prog w' = .ok (.slice A k c) w') ∧
      (∀ w', (Instr.slice 24 (.slice B l d) none (some (.int .i64 (k : Int))) none).run Tryd.prog w' = .ok (.slice B k d) w') := by
  obtain ⟨vs, h1, h2⟩ := h.ex
  have hl := h.len
  have hc := h.lc
  have hd := h.ld
  refine ⟨⟨by rw [List.length_take]; omega, ⟨vs.take k, h1.take k, rows_take h2 k⟩, ?_, by omega, by omega, by have := h.l40; omega, fun x hx => h.bd x (List.mem_of_mem_take hx)⟩, fun w' => run_to rowsTy w' A l c k .i64 (by omega), fun w' => run_to strsTy w' B l d k .i64 (by omega)⟩
  rw [List.map_take, ← scells_take]
  exact h.digs.take k
theorem LA.rest {w : World} {bss : List (List UInt8)} {A : Option Addr} {l c : Nat} {B : Option Addr} {d : Nat} (h : LA w bss A l c B d) (k : Nat) (hk : k ≤ l) :
    LA w (bss.drop k) (if c = k then A else A.map (·.add k)) (l - k) (c - k) (if d = k then B else B.map (·.add k)) (d - k) ∧
      (∀ w', (Instr.slice 22 (.slice A l c) (some (.int .i64 (k : Int))) none none).run Tryd.prog w' = .ok (.slice (if c = k then A else A.map (·.add k)) (l - k) (c - k)) w') ∧
      (∀ w', (Instr.slice 24 (.slice B l d) (some (.int .i64 (k : Int))) none none).run Tryd.prog w' = .ok (.slice (if d = k then B else B.map (·.add k)) (l - k) (d - k)) w') := by
  obtain ⟨vs, h1, h2⟩ := h.ex
  have hl := h.len
  have hc := h.lc
  have hd := h.ld
  have hl40 := h.l40
  refine ⟨⟨by rw [List.length_drop]; omega, ⟨vs.drop k, h1.cut _ _ (by rw [h2.1]; omega), rows_drop h2 k⟩, ?_, by omega, by omega, by omega, fun x hx => h.bd x (List.mem_of_mem_drop hx)⟩, fun w' => run_from rowsTy w' A l c k .i64 (by omega), fun w' => run_from strsTy w' B l d k .i64 (by omega)⟩
  rw [List.map_drop, ← scells_drop]
  exact h.digs.cut _ _ (by rw [scells_len, h.dlen]; omega)
theorem listTy : AggTy Tryd.prog 62 2 := ⟨by kernel_rfl, by kernel_rfl⟩
theorem results_cellL {P : Program} {fn : Func} {p : Tmp} {ty : TypeId} (h : fn.results = #[.cell p ty]) {n : Nat} (T : AggTy P ty n) (tmps : Array Value) (w : World) (g : Nat) (t : TypeId) (cs : List Value)
    (hp : tmps.getD p undef = .pointer (some ⟨g, 0, none⟩)) (hg : At w g t cs) (hl : cs.length = n) : (results fn tmps).run P w = .ok (.agg cs.toArray) w := by
  have e : (results fn tmps).run P w = ((asAddr (tmps.getD p undef)).run P w).andThen fun a w₁ => (loadVar ty a).run P w₁ := by
    simp only [results, h]
    simp [Sem.run_bind, Result.andThen]
  rw [e, hp]
  simp [asAddr, run_loadA T w g 0 t cs hg cs hl (all_at cs)]
set_option maxRecDepth 1000000 in
set_option maxHeartbeats 2000000 in
theorem newList_any (A : Option Addr) (l c : Nat) (vs : List Value) (bss : List (List UInt8)) (w : World) (hT : Tab w) (hl : bss.length = l) (hA : Sl w A vs) (hR : RowsAt w vs bss) (hlc : l ≤ c) (hl40 : l ≤ 1099511627776) (hbd : ∀ x ∈ bss, x.length ≤ 100000000000) :
    Calls Tryd.prog 37 #[.slice A l c] w fun e w' => ∃ B d, e = .returned (.agg #[.slice A l c, .slice B l d]) ∧ LA w' bss A l c B d ∧ Below w.heap.size w w' := by
  have h0 : At (w.alloc (.cells #[.slice none 0 0, .slice none 0 0] 62)) w.heap.size 62 [.slice none 0 0, .slice none 0 0] := At.new_ w _ 62 _ rfl
  have b0 : Below w.heap.size w (w.alloc (.cells #[.slice none 0 0, .slice none 0 0] 62)) := (Below.refl _ _).alloc (Nat.le_refl _) _
  have HL := Lib.hid hl
  have HR := Lib.hid hR
  have HB := Lib.hid hbd
  have hT1 := hT.below b0 hT.pos
  clear hl hR hbd
  go_enter Tryd.func37, Tryd.ntmps37
  go_wp2_with fail
  refine (TrW.leaves_any A l c vs bss _ hT1 HL.out (hA.below b0) (HR.out.below b0) hl40 (fun x hx => by have := HB.out x hx; omega)).mono ?_
  rintro e w1 ⟨v, rfl, hown, hb1⟩
  have h1 := h0.below hb1 h0.lt
  have b1 := b0.trans (hb1.mono b0.size)
  have hlm : (bss.map lf).length = l := by rw [List.length_map, HL.out]
  unfold OwS at hown
  rw [hlm] at hown
  obtain ⟨B, d, rfl, hsl, hd', _, _, ha'⟩ := own_slice hown
  have hlt : w.heap.size < (w.alloc (.cells #[.slice none 0 0, .slice none 0 0] 62)).heap.size := by simp
  clear h0 b0 hT1 hown hlm
  go_wp2_with (refine wpList_storeB rfl rfl 62 (.tmp 2) (.tmp 6) rfl listTy w.heap.size rfl [.slice A l c, .slice B l d] rfl 62 _ h1 rfl rfl slices_one ?_; intro x1 k1 o1)
  have b2 := o1.below _ _ b1 (Nat.le_refl _)
  exact bodyPost_ret (v := .agg #[.slice A l c, .slice B l d]) (results_cellL rfl listTy _ _ w.heap.size 62 [.slice A l c, .slice B l d] rfl k1 rfl) rfl
    ⟨B, d, rfl, ⟨HL.out, ⟨vs, hA.below b2, HR.out.below b2⟩, o1.sl hsl ha' hlt, hlc, hd', hl40, HB.out⟩, b2⟩
end Go.Proofs.YtihkfomldbjpoaaDoor.ClW

/- clash: a list's first part, its other part. -/
namespace Go.Proofs.YtihkfomldbjpoaaDoor.ClW
open Go.RowKit TreeW ConsW TrW ClashW
open ShaW Sha
set_option maxRecDepth 1000000 in
set_option maxHeartbeats 4000000 in
theorem start_any (A : Option Addr) (l c : Nat) (B : Option Addr) (d k : Nat) (bss : List (List UInt8)) (W w : World) (h : LA W bss A l c B d) (hk : k ≤ l) :
    Calls Tryd.prog 71 #[.agg #[.slice A l c, .slice B l d], .int .i64 (k : Int)] w fun e w' => ∃ A2 c2 B2 d2, e = .returned (.agg #[.slice A2 (k) c2, .slice B2 (k) d2]) ∧ LA W (bss.take k) A2 (k) c2 B2 d2 ∧ Below w.heap.size w w' := by
  obtain ⟨hla, hs1, hs2⟩ := h.start k hk
  have HS1 := Lib.hid hs1
  have HS2 := Lib.hid hs2
  have k0 : At (w.alloc (.cells #[.slice A l c, .slice B l d] 62)) w.heap.size 62 [.slice A l c, .slice B l d] := At.new_ w _ 62 _ rfl
  have b0 : Below w.heap.size w (w.alloc (.cells #[.slice A l c, .slice B l d] 62)) := (Below.refl _ _).alloc (Nat.le_refl _) _
  have hz : (w.alloc (.cells #[.slice A l c, .slice B l d] 62)).heap.size = w.heap.size + 1 := by simp
  have h1 : At (((w.alloc (.cells #[.slice A l c, .slice B l d] 62)).alloc (.cells #[.slice none 0 0, .slice none 0 0] 62)).drew) (w.heap.size + 1) 62 [.slice none 0 0, .slice none 0 0] := At.new_ _ _ 62 _ hz.symm
  have b1 : Below w.heap.size w (((w.alloc (.cells #[.slice A l c, .slice B l d] 62)).alloc (.cells #[.slice none 0 0, .slice none 0 0] 62)).drew) := (b0.alloc b0.size _).drew
  have k1' : At (((w.alloc (.cells #[.slice A l c, .slice B l d] 62)).alloc (.cells #[.slice none 0 0, .slice none 0 0] 62)).drew) w.heap.size 62 [.slice A l c, .slice B l d] := k0.alloc _
  have c0 := k1'.cell 0
  have c1 := k1'.cell 1
  simp only [List.getElem?_cons_zero, List.getElem?_cons_succ] at c0 c1
  clear hs1 hs2 k0 k1' b0 hz
  go_enter Tryd.func71, Tryd.ntmps71
  go_wp2_with fail
  refine regB_begin (w.heap.size + 1) (by kernel_rfl) ?_
  change wpAnyH _ _ _ _ _ 10 #[false, false, false, false, false, false, false, false, false, false] _ _
  refine regB_take (i := 0) (d := some 5) (v := (.pointer (some ⟨w.heap.size, 0, none⟩))) rfl rfl (by kernel_rfl) (by kernel_rfl) (by kernel_rfl) (fun _ _ _ h => h) (by rfl) (by intro w' hSw; have f0 := (hSw.cell (p := ⟨w.heap.size, 0, none⟩) (Nat.lt_succ_self _)).trans c0; have f1 := (hSw.cell (p := ⟨w.heap.size, 1, none⟩) (Nat.lt_succ_self _)).trans c1; go_simp) ?_
  try simp only [Act.put, List.setIfInBounds_toArray, List.set_cons_zero, List.set_cons_succ]
  refine regB_take (i := 1) (d := some 6) (v := (.slice A l c)) rfl rfl (by kernel_rfl) (by kernel_rfl) (by kernel_rfl) (fun _ _ _ h => h) (by rfl) (by intro w' hSw; have f0 := (hSw.cell (p := ⟨w.heap.size, 0, none⟩) (Nat.lt_succ_self _)).trans c0; have f1 := (hSw.cell (p := ⟨w.heap.size, 1, none⟩) (Nat.lt_succ_self _)).trans c1; go_simp) ?_
  try simp only [Act.put, List.setIfInBounds_toArray, List.set_cons_zero, List.set_cons_succ]
  refine regB_take (i := 2) (d := some 7) (v := (.int .i64 (k : Int))) rfl rfl (by kernel_rfl) (by kernel_rfl) (by kernel_rfl) (fun _ _ _ h => h) (by rfl) (by intro w' hSw; have f0 := (hSw.cell (p := ⟨w.heap.size, 0, none⟩) (Nat.lt_succ_self _)).trans c0; have f1 := (hSw.cell (p := ⟨w.heap.size, 1, none⟩) (Nat.lt_succ_self _)).trans c1; go_simp) ?_
  try simp only [Act.put, List.setIfInBounds_toArray, List.set_cons_zero, List.set_cons_succ]
  refine regB_take (i := 3) (d := some 8) (v := (.slice A (k) c)) rfl rfl (by kernel_rfl) (by kernel_rfl) (by kernel_rfl) (fun _ _ _ h => h) (by rfl) (by intro w' hSw; have f0 := (hSw.cell (p := ⟨w.heap.size, 0, none⟩) (Nat.lt_succ_self _)).trans c0; have f1 := (hSw.cell (p := ⟨w.heap.size, 1, none⟩) (Nat.lt_succ_self _)).trans c1; have h9 := HS1.out w'; go_simp) ?_
  try simp only [Act.put, List.setIfInBounds_toArray, List.set_cons_zero, List.set_cons_succ]
  refine regB_take (i := 4) (d := some 9) (v := (.pointer (some ⟨w.heap.size, 1, none⟩))) rfl rfl (by kernel_rfl) (by kernel_rfl) (by kernel_rfl) (fun _ _ _ h => h) (by rfl) (by intro w' hSw; have f0 := (hSw.cell (p := ⟨w.heap.size, 0, none⟩) (Nat.lt_succ_self _)).trans c0; have f1 := (hSw.cell (p := ⟨w.heap.size, 1, none⟩) (Nat.lt_succ_self _)).trans c1; go_simp) ?_
  try simp only [Act.put, List.setIfInBounds_toArray, List.set_cons_zero, List.set_cons_succ]
  refine regB_take (i := 5) (d := some 10) (v := (.slice B l d)) rfl rfl (by kernel_rfl) (by kernel_rfl) (by kernel_rfl) (fun _ _ _ h => h) (by rfl) (by intro w' hSw; have f0 := (hSw.cell (p := ⟨w.heap.size, 0, none⟩) (Nat.lt_succ_self _)).trans c0; have f1 := (hSw.cell (p := ⟨w.heap.size, 1, none⟩) (Nat.lt_succ_self _)).trans c1; go_simp) ?_
  try simp only [Act.put, List.setIfInBounds_toArray, List.set_cons_zero, List.set_cons_succ]
  refine regB_take (i := 6) (d := some 11) (v := (.int .i64 (k : Int))) rfl rfl (by kernel_rfl) (by kernel_rfl) (by kernel_rfl) (fun _ _ _ h => h) (by rfl) (by intro w' hSw; have f0 := (hSw.cell (p := ⟨w.heap.size, 0, none⟩) (Nat.lt_succ_self _)).trans c0; have f1 := (hSw.cell (p := ⟨w.heap.size, 1, none⟩) (Nat.lt_succ_self _)).trans c1; go_simp) ?_
  try simp only [Act.put, List.setIfInBounds_toArray, List.set_cons_zero, List.set_cons_succ]
  refine regB_take (i := 7) (d := some 12) (v := (.slice B (k) d)) rfl rfl (by kernel_rfl) (by kernel_rfl) (by kernel_rfl) (fun _ _ _ h => h) (by rfl) (by intro w' hSw; have f0 := (hSw.cell (p := ⟨w.heap.size, 0, none⟩) (Nat.lt_succ_self _)).trans c0; have f1 := (hSw.cell (p := ⟨w.heap.size, 1, none⟩) (Nat.lt_succ_self _)).trans c1; have h9 := HS2.out w'; go_simp) ?_
  try simp only [Act.put, List.setIfInBounds_toArray, List.set_cons_zero, List.set_cons_succ]
  refine regB_take (i := 8) (d := some 13) (v := (.agg #[.slice A (k) c, .slice B (k) d])) rfl rfl (by kernel_rfl) (by kernel_rfl) (by kernel_rfl) (fun _ _ _ h => h) (by rfl) (by intro w' hSw; have f0 := (hSw.cell (p := ⟨w.heap.size, 0, none⟩) (Nat.lt_succ_self _)).trans c0; have f1 := (hSw.cell (p := ⟨w.heap.size, 1, none⟩) (Nat.lt_succ_self _)).trans c1; go_simp) ?_
  try simp only [Act.put, List.setIfInBounds_toArray, List.set_cons_zero, List.set_cons_succ]
  refine regB_call (i := 9) rfl (by kernel_rfl) (by rfl) fun K hK => ?_
  refine oper_storeB rfl 62 (.tmp 4) (.tmp 13) rfl listTy (w.heap.size + 1) rfl [.slice A (k) c, .slice B (k) d] rfl 62 _ h1 rfl rfl slices_one ?_
  intro x1 k1 o1
  refine hK.out _ _ (o1.below _ _ (Below.refl _ _) (Nat.le_refl _)) ?_
  clear hK K
  try simp only [List.setIfInBounds_toArray, List.set_cons_zero, List.set_cons_succ]
  refine wpAnyH_done (by kernel_rfl) ?_ _
  go_wp2_with fail
  have b2 := o1.below _ _ b1 (Nat.le_succ _)
  exact bodyPost_ret (v := .agg #[.slice A (k) c, .slice B (k) d]) (results_cellL rfl listTy _ _ (w.heap.size + 1) 62 [.slice A (k) c, .slice B (k) d] rfl k1 rfl) rfl
    ⟨A, c, B, d, rfl, hla, b2⟩
set_option maxRecDepth 1000000 in
set_option maxHeartbeats 4000000 in
theorem rest_any (A : Option Addr) (l c : Nat) (B : Option Addr) (d k : Nat) (bss : List (List UInt8)) (W w : World) (h : LA W bss A l c B d) (hk : k ≤ l) :
    Calls Tryd.prog 73 #[.agg #[.slice A l c, .slice B l d], .int .i64 (k : Int)] w fun e w' => ∃ A2 c2 B2 d2, e = .returned (.agg #[.slice A2 (l - k) c2, .slice B2 (l - k) d2]) ∧ LA W (bss.drop k) A2 (l - k) c2 B2 d2 ∧ Below w.heap.size w w' := by
  obtain ⟨hla, hs1, hs2⟩ := h.rest k hk
  obtain ⟨A9, hA9⟩ : ∃ A9, (if c = k then A else A.map (·.add k)) = A9 := ⟨_, rfl⟩
  obtain ⟨B9, hB9⟩ : ∃ B9, (if d = k then B else B.map (·.add k)) = B9 := ⟨_, rfl⟩
  obtain ⟨c9, hc9⟩ : ∃ c9, c - k = c9 := ⟨_, rfl⟩
  obtain ⟨d9, hd9⟩ : ∃ d9, d - k = d9 := ⟨_, rfl⟩
  rw [hA9, hB9, hc9, hd9] at hla
  rw [hA9, hc9] at hs1
  rw [hB9, hd9] at hs2
  have HS1 := Lib.hid hs1
  have HS2 := Lib.hid hs2
  have k0 : At (w.alloc (.cells #[.slice A l c, .slice B l d] 62)) w.heap.size 62 [.slice A l c, .slice B l d] := At.new_ w _ 62 _ rfl
  have b0 : Below w.heap.size w (w.alloc (.cells #[.slice A l c, .slice B l d] 62)) := (Below.refl _ _).alloc (Nat.le_refl _) _
  have hz : (w.alloc (.cells #[.slice A l c, .slice B l d] 62)).heap.size = w.heap.size + 1 := by simp
  have h1 : At (((w.alloc (.cells #[.slice A l c, .slice B l d] 62)).alloc (.cells #[.slice none 0 0, .slice none 0 0] 62)).drew) (w.heap.size + 1) 62 [.slice none 0 0, .slice none 0 0] := At.new_ _ _ 62 _ hz.symm
  have b1 : Below w.heap.size w (((w.alloc (.cells #[.slice A l c, .slice B l d] 62)).alloc (.cells #[.slice none 0 0, .slice none 0 0] 62)).drew) := (b0.alloc b0.size _).drew
  have k1' : At (((w.alloc (.cells #[.slice A l c, .slice B l d] 62)).alloc (.cells #[.slice none 0 0, .slice none 0 0] 62)).drew) w.heap.size 62 [.slice A l c, .slice B l d] := k0.alloc _
  have c0 := k1'.cell 0
  have c1 := k1'.cell 1
  simp only [List.getElem?_cons_zero, List.getElem?_cons_succ] at c0 c1
  clear hA9 hB9 hc9 hd9 hs1 hs2 k0 k1' b0 hz
  go_enter Tryd.func73, Tryd.ntmps73
  go_wp2_with fail
  refine regB_begin (w.heap.size + 1) (by kernel_rfl) ?_
  change wpAnyH _ _ _ _ _ 10 #[false, false, false, false, false, false, false, false, false, false] _ _
  refine regB_take (i := 0) (d := some 5) (v := (.pointer (some ⟨w.heap.size, 0, none⟩))) rfl rfl (by kernel_rfl) (by kernel_rfl) (by kernel_rfl) (fun _ _ _ h => h) (by rfl) (by intro w' hSw; have f0 := (hSw.cell (p := ⟨w.heap.size, 0, none⟩) (Nat.lt_succ_self _)).trans c0; have f1 := (hSw.cell (p := ⟨w.heap.size, 1, none⟩) (Nat.lt_succ_self _)).trans c1; go_simp) ?_
  try simp only [Act.put, List.setIfInBounds_toArray, List.set_cons_zero, List.set_cons_succ]
  refine regB_take (i := 1) (d := some 6) (v := (.slice A l c)) rfl rfl (by kernel_rfl) (by kernel_rfl) (by kernel_rfl) (fun _ _ _ h => h) (by rfl) (by intro w' hSw; have f0 := (hSw.cell (p := ⟨w.heap.size, 0, none⟩) (Nat.lt_succ_self _)).trans c0; have f1 := (hSw.cell (p := ⟨w.heap.size, 1, none⟩) (Nat.lt_succ_self _)).trans c1; go_simp) ?_
  try simp only [Act.put, List.setIfInBounds_toArray, List.set_cons_zero, List.set_cons_succ]
  refine regB_take (i := 2) (d := some 7) (v := (.int .i64 (k : Int))) rfl rfl (by kernel_rfl) (by kernel_rfl) (by kernel_rfl) (fun _ _ _ h => h) (by rfl) (by intro w' hSw; have f0 := (hSw.cell (p := ⟨w.heap.size, 0, none⟩) (Nat.lt_succ_self _)).trans c0; have f1 := (hSw.cell (p := ⟨w.heap.size, 1, none⟩) (Nat.lt_succ_self _)).trans c1; go_simp) ?_
  try simp only [Act.put, List.setIfInBounds_toArray, List.set_cons_zero, List.set_cons_succ]
  refine regB_take (i := 3) (d := some 8) (v := (.slice A9 (l - k) c9)) rfl rfl (by kernel_rfl) (by kernel_rfl) (by kernel_rfl) (fun _ _ _ h => h) (by rfl) (by intro w' hSw; have f0 := (hSw.cell (p := ⟨w.heap.size, 0, none⟩) (Nat.lt_succ_self _)).trans c0; have f1 := (hSw.cell (p := ⟨w.heap.size, 1, none⟩) (Nat.lt_succ_self _)).trans c1; have h9 := HS1.out w'; go_simp) ?_
  try simp only [Act.put, List.setIfInBounds_toArray, List.set_cons_zero, List.set_cons_succ]
  refine regB_take (i := 4) (d := some 9) (v := (.pointer (some ⟨w.heap.size, 1, none⟩))) rfl rfl (by kernel_rfl) (by kernel_rfl) (by kernel_rfl) (fun _ _ _ h => h) (by rfl) (by intro w' hSw; have f0 := (hSw.cell (p := ⟨w.heap.size, 0, none⟩) (Nat.lt_succ_self _)).trans c0; have f1 := (hSw.cell (p := ⟨w.heap.size, 1, none⟩) (Nat.lt_succ_self _)).trans c1; go_simp) ?_
  try simp only [Act.put, List.setIfInBounds_toArray, List.set_cons_zero, List.set_cons_succ]
  refine regB_take (i := 5) (d := some 10) (v := (.slice B l d)) rfl rfl (by kernel_rfl) (by kernel_rfl) (by kernel_rfl) (fun _ _ _ h => h) (by rfl) (by intro w' hSw; have f0 := (hSw.cell (p := ⟨w.heap.size, 0, none⟩) (Nat.lt_succ_self _)).trans c0; have f1 := (hSw.cell (p := ⟨w.heap.size, 1, none⟩) (Nat.lt_succ_self _)).trans c1; go_simp) ?_
  try simp only [Act.put, List.setIfInBounds_toArray, List.set_cons_zero, List.set_cons_succ]
  refine regB_take (i := 6) (d := some 11) (v := (.int .i64 (k : Int))) rfl rfl (by kernel_rfl) (by kernel_rfl) (by kernel_rfl) (fun _ _ _ h => h) (by rfl) (by intro w' hSw; have f0 := (hSw.cell (p := ⟨w.heap.size, 0, none⟩) (Nat.lt_succ_self _)).trans c0; have f1 := (hSw.cell (p := ⟨w.heap.size, 1, none⟩) (Nat.lt_succ_self _)).trans c1; go_simp) ?_
  try simp only [Act.put, List.setIfInBounds_toArray, List.set_cons_zero, List.set_cons_succ]
  refine regB_take (i := 7) (d := some 12) (v := (.slice B9 (l - k) d9)) rfl rfl (by kernel_rfl) (by kernel_rfl) (by kernel_rfl) (fun _ _ _ h => h) (by rfl) (by intro w' hSw; have f0 := (hSw.cell (p := ⟨w.heap.size, 0, none⟩) (Nat.lt_succ_self _)).trans c0; have f1 := (hSw.cell (p := ⟨w.heap.size, 1, none⟩) (Nat.lt_succ_self _)).trans c1; have h9 := HS2.out w'; go_simp) ?_
  try simp only [Act.put, List.setIfInBounds_toArray, List.set_cons_zero, List.set_cons_succ]
  refine regB_take (i := 8) (d := some 13) (v := (.agg #[.slice A9 (l - k) c9, .slice B9 (l - k) d9])) rfl rfl (by kernel_rfl) (by kernel_rfl) (by kernel_rfl) (fun _ _ _ h => h) (by rfl) (by intro w' hSw; have f0 := (hSw.cell (p := ⟨w.heap.size, 0, none⟩) (Nat.lt_succ_self _)).trans c0; have f1 := (hSw.cell (p := ⟨w.heap.size, 1, none⟩) (Nat.lt_succ_self _)).trans c1; go_simp) ?_
  try simp only [Act.put, List.setIfInBounds_toArray, List.set_cons_zero, List.set_cons_succ]
  refine regB_call (i := 9) rfl (by kernel_rfl) (by rfl) fun K hK => ?_
  refine oper_storeB rfl 62 (.tmp 4) (.tmp 13) rfl listTy (w.heap.size + 1) rfl [.slice A9 (l - k) c9, .slice B9 (l - k) d9] rfl 62 _ h1 rfl rfl slices_one ?_
  intro x1 k1 o1
  refine hK.out _ _ (o1.below _ _ (Below.refl _ _) (Nat.le_refl _)) ?_
  clear hK K
  try simp only [List.setIfInBounds_toArray, List.set_cons_zero, List.set_cons_succ]
  refine wpAnyH_done (by kernel_rfl) ?_ _
  go_wp2_with fail
  have b2 := o1.below _ _ b1 (Nat.le_succ _)
  exact bodyPost_ret (v := .agg #[.slice A9 (l - k) c9, .slice B9 (l - k) d9]) (results_cellL rfl listTy _ _ (w.heap.size + 1) 62 [.slice A9 (l - k) c9, .slice B9 (l - k) d9] rfl k1 rfl) rfl
    ⟨A9, c9, B9, d9, rfl, hla, b2⟩
end Go.Proofs.YtihkfomldbjpoaaDoor.ClW

/- clash: split, root, node. -/
namespace Go.Proofs.YtihkfomldbjpoaaDoor.ClW
open Go.RowKit TreeW ConsW TrW ClashW
open ShaW Sha
set_option maxHeartbeats 2000000 in
theorem splitL_any (A : Option Addr) (l c : Nat) (B : Option Addr) (d : Nat) (z : Int) (w : World) (hz : (l < 2 ∧ z = 0) ∨ (2 ≤ l ∧ z = ((split l : Nat) : Int))) (hl40 : l ≤ 1099511627776) :
    Calls Tryd.prog 69 #[.agg #[.slice A l c, .slice B l d]] w fun e w' => e = .returned (.int .i64 z) ∧ Below w.heap.size w w' := by
  have k0 : At (w.alloc (.cells #[.slice A l c, .slice B l d] 62)) w.heap.size 62 [.slice A l c, .slice B l d] := At.new_ w _ 62 _ rfl
  have b0 : Below w.heap.size w (w.alloc (.cells #[.slice A l c, .slice B l d] 62)) := (Below.refl _ _).alloc (Nat.le_refl _) _
  have c0 := k0.cell 0
  simp only [List.getElem?_cons_zero] at c0
  have HZ := Lib.hid hz
  clear k0 hz
  go_enter Tryd.func69, Tryd.ntmps69
  go_wp2_with fail
  rcases HZ.out with ⟨h2, rfl⟩ | ⟨h2, rfl⟩
  · refine (split_out (l : Int) _ (by omega)).mono ?_
    rintro e w1 ⟨rfl, rfl⟩
    go_wp2_with fail
    go_ret
    exact ⟨rfl, b0⟩
  · refine (split_in l _ h2 hl40).mono ?_
    rintro e w1 ⟨rfl, rfl⟩
    go_wp2_with fail
    go_ret
    exact ⟨rfl, b0⟩
set_option maxHeartbeats 2000000 in
theorem rootL_any (A : Option Addr) (l c : Nat) (B : Option Addr) (d : Nat) (bss : List (List UInt8)) (w : World) (hT : Tab w) (h : LA w bss A l c B d) :
    Calls Tryd.prog 49 #[.agg #[.slice A l c, .slice B l d]] w fun e w' => e = .returned (.string (rt (bss.map lf))) ∧ Below w.heap.size w w' := by
  have k0 : At (w.alloc (.cells #[.slice A l c, .slice B l d] 62)) w.heap.size 62 [.slice A l c, .slice B l d] := At.new_ w _ 62 _ rfl
  have b0 : Below w.heap.size w (w.alloc (.cells #[.slice A l c, .slice B l d] 62)) := (Below.refl _ _).alloc (Nat.le_refl _) _
  have c1 := k0.cell 1
  simp only [List.getElem?_cons_zero, List.getElem?_cons_succ] at c1
  have hT1 := hT.below b0 hT.pos
  clear k0 hT
  go_enter Tryd.func49, Tryd.ntmps49
  go_wp2_with fail
  refine (Root_ok B l d (bss.map lf) _ hT1 h.dlen (h.digs.below b0) h.ld h.l40 (lf_digs bss)).mono ?_
  rintro e w1 ⟨rfl, hb1⟩
  have b1 := b0.trans (hb1.mono b0.size)
  go_wp2_with fail
  go_ret
  exact ⟨rfl, b1⟩
theorem tp_halves (bss : List (List UInt8)) : tp (bss.map lf) = nb (rt ((bss.take (split bss.length)).map lf)) (rt ((bss.drop (split bss.length)).map lf)) := by
  unfold tp
  rw [List.length_map, List.map_take, List.map_drop]
set_option maxRecDepth 1000000 in
set_option maxHeartbeats 4000000 in
theorem nodeL_any (A : Option Addr) (l c : Nat) (B : Option Addr) (d : Nat) (bss : List (List UInt8)) (w : World) (hT : Tab w) (h : LA w bss A l c B d) (h2 : 2 ≤ l) :
    Calls Tryd.prog 70 #[.agg #[.slice A l c, .slice B l d]] w fun e w' => ∃ A' c', e = .returned (.slice A' 65 c') ∧ Sl w' A' (bcells (tp (bss.map lf))) ∧ 65 ≤ c' ∧ c' ≤ maxLen ∧ (∀ b o s, A' = some ⟨b, o, s⟩ → w.heap.size ≤ b) ∧ Below w.heap.size w w' := by
  have k0 : At (w.alloc (.cells #[.slice A l c, .slice B l d] 62)) w.heap.size 62 [.slice A l c, .slice B l d] := At.new_ w _ 62 _ rfl
  have b0 : Below w.heap.size w (w.alloc (.cells #[.slice A l c, .slice B l d] 62)) := (Below.refl _ _).alloc (Nat.le_refl _) _
  have hz : (w.alloc (.cells #[.slice A l c, .slice B l d] 62)).heap.size = w.heap.size + 1 := by simp
  have c0 := k0.cell 0
  have c1 := k0.cell 1
  simp only [List.getElem?_cons_zero, List.getElem?_cons_succ] at c0 c1
  have HTP := Lib.hid (tp_halves bss)
  rw [h.len] at HTP
  have HT := Lib.hid (fun W (hb : Below w.heap.size w W) => hT.below hb hT.pos)
  obtain ⟨kl, kp⟩ : split l < l ∧ 1 ≤ split l := by
    obtain ⟨a, b, _, _⟩ := split_spec h2
    exact ⟨b, a⟩
  have ZP := Lib.hid (rt_size _ _ (Nat.le_refl _) (lf_digs (bss.take (split l))))
  have ZQ := Lib.hid (rt_size _ _ (Nat.le_refl _) (lf_digs (bss.drop (split l))))
  clear hT
  go_enter Tryd.func70, Tryd.ntmps70
  go_wp2_with fail
  refine (splitL_any A l c B d ((split l : Nat) : Int) _ (.inr ⟨h2, rfl⟩) h.l40).mono ?_
  rintro e w1 ⟨rfl, hb1⟩
  obtain ⟨k, hk⟩ : ∃ k, split l = k := ⟨_, rfl⟩
  rw [hk] at HTP kl kp ZP ZQ ⊢
  obtain ⟨r1, hr1⟩ : ∃ r, rt ((bss.take k).map lf) = r := ⟨_, rfl⟩
  obtain ⟨r2, hr2⟩ : ∃ r, rt ((bss.drop k).map lf) = r := ⟨_, rfl⟩
  rw [hr1, hr2] at HTP
  rw [hr1] at ZP
  rw [hr2] at ZQ
  have R1 := Lib.hid hr1
  have R2 := Lib.hid hr2
  clear hr1 hr2
  have k1 := k0.below hb1 k0.lt
  have b1 := b0.trans (hb1.mono b0.size)
  have c0 := k1.cell 0
  have c1 := k1.cell 1
  simp only [List.getElem?_cons_zero, List.getElem?_cons_succ] at c0 c1
  have hlt := k1.lt
  clear k0 b0 hz hb1 hk k1
  go_wp2_with fail
  refine reg_begin (by kernel_rfl) ?_
  change wpAnyH _ _ _ _ _ 10 #[false, false, false, false, false, false, false, false, false, false] _ _
  refine reg_take (i := 0) (d := some 6) (v := (.agg #[.slice A l c, .slice B l d])) rfl rfl (by kernel_rfl) (by kernel_rfl) (by kernel_rfl) (fun _ _ _ h => h) (by rfl) (by intro w' hSw; have f0 := (hSw.cell (p := ⟨w.heap.size, 0, none⟩) hlt).trans c0; have f1 := (hSw.cell (p := ⟨w.heap.size, 1, none⟩) hlt).trans c1; go_simp) ?_
  try simp only [Act.put, List.setIfInBounds_toArray, List.set_cons_zero, List.set_cons_succ]
  refine reg_take (i := 1) (d := some 7) (v := (.int .i64 (k : Int))) rfl rfl (by kernel_rfl) (by kernel_rfl) (by kernel_rfl) (fun _ _ _ h => h) (by rfl) (by intro w' hSw; go_simp) ?_
  try simp only [Act.put, List.setIfInBounds_toArray, List.set_cons_zero, List.set_cons_succ]
  refine reg_take (i := 4) (d := some 10) (v := (.agg #[.slice A l c, .slice B l d])) rfl rfl (by kernel_rfl) (by kernel_rfl) (by kernel_rfl) (fun _ _ _ h => h) (by rfl) (by intro w' hSw; have f0 := (hSw.cell (p := ⟨w.heap.size, 0, none⟩) hlt).trans c0; have f1 := (hSw.cell (p := ⟨w.heap.size, 1, none⟩) hlt).trans c1; go_simp) ?_
  try simp only [Act.put, List.setIfInBounds_toArray, List.set_cons_zero, List.set_cons_succ]
  refine reg_take (i := 5) (d := some 11) (v := (.int .i64 (k : Int))) rfl rfl (by kernel_rfl) (by kernel_rfl) (by kernel_rfl) (fun _ _ _ h => h) (by rfl) (by intro w' hSw; go_simp) ?_
  try simp only [Act.put, List.setIfInBounds_toArray, List.set_cons_zero, List.set_cons_succ]
  refine reg_call (i := 2) rfl (by kernel_rfl) (by rfl) fun K hK => ?_
  go_simp
  refine (start_any A l c B d k bss w _ h (Nat.le_of_lt kl)).mono ?_
  rintro e w2 ⟨A2, c2, B2, d2, rfl, la2, hb2⟩
  have b2 := b1.drew.trans (hb2.mono b1.size)
  refine hK.out _ _ hb2 ?_
  clear hK K
  try simp only [List.setIfInBounds_toArray, List.set_cons_zero, List.set_cons_succ]
  refine reg_call (i := 3) rfl (by kernel_rfl) (by rfl) fun K hK => ?_
  go_simp
  refine (rootL_any A2 k c2 B2 d2 (bss.take k) _ (HT.out _ b2) (la2.below b2)).mono ?_
  rintro e w3 ⟨rfl, hb3⟩
  rw [R1.out]
  have b3 := b2.trans (hb3.mono b2.size)
  refine hK.out _ _ hb3 ?_
  clear hK K
  try simp only [List.setIfInBounds_toArray, List.set_cons_zero, List.set_cons_succ]
  refine reg_call (i := 6) rfl (by kernel_rfl) (by rfl) fun K hK => ?_
  go_simp
  refine (rest_any A l c B d k bss w _ h (Nat.le_of_lt kl)).mono ?_
  rintro e w4 ⟨A4, c4, B4, d4, rfl, la4, hb4⟩
  have b4 := b3.trans (hb4.mono b3.size)
  refine hK.out _ _ hb4 ?_
  clear hK K
  try simp only [List.setIfInBounds_toArray, List.set_cons_zero, List.set_cons_succ]
  refine reg_call (i := 7) rfl (by kernel_rfl) (by rfl) fun K hK => ?_
  go_simp
  refine (rootL_any A4 (l - k) c4 B4 d4 (bss.drop k) _ (HT.out _ b4) (la4.below b4)).mono ?_
  rintro e w5 ⟨rfl, hb5⟩
  rw [R2.out]
  have b5 := b4.trans (hb5.mono b4.size)
  refine hK.out _ _ hb5 ?_
  clear hK K
  try simp only [List.setIfInBounds_toArray, List.set_cons_zero, List.set_cons_succ]
  refine reg_call (i := 8) rfl (by kernel_rfl) (by rfl) fun K hK => ?_
  go_simp
  refine (SealW.nodeBytes_new r1 r2 _ (by rw [ZP.out]; omega) (by rw [ZQ.out]; omega)).mono ?_
  rintro e w6 ⟨A6, c6, rfl, s6, k6, m6, n6, hb6⟩
  have b6 := b5.trans (hb6.mono b5.size)
  rw [ZP.out, ZQ.out] at k6 ⊢
  have n6 := fun b o s e => Nat.le_trans b5.size (n6 b o s e)
  refine hK.out _ _ hb6 ?_
  clear hK K
  try simp only [List.setIfInBounds_toArray, List.set_cons_zero, List.set_cons_succ]
  refine reg_take (i := 9) (d := some 2) (v := (.slice A6 (32 + 32 + 1) c6)) rfl rfl (by kernel_rfl) (by kernel_rfl) (by kernel_rfl) (fun _ _ _ h => h) (by rfl) (by intro w' hSw; go_simp) ?_
  try simp only [Act.put, List.setIfInBounds_toArray, List.set_cons_zero, List.set_cons_succ]
  refine wpAnyH_done (by kernel_rfl) ?_ _
  go_wp2_with fail
  go_ret
  exact ⟨A6, c6, rfl, by rw [HTP.out]; exact s6, k6, m6, n6, b6⟩
end Go.Proofs.YtihkfomldbjpoaaDoor.ClW

/- clash: lists. -/
namespace Go.Proofs.YtihkfomldbjpoaaDoor.ClW
open Go.RowKit TreeW ConsW TrW ClashW
open ShaW Sha
theorem fv_of {N : Nat} {args : Array Value} {w : World} {S : Nat → Prop} {o : Cl} {B : Nat} (h : Calls Tryd.prog N args w fun e w' => ∃ v, e = .returned v ∧ Fd S w' v o ∧ Below B w w') :
    Calls Tryd.prog N args w fun e w' => ∃ N p q, e = .returned (.func (.func N) #[] #[.pointer (some ⟨p, 0, none⟩), .pointer (some ⟨q, 0, none⟩)]) ∧ Fd S w' (.func (.func N) #[] #[.pointer (some ⟨p, 0, none⟩), .pointer (some ⟨q, 0, none⟩)]) o ∧ Below B w w' :=
  h.mono fun e w' ⟨v, h1, h2, h3⟩ => by
    have k := h2
    obtain ⟨N, p, q, rfl, _⟩ := k
    exact ⟨N, p, q, h1, h2, h3⟩
/-- What is promised of lists of up to f leaves. -/
def LP (f : Nat) : Prop := ∀ (S : Nat → Prop) (base : Nat) (A : Option Addr) (l c : Nat) (B : Option Addr) (d : Nat) (A' : Option Addr) (c' : Nat) (B' : Option Addr) (d' : Nat) (a b : List (List UInt8)) (w0 w : World), Tab w0 → w0.heap.size = base → Below base w0 w →
  (∀ k, S k → base ≤ k ∧ k < w.heap.size) → LA w0 a A l c B d → LA w0 b A' l c' B' d' → 1 ≤ l → l ≤ f →
  Calls Tryd.prog 48 #[.agg #[.slice A l c, .slice B l d], .agg #[.slice A' l c', .slice B' l d']] w fun e w' => ∃ v, e = .returned v ∧ Fd S w' v (tc a b) ∧ Below w.heap.size w w'
theorem fo_three (a b c : Cl) : fo [a, b, c] = orE a (orE b c) := by rw [fo, fo, fo, fo, orE_last]
set_option maxRecDepth 1000000 in
set_option maxHeartbeats 8000000 in
theorem lists1_any (f : Nat) (ih : LP f) (p q : Nat) (A : Option Addr) (l c : Nat) (B : Option Addr) (d : Nat) (A' : Option Addr) (c' : Nat) (B' : Option Addr) (d' : Nat) (a b : List (List UInt8)) (w : World) (hT : Tab w)
    (hp : At w p 62 [.slice A l c, .slice B l d]) (hq : At w q 62 [.slice A' l c', .slice B' l d']) (la : LA w a A l c B d) (lb : LA w b A' l c' B' d') (h1 : 1 ≤ l) (hf : l ≤ f + 1) :
    Calls Tryd.prog 78 #[.pointer (some ⟨p, 0, none⟩), .pointer (some ⟨q, 0, none⟩)] w (Tells (tc a b) w) := by
  have h0 : At (w.alloc (.cells #[.slice none 0 0, .slice none 0 0] 29)) w.heap.size 29 [.slice none 0 0, .slice none 0 0] := At.new_ w _ 29 _ rfl
  have b0 : Below w.heap.size w (w.alloc (.cells #[.slice none 0 0, .slice none 0 0] 29)) := (Below.refl _ _).alloc (Nat.le_refl _) _
  have HT := Lib.hid (fun W (hb : Below w.heap.size w W) => hT.below hb hT.pos)
  have HP0 : Hid (∀ w', Below w.heap.size w w' → w'.cell? ⟨p, 0, none⟩ = some (.slice A l c)) := fun w' hb => (hp.below hb hp.lt).cell 0
  have HP1 : Hid (∀ w', Below w.heap.size w w' → w'.cell? ⟨p, 1, none⟩ = some (.slice B l d)) := fun w' hb => (hp.below hb hp.lt).cell 1
  have HQ0 : Hid (∀ w', Below w.heap.size w w' → w'.cell? ⟨q, 0, none⟩ = some (.slice A' l c')) := fun w' hb => (hq.below hb hq.lt).cell 0
  have HQ1 : Hid (∀ w', Below w.heap.size w w' → w'.cell? ⟨q, 1, none⟩ = some (.slice B' l d')) := fun w' hb => (hq.below hb hq.lt).cell 1
  have c0 := HP0.out _ b0
  have c1 := HP1.out _ b0
  have hl40 := la.l40
  clear hp hq
  by_cases h1l : l = 1
  · subst h1l
    obtain ⟨vs, hA, hR⟩ := la.ex
    obtain ⟨us, hB, hS⟩ := lb.ex
    have hl := la.len
    have hlb := lb.len
    have hbd := la.bd
    have hbb := lb.bd
    have HONE := Lib.hid (tc_one (b := b) hl)
    obtain ⟨ba, oa, rfl, hblt, hcell⟩ := hA.get (j := 0) (by rw [hR.1]; omega)
    obtain ⟨R0, dq, hv, hR0, hRd, hdd⟩ := hR.2 0 (by omega)
    have hc0 : w.cell? ⟨ba, oa, none⟩ = some (.slice R0 (a.getD 0 []).length dq) := hcell 0 _ hv
    have hr40 := hbd (a.getD 0 []) (by simp [List.getD, show 0 < a.length by omega])
    obtain ⟨r0, hr0⟩ : ∃ r0, a.getD 0 [] = r0 := ⟨_, rfl⟩
    rw [hr0] at HONE hR0 hRd hc0 hr40
    obtain ⟨q0, hq0⟩ : ∃ q0, r0.length = q0 := ⟨_, rfl⟩
    rw [hq0] at hRd hc0 hr40
    have HL0 := Lib.hid hq0
    have HCELL : Hid (∀ w', Below w.heap.size w w' → w'.cell? ⟨ba, oa, none⟩ = some (.slice R0 q0 dq)) := fun w' hb => (hb.cell (p := ⟨ba, oa, none⟩) hblt).trans hc0
    obtain ⟨bb, ob, rfl, hbltb, hcellb⟩ := hB.get (j := 0) (by rw [hS.1]; omega)
    obtain ⟨S0, dp, hvb, hS0, hSd, hdp⟩ := hS.2 0 (by omega)
    have hc1 : w.cell? ⟨bb, ob, none⟩ = some (.slice S0 (b.getD 0 []).length dp) := hcellb 0 _ hvb
    have hs40 := hbb (b.getD 0 []) (by simp [List.getD, show 0 < b.length by omega])
    obtain ⟨s0, hs0⟩ : ∃ s0, b.getD 0 [] = s0 := ⟨_, rfl⟩
    rw [hs0] at HONE hS0 hSd hc1 hs40
    obtain ⟨p0, hp0⟩ : ∃ p0, s0.length = p0 := ⟨_, rfl⟩
    rw [hp0] at hSd hc1 hs40
    have HM0 := Lib.hid hp0
    have HCELB : Hid (∀ w', Below w.heap.size w w' → w'.cell? ⟨bb, ob, none⟩ = some (.slice S0 p0 dp)) := fun w' hb => (hb.cell (p := ⟨bb, ob, none⟩) hbltb).trans hc1
    have hlc := la.lc
    have hlcb := lb.lc
    clear hl hA hR hbd hlb hB hS hbb hcell hv hc0 hr0 hq0 hcellb hvb hc1 hs0 hp0 ih la lb
    go_enter Tryd.func78, Tryd.ntmps78
    go_wp2_with fail
    refine (splitL_any (some ⟨ba, oa, none⟩) 1 c B d 0 _ (.inl ⟨by omega, rfl⟩) hl40).mono ?_
    rintro e w1 ⟨rfl, hb1⟩
    have b1 := b0.trans (hb1.mono b0.size)
    have h2 := h0.below hb1 h0.lt
    clear h0 b0 hb1 c0 c1
    go_wp2_with fail
    have b1 := b1.drew
    have h2 := h2.drew
    refine regB_begin (w.heap.size) (by kernel_rfl) ?_
    change wpAnyH _ _ _ _ _ 15 #[false, false, false, false, false, false, false, false, false, false, false, false, false, false, false] _ _
    refine regB_take (i := 0) (d := some 9) (v := (.pointer (some ⟨p, 0, none⟩))) rfl rfl (by kernel_rfl) (by kernel_rfl) (by kernel_rfl) (fun _ _ _ h => h) (by rfl) (by intro w' hSw; go_simp) ?_
    try simp only [Act.put, List.setIfInBounds_toArray, List.set_cons_zero, List.set_cons_succ]
    refine regB_take (i := 1) (d := some 10) (v := (.slice (some ⟨ba, oa, none⟩) 1 c)) rfl rfl (by kernel_rfl) (by kernel_rfl) (by kernel_rfl) (fun _ _ _ h => h) (by rfl) (by intro w' hSw; have h9 := HP0.out w' (b1.trans hSw); go_simp) ?_
    try simp only [Act.put, List.setIfInBounds_toArray, List.set_cons_zero, List.set_cons_succ]
    refine regB_take (i := 2) (d := some 11) (v := (.pointer (some ⟨ba, oa, none⟩))) rfl rfl (by kernel_rfl) (by kernel_rfl) (by kernel_rfl) (fun _ _ _ h => h) (by rfl) (by intro w' hSw; go_simp) ?_
    try simp only [Act.put, List.setIfInBounds_toArray, List.set_cons_zero, List.set_cons_succ]
    refine regB_take (i := 3) (d := some 12) (v := (.slice R0 q0 dq)) rfl rfl (by kernel_rfl) (by kernel_rfl) (by kernel_rfl) (fun _ _ _ h => h) (by rfl) (by intro w' hSw; have h9 := HCELL.out w' (b1.trans hSw); go_simp) ?_
    try simp only [Act.put, List.setIfInBounds_toArray, List.set_cons_zero, List.set_cons_succ]
    refine regB_take (i := 4) (d := some 13) (v := (.pointer (some ⟨q, 0, none⟩))) rfl rfl (by kernel_rfl) (by kernel_rfl) (by kernel_rfl) (fun _ _ _ h => h) (by rfl) (by intro w' hSw; go_simp) ?_
    try simp only [Act.put, List.setIfInBounds_toArray, List.set_cons_zero, List.set_cons_succ]
    refine regB_take (i := 5) (d := some 14) (v := (.slice (some ⟨bb, ob, none⟩) 1 c')) rfl rfl (by kernel_rfl) (by kernel_rfl) (by kernel_rfl) (fun _ _ _ h => h) (by rfl) (by intro w' hSw; have h9 := HQ0.out w' (b1.trans hSw); go_simp) ?_
    try simp only [Act.put, List.setIfInBounds_toArray, List.set_cons_zero, List.set_cons_succ]
    refine regB_take (i := 6) (d := some 15) (v := (.pointer (some ⟨bb, ob, none⟩))) rfl rfl (by kernel_rfl) (by kernel_rfl) (by kernel_rfl) (fun _ _ _ h => h) (by rfl) (by intro w' hSw; go_simp) ?_
    try simp only [Act.put, List.setIfInBounds_toArray, List.set_cons_zero, List.set_cons_succ]
    refine regB_take (i := 7) (d := some 16) (v := (.slice S0 p0 dp)) rfl rfl (by kernel_rfl) (by kernel_rfl) (by kernel_rfl) (fun _ _ _ h => h) (by rfl) (by intro w' hSw; have h9 := HCELB.out w' (b1.trans hSw); go_simp) ?_
    try simp only [Act.put, List.setIfInBounds_toArray, List.set_cons_zero, List.set_cons_succ]
    refine regB_call (i := 8) rfl (by kernel_rfl) (by rfl) fun K hK => ?_
    go_simp
    refine (fv_of (leaves_any (fun _ => False) w.heap.size R0 q0 dq r0 S0 p0 dp s0 w _ (HT.out _ (Below.refl _ _)) rfl b1 (fun _ h => h.elim) HL0.out (hR0.below b1) HM0.out (hS0.below b1) hr40 hs40)).mono ?_
    rintro e w3 ⟨N3, p3, q3, rfl, hf3, hb3⟩
    have b3 := b1.trans (hb3.mono b1.size)
    have h3 := h2.below hb3 h2.lt
    refine hK.out _ _ (hb3.mono b1.size) ?_
    clear hK K
    try simp only [List.setIfInBounds_toArray, List.set_cons_zero, List.set_cons_succ]
    refine regB_call (i := 9) rfl (by kernel_rfl) (by rfl) fun K hK => ?_
    go_simp
    have b4 := b3.alloc b3.size (.cells #[(.func (.func N3) #[] #[.pointer (some ⟨p3, 0, none⟩), .pointer (some ⟨q3, 0, none⟩)])] 70)
    refine hK.out _ _ ((Below.refl _ _).alloc b3.size _) ?_
    clear hK K
    try simp only [List.setIfInBounds_toArray, List.set_cons_zero, List.set_cons_succ]
    refine regB_call (i := 10) rfl (by kernel_rfl) (by rfl) fun K hK => ?_
    go_simp
    refine (first_any (fun _ => False) (some ⟨w3.heap.size, 0, none⟩) 1 1 [(.func (.func N3) #[] #[.pointer (some ⟨p3, 0, none⟩), .pointer (some ⟨q3, 0, none⟩)])] [_] _ rfl (Sl.of_at_all (At.new_ w3 _ 70 [(.func (.func N3) #[] #[.pointer (some ⟨p3, 0, none⟩), .pointer (some ⟨q3, 0, none⟩)])] rfl)) (Fds.sole (hf3.below ((Below.refl _ _).alloc (Nat.le_refl _) _))) (by omega)).mono ?_
    rintro e w5 ⟨A5, n5, c5, B5, m5, d5, z5, rfl, t5, hb5⟩
    have b5 := b4.trans (hb5.mono b4.size)
    have h4 := h3.alloc (.cells #[(.func (.func N3) #[] #[.pointer (some ⟨p3, 0, none⟩), .pointer (some ⟨q3, 0, none⟩)])] 70)
    have h5 := h4.below hb5 h4.lt
    have hlt5 := h4.lt
    rw [fo_one] at t5
    refine hK.out _ _ (hb5.mono b4.size) ?_
    clear hK K
    try simp only [List.setIfInBounds_toArray, List.set_cons_zero, List.set_cons_succ]
    refine regB_take (i := 11) (d := some 20) (v := (.agg #[.slice A5 n5 c5, .slice B5 m5 d5])) rfl rfl (by kernel_rfl) (by kernel_rfl) (by kernel_rfl) (fun _ _ _ h => h) (by rfl) (by intro w' hSw; go_simp) ?_
    try simp only [Act.put, List.setIfInBounds_toArray, List.set_cons_zero, List.set_cons_succ]
    refine regB_take (i := 12) (d := some 21) (v := (.bool z5)) rfl rfl (by kernel_rfl) (by kernel_rfl) (by kernel_rfl) (fun _ _ _ h => h) (by rfl) (by intro w' hSw; go_simp) ?_
    try simp only [Act.put, List.setIfInBounds_toArray, List.set_cons_zero, List.set_cons_succ]
    refine regB_call (i := 13) rfl (by kernel_rfl) (by rfl) fun K hK => ?_
    refine oper_storeB rfl 29 (.tmp 2) (.tmp 20) rfl SealW.clashTy w.heap.size (by rfl) [.slice A5 n5 c5, .slice B5 m5 d5] rfl 29 _ h5 rfl rfl slices_one ?_
    intro x6 k6 o6
    have b6 := o6.below _ _ b5 (Nat.le_refl _)
    refine hK.out _ _ (o6.below _ _ (Below.refl _ _) (Nat.le_refl _)) ?_
    clear hK K
    try simp only [List.setIfInBounds_toArray, List.set_cons_zero, List.set_cons_succ]
    refine regB_take (i := 14) (d := some 3) (v := (.bool z5)) rfl rfl (by kernel_rfl) (by kernel_rfl) (by kernel_rfl) (fun _ _ _ h => h) (by rfl) (by intro w' hSw; go_simp) ?_
    try simp only [Act.put, List.setIfInBounds_toArray, List.set_cons_zero, List.set_cons_succ]
    refine wpAnyH_done (by kernel_rfl) ?_ _
    go_wp2_with fail
    exact bodyPost_ret (v := .tuple #[.agg #[.slice A5 n5 c5, .slice B5 m5 d5], .bool z5]) (results_cellA2 rfl SealW.clashTy _ _ w.heap.size 29 [.slice A5 n5 c5, .slice B5 m5 d5] rfl k6 rfl _ rfl) rfl
      ⟨A5, n5, c5, B5, m5, d5, z5, rfl, by rw [HONE.out]; exact (t5.only o6 hlt5).base (Nat.le_of_lt hlt5), b6⟩
  · have h2l : 2 ≤ l := by omega
    obtain ⟨kl, kp⟩ : split l < l ∧ 1 ≤ split l := by
      obtain ⟨x1, x2, _, _⟩ := split_spec h2l
      exact ⟨x2, x1⟩
    have HTWO := Lib.hid (tc_two (a := a) (b := b) (k := split l) (by rw [la.len]) (by rw [la.len]; exact h2l))
    have HTLA : Hid ((tp (a.map lf)).length = 65) := tp_len (lf_digs a)
    have HTLB : Hid ((tp (b.map lf)).length = 65) := tp_len (lf_digs b)
    obtain ⟨ta, hta⟩ : ∃ t, tp (a.map lf) = t := ⟨_, rfl⟩
    obtain ⟨tb, htb⟩ : ∃ t, tp (b.map lf) = t := ⟨_, rfl⟩
    rw [hta, htb] at HTWO
    rw [hta] at HTLA
    rw [htb] at HTLB
    have HTA := Lib.hid hta
    have HTB := Lib.hid htb
    have LA_ := Lib.hid la
    have LB_ := Lib.hid lb
    clear hta htb la lb
    go_enter Tryd.func78, Tryd.ntmps78
    go_wp2_with fail
    refine (splitL_any A l c B d ((split l : Nat) : Int) _ (.inr ⟨h2l, rfl⟩) hl40).mono ?_
    rintro e w1 ⟨rfl, hb1⟩
    obtain ⟨k, hk⟩ : ∃ k, split l = k := ⟨_, rfl⟩
    rw [hk] at HTWO kl kp ⊢
    have b1 := b0.trans (hb1.mono b0.size)
    have h2 := h0.below hb1 h0.lt
    have hk0 : ((k : Int) == 0) = false := by simpa using (show ¬ (k : Int) = 0 by omega)
    clear h0 b0 hb1 c0 c1 hk
    go_wp2_with fail
    have b1 := b1.drew
    have h2 := h2.drew
    refine regB_begin (w.heap.size) (by kernel_rfl) ?_
    change wpAnyH _ _ _ _ _ 25 #[false, false, false, false, false, false, false, false, false, false, false, false, false, false, false, false, false, false, false, false, false, false, false, false, false] _ _
    refine regB_take (i := 0) (d := some 22) (v := (.agg #[.slice A l c, .slice B l d])) rfl rfl (by kernel_rfl) (by kernel_rfl) (by kernel_rfl) (fun _ _ _ h => h) (by rfl) (by intro w' hSw; have f0 := HP0.out w' (b1.trans hSw); have f1 := HP1.out w' (b1.trans hSw); go_simp) ?_
    try simp only [Act.put, List.setIfInBounds_toArray, List.set_cons_zero, List.set_cons_succ]
    refine regB_take (i := 2) (d := some 24) (v := (.agg #[.slice A' l c', .slice B' l d'])) rfl rfl (by kernel_rfl) (by kernel_rfl) (by kernel_rfl) (fun _ _ _ h => h) (by rfl) (by intro w' hSw; have f0 := HQ0.out w' (b1.trans hSw); have f1 := HQ1.out w' (b1.trans hSw); go_simp) ?_
    try simp only [Act.put, List.setIfInBounds_toArray, List.set_cons_zero, List.set_cons_succ]
    refine regB_take (i := 5) (d := some 27) (v := (.agg #[.slice A l c, .slice B l d])) rfl rfl (by kernel_rfl) (by kernel_rfl) (by kernel_rfl) (fun _ _ _ h => h) (by rfl) (by intro w' hSw; have f0 := HP0.out w' (b1.trans hSw); have f1 := HP1.out w' (b1.trans hSw); go_simp) ?_
    try simp only [Act.put, List.setIfInBounds_toArray, List.set_cons_zero, List.set_cons_succ]
    refine regB_take (i := 6) (d := some 28) (v := (.int .i64 (k : Int))) rfl rfl (by kernel_rfl) (by kernel_rfl) (by kernel_rfl) (fun _ _ _ h => h) (by rfl) (by intro w' hSw; go_simp) ?_
    try simp only [Act.put, List.setIfInBounds_toArray, List.set_cons_zero, List.set_cons_succ]
    refine regB_take (i := 8) (d := some 30) (v := (.agg #[.slice A' l c', .slice B' l d'])) rfl rfl (by kernel_rfl) (by kernel_rfl) (by kernel_rfl) (fun _ _ _ h => h) (by rfl) (by intro w' hSw; have f0 := HQ0.out w' (b1.trans hSw); have f1 := HQ1.out w' (b1.trans hSw); go_simp) ?_
    try simp only [Act.put, List.setIfInBounds_toArray, List.set_cons_zero, List.set_cons_succ]
    refine regB_take (i := 9) (d := some 31) (v := (.int .i64 (k : Int))) rfl rfl (by kernel_rfl) (by kernel_rfl) (by kernel_rfl) (fun _ _ _ h => h) (by rfl) (by intro w' hSw; go_simp) ?_
    try simp only [Act.put, List.setIfInBounds_toArray, List.set_cons_zero, List.set_cons_succ]
    refine regB_take (i := 12) (d := some 34) (v := (.agg #[.slice A l c, .slice B l d])) rfl rfl (by kernel_rfl) (by kernel_rfl) (by kernel_rfl) (fun _ _ _ h => h) (by rfl) (by intro w' hSw; have f0 := HP0.out w' (b1.trans hSw); have f1 := HP1.out w' (b1.trans hSw); go_simp) ?_
    try simp only [Act.put, List.setIfInBounds_toArray, List.set_cons_zero, List.set_cons_succ]
    refine regB_take (i := 13) (d := some 35) (v := (.int .i64 (k : Int))) rfl rfl (by kernel_rfl) (by kernel_rfl) (by kernel_rfl) (fun _ _ _ h => h) (by rfl) (by intro w' hSw; go_simp) ?_
    try simp only [Act.put, List.setIfInBounds_toArray, List.set_cons_zero, List.set_cons_succ]
    refine regB_take (i := 15) (d := some 37) (v := (.agg #[.slice A' l c', .slice B' l d'])) rfl rfl (by kernel_rfl) (by kernel_rfl) (by kernel_rfl) (fun _ _ _ h => h) (by rfl) (by intro w' hSw; have f0 := HQ0.out w' (b1.trans hSw); have f1 := HQ1.out w' (b1.trans hSw); go_simp) ?_
    try simp only [Act.put, List.setIfInBounds_toArray, List.set_cons_zero, List.set_cons_succ]
    refine regB_take (i := 16) (d := some 38) (v := (.int .i64 (k : Int))) rfl rfl (by kernel_rfl) (by kernel_rfl) (by kernel_rfl) (fun _ _ _ h => h) (by rfl) (by intro w' hSw; go_simp) ?_
    try simp only [Act.put, List.setIfInBounds_toArray, List.set_cons_zero, List.set_cons_succ]
    refine regB_call (i := 1) rfl (by kernel_rfl) (by rfl) fun K hK => ?_
    go_simp
    refine (nodeL_any A l c B d a _ (HT.out _ b1) (LA_.out.below b1) h2l).mono ?_
    rintro e w31 ⟨A31, c31, rfl, s31, k31, m31, n31, hb31⟩
    have b31 := b1.trans (hb31.mono b1.size)
    have h31 := h2.below hb31 h2.lt
    rw [HTA.out] at s31
    refine hK.out _ _ (hb31.mono b1.size) ?_
    clear hK K
    try simp only [List.setIfInBounds_toArray, List.set_cons_zero, List.set_cons_succ]
    refine regB_call (i := 3) rfl (by kernel_rfl) (by rfl) fun K hK => ?_
    go_simp
    refine (nodeL_any A' l c' B' d' b _ (HT.out _ b31) (LB_.out.below b31) h2l).mono ?_
    rintro e w32 ⟨A32, c32, rfl, s32, k32, m32, n32, hb32⟩
    have b32 := b31.trans (hb32.mono b31.size)
    have h32 := h31.below hb32 h31.lt
    rw [HTB.out] at s32
    have s31 := s31.below hb32
    refine hK.out _ _ (hb32.mono b31.size) ?_
    clear hK K
    try simp only [List.setIfInBounds_toArray, List.set_cons_zero, List.set_cons_succ]
    refine regB_call (i := 4) rfl (by kernel_rfl) (by rfl) fun K hK => ?_
    go_simp
    refine (fv_of (pair_any (fun _ => False) w.heap.size A31 65 c31 ta A32 65 c32 tb w _ (HT.out _ (Below.refl _ _)) rfl b32 (fun _ h => h.elim) HTLA.out s31 HTLB.out s32 (by omega) (by omega) k31 m31 k32 m32 (fun _ _ _ _ h => h.elim) (fun _ _ _ _ h => h.elim))).mono ?_
    rintro e w33 ⟨N33, p33, q33, rfl, f33, hb33⟩
    have b33 := b32.trans (hb33.mono b32.size)
    have h33 := h32.below hb33 h32.lt
    refine hK.out _ _ (hb33.mono b32.size) ?_
    clear hK K
    try simp only [List.setIfInBounds_toArray, List.set_cons_zero, List.set_cons_succ]
    refine regB_call (i := 7) rfl (by kernel_rfl) (by rfl) fun K hK => ?_
    go_simp
    refine (start_any A l c B d k a w _ LA_.out (Nat.le_of_lt kl)).mono ?_
    rintro e w34 ⟨A34, c34, B34, d34, rfl, la34, hb34⟩
    have b34 := b33.trans (hb34.mono b33.size)
    have h34 := h33.below hb34 h33.lt
    have f33 := f33.below hb34
    refine hK.out _ _ (hb34.mono b33.size) ?_
    clear hK K
    try simp only [List.setIfInBounds_toArray, List.set_cons_zero, List.set_cons_succ]
    refine regB_call (i := 10) rfl (by kernel_rfl) (by rfl) fun K hK => ?_
    go_simp
    refine (start_any A' l c' B' d' k b w _ LB_.out (Nat.le_of_lt kl)).mono ?_
    rintro e w35 ⟨A35, c35, B35, d35, rfl, la35, hb35⟩
    have b35 := b34.trans (hb35.mono b34.size)
    have h35 := h34.below hb35 h34.lt
    have f33 := f33.below hb35
    refine hK.out _ _ (hb35.mono b34.size) ?_
    clear hK K
    try simp only [List.setIfInBounds_toArray, List.set_cons_zero, List.set_cons_succ]
    refine regB_call (i := 11) rfl (by kernel_rfl) (by rfl) fun K hK => ?_
    go_simp
    refine (fv_of (ih (fun _ => False) w.heap.size A34 k c34 B34 d34 A35 c35 B35 d35 (a.take k) (b.take k) w _ (HT.out _ (Below.refl _ _)) rfl b35 (fun _ h => h.elim) la34 la35 kp (by omega))).mono ?_
    rintro e w36 ⟨N36, p36, q36, rfl, f36, hb36⟩
    have b36 := b35.trans (hb36.mono b35.size)
    have h36 := h35.below hb36 h35.lt
    have f33 := f33.below hb36
    refine hK.out _ _ (hb36.mono b35.size) ?_
    clear hK K
    try simp only [List.setIfInBounds_toArray, List.set_cons_zero, List.set_cons_succ]
    refine regB_call (i := 14) rfl (by kernel_rfl) (by rfl) fun K hK => ?_
    go_simp
    refine (rest_any A l c B d k a w _ LA_.out (Nat.le_of_lt kl)).mono ?_
    rintro e w37 ⟨A37, c37, B37, d37, rfl, la37, hb37⟩
    have b37 := b36.trans (hb37.mono b36.size)
    have h37 := h36.below hb37 h36.lt
    have f33 := f33.below hb37
    have f36 := f36.below hb37
    refine hK.out _ _ (hb37.mono b36.size) ?_
    clear hK K
    try simp only [List.setIfInBounds_toArray, List.set_cons_zero, List.set_cons_succ]
    refine regB_call (i := 17) rfl (by kernel_rfl) (by rfl) fun K hK => ?_
    go_simp
    refine (rest_any A' l c' B' d' k b w _ LB_.out (Nat.le_of_lt kl)).mono ?_
    rintro e w38 ⟨A38, c38, B38, d38, rfl, la38, hb38⟩
    have b38 := b37.trans (hb38.mono b37.size)
    have h38 := h37.below hb38 h37.lt
    have f33 := f33.below hb38
    have f36 := f36.below hb38
    refine hK.out _ _ (hb38.mono b37.size) ?_
    clear hK K
    try simp only [List.setIfInBounds_toArray, List.set_cons_zero, List.set_cons_succ]
    refine regB_call (i := 18) rfl (by kernel_rfl) (by rfl) fun K hK => ?_
    go_simp
    refine (fv_of (ih (fun _ => False) w.heap.size A37 (l - k) c37 B37 d37 A38 c38 B38 d38 (a.drop k) (b.drop k) w _ (HT.out _ (Below.refl _ _)) rfl b38 (fun _ h => h.elim) la37 la38 (by omega) (by omega))).mono ?_
    rintro e w39 ⟨N39, p39, q39, rfl, f39, hb39⟩
    have b39 := b38.trans (hb39.mono b38.size)
    have h39 := h38.below hb39 h38.lt
    have f33 := f33.below hb39
    have f36 := f36.below hb39
    refine hK.out _ _ (hb39.mono b38.size) ?_
    clear hK K
    try simp only [List.setIfInBounds_toArray, List.set_cons_zero, List.set_cons_succ]
    refine regB_call (i := 19) rfl (by kernel_rfl) (by rfl) fun K hK => ?_
    go_simp
    have b40 := b39.alloc b39.size (.cells #[(.func (.func N33) #[] #[.pointer (some ⟨p33, 0, none⟩), .pointer (some ⟨q33, 0, none⟩)]), (.func (.func N36) #[] #[.pointer (some ⟨p36, 0, none⟩), .pointer (some ⟨q36, 0, none⟩)]), (.func (.func N39) #[] #[.pointer (some ⟨p39, 0, none⟩), .pointer (some ⟨q39, 0, none⟩)])] 70)
    refine hK.out _ _ ((Below.refl _ _).alloc b39.size _) ?_
    clear hK K
    try simp only [List.setIfInBounds_toArray, List.set_cons_zero, List.set_cons_succ]
    refine regB_call (i := 20) rfl (by kernel_rfl) (by rfl) fun K hK => ?_
    go_simp
    refine (first_any (fun _ => False) (some ⟨w39.heap.size, 0, none⟩) 3 3 [(.func (.func N33) #[] #[.pointer (some ⟨p33, 0, none⟩), .pointer (some ⟨q33, 0, none⟩)]), (.func (.func N36) #[] #[.pointer (some ⟨p36, 0, none⟩), .pointer (some ⟨q36, 0, none⟩)]), (.func (.func N39) #[] #[.pointer (some ⟨p39, 0, none⟩), .pointer (some ⟨q39, 0, none⟩)])] [_, _, _] _ rfl (Sl.of_at_all (At.new_ w39 _ 70 [(.func (.func N33) #[] #[.pointer (some ⟨p33, 0, none⟩), .pointer (some ⟨q33, 0, none⟩)]), (.func (.func N36) #[] #[.pointer (some ⟨p36, 0, none⟩), .pointer (some ⟨q36, 0, none⟩)]), (.func (.func N39) #[] #[.pointer (some ⟨p39, 0, none⟩), .pointer (some ⟨q39, 0, none⟩)])] rfl)) (Fds.cons (f33.below ((Below.refl _ _).alloc (Nat.le_refl _) _)) (Fds.cons (f36.below ((Below.refl _ _).alloc (Nat.le_refl _) _)) (Fds.sole (f39.below ((Below.refl _ _).alloc (Nat.le_refl _) _))))) (by omega)).mono ?_
    rintro e w5 ⟨A21, n21, c21, B21, m21, d21, z21, rfl, t5, hb5⟩
    have b5 := b40.trans (hb5.mono b40.size)
    have h40 := h39.alloc (.cells #[(.func (.func N33) #[] #[.pointer (some ⟨p33, 0, none⟩), .pointer (some ⟨q33, 0, none⟩)]), (.func (.func N36) #[] #[.pointer (some ⟨p36, 0, none⟩), .pointer (some ⟨q36, 0, none⟩)]), (.func (.func N39) #[] #[.pointer (some ⟨p39, 0, none⟩), .pointer (some ⟨q39, 0, none⟩)])] 70)
    have h5 := h40.below hb5 h40.lt
    have hlt5 := h40.lt
    rw [fo_three] at t5
    refine hK.out _ _ (hb5.mono b40.size) ?_
    clear hK K
    try simp only [List.setIfInBounds_toArray, List.set_cons_zero, List.set_cons_succ]
    refine regB_take (i := 21) (d := some 43) (v := (.agg #[.slice A21 n21 c21, .slice B21 m21 d21])) rfl rfl (by kernel_rfl) (by kernel_rfl) (by kernel_rfl) (fun _ _ _ h => h) (by rfl) (by intro w' hSw; go_simp) ?_
    try simp only [Act.put, List.setIfInBounds_toArray, List.set_cons_zero, List.set_cons_succ]
    refine regB_take (i := 22) (d := some 44) (v := (.bool z21)) rfl rfl (by kernel_rfl) (by kernel_rfl) (by kernel_rfl) (fun _ _ _ h => h) (by rfl) (by intro w' hSw; go_simp) ?_
    try simp only [Act.put, List.setIfInBounds_toArray, List.set_cons_zero, List.set_cons_succ]
    refine regB_call (i := 23) rfl (by kernel_rfl) (by rfl) fun K hK => ?_
    refine oper_storeB rfl 29 (.tmp 2) (.tmp 43) rfl SealW.clashTy w.heap.size (by rfl) [.slice A21 n21 c21, .slice B21 m21 d21] rfl 29 _ h5 rfl rfl slices_one ?_
    intro x6 k6 o6
    have b6 := o6.below _ _ b5 (Nat.le_refl _)
    refine hK.out _ _ (o6.below _ _ (Below.refl _ _) (Nat.le_refl _)) ?_
    clear hK K
    try simp only [List.setIfInBounds_toArray, List.set_cons_zero, List.set_cons_succ]
    refine regB_take (i := 24) (d := some 3) (v := (.bool z21)) rfl rfl (by kernel_rfl) (by kernel_rfl) (by kernel_rfl) (fun _ _ _ h => h) (by rfl) (by intro w' hSw; go_simp) ?_
    try simp only [Act.put, List.setIfInBounds_toArray, List.set_cons_zero, List.set_cons_succ]
    refine wpAnyH_done (by kernel_rfl) ?_ _
    go_wp2_with fail
    exact bodyPost_ret (v := .tuple #[.agg #[.slice A21 n21 c21, .slice B21 m21 d21], .bool z21]) (results_cellA2 rfl SealW.clashTy _ _ w.heap.size 29 [.slice A21 n21 c21, .slice B21 m21 d21] rfl k6 rfl _ rfl) rfl
      ⟨A21, n21, c21, B21, m21, d21, z21, rfl, by rw [HTWO.out]; exact (t5.only o6 hlt5).base (Nat.le_of_lt hlt5), b6⟩
set_option maxRecDepth 1000000 in
set_option maxHeartbeats 4000000 in
theorem lists_any : ∀ f, LP f := by
  intro f
  induction f with
  | zero => intro S base A l c B d A' c' B' d' a b w0 w hT hb hbel hS la lb h1 hf; omega
  | succ f ih =>
    intro S base A l c B d A' c' B' d' a b w0 w hT h0 hbel hS la lb h1 hf
    have k0 : At (w.alloc (.cells #[.slice A l c, .slice B l d] 62)) w.heap.size 62 [.slice A l c, .slice B l d] := At.new_ w _ 62 _ rfl
    have b0 : Below w.heap.size w (w.alloc (.cells #[.slice A l c, .slice B l d] 62)) := (Below.refl _ _).alloc (Nat.le_refl _) _
    have hz : (w.alloc (.cells #[.slice A l c, .slice B l d] 62)).heap.size = w.heap.size + 1 := by simp
    have k1 : At ((w.alloc (.cells #[.slice A l c, .slice B l d] 62)).alloc (.cells #[.slice A' l c', .slice B' l d'] 62)) (w.heap.size + 1) 62 [.slice A' l c', .slice B' l d'] := At.new_ _ _ 62 _ hz.symm
    have b1 : Below w.heap.size w ((w.alloc (.cells #[.slice A l c, .slice B l d] 62)).alloc (.cells #[.slice A' l c', .slice B' l d'] 62)) := b0.alloc b0.size _
    have k0' := k0.alloc (.cells #[.slice A' l c', .slice B' l d'] 62)
    have key : Fd S ((w.alloc (.cells #[.slice A l c, .slice B l d] 62)).alloc (.cells #[.slice A' l c', .slice B' l d'] 62)) (fv 78 w.heap.size (w.heap.size + 1)) (tc a b) := by
      refine ⟨_, _, _, rfl, (fun a w' => by kernel_rfl), fun w' hfr => ?_⟩
      have nS0 : ¬ S w.heap.size := fun h => Nat.lt_irrefl _ (hS _ h).2
      have nS1 : ¬ S (w.heap.size + 1) := fun h => by have := (hS _ h).2; omega
      have hbw : Below base w0 w' := hbel.trans (((Below.mono b1 (by rw [← h0]; exact hbel.size)).trans (hfr.below (fun k hk => (hS k hk).1) (by rw [← h0]; exact Nat.le_trans hbel.size b1.size))))
      rw [← h0] at hbw
      exact lists1_any f ih _ _ A l c B d A' c' B' d' a b w' (hT.below hbw hT.pos) (hfr.at_ k0' nS0) (hfr.at_ k1 nS1) (la.below hbw) (lb.below hbw) h1 hf
    have HK := Lib.hid key
    clear key hS hT hbel h0 la lb ih
    go_enter Tryd.func48, Tryd.ntmps48
    go_wp2_with fail
    go_ret
    exact ⟨_, rfl, HK.out, b1⟩
end Go.Proofs.YtihkfomldbjpoaaDoor.ClW

/- Arguments []bool read as lists. Nothing of the dump. -/
namespace Go.Proofs.YtihkfomldbjpoaaDoor
open Go.ChangeShapes Go.WideShapes Go.ChangeAt Go.RowKit
def lcells (l : List Bool) : List Value := l.map Value.bool
theorem lcells_len (l : List Bool) : (lcells l).length = l.length := by simp [lcells]
theorem lcells_get (l : List Bool) (i : Nat) (h : i < l.length) : (lcells l)[i]? = some (.bool (l.getD i false)) := by simp [lcells, h]
/-- An argument []bool as a list. -/
theorem open_booll {P : Program} {H : Type} {enc : TypeId × Value → H} {W : World} {t e : TypeId} (ht : P.underlying t = some (.slice e)) (he : P.underlying e = some .bool) (hc : P.cellsOf e = 1)
    {a : Option Addr} {l c : Nat} {d : DataW H} {p : List MemPlace} (h : DataW.Trod enc P W 0 (fun _ => true) true t (.slice a l c) d p) :
    ∃ bs : List Bool, bs.length = l ∧ Sl W a (lcells bs) ∧ l ≤ c ∧ c ≤ 9223372036854775807 := by
  obtain ⟨fuel, hf⟩ := h
  rcases Go.Deep.open_bools ht he hc hf with ⟨hcs, _⟩ | ⟨x, l', c', B, hcs, _, hl, hm, _, hcell⟩
  · simp [Value.cells] at hcs
    obtain ⟨rfl, rfl, rfl⟩ := hcs
    exact ⟨[], rfl, Sl.nil, Nat.le_refl _, by omega⟩
  · simp [Value.cells] at hcs
    obtain ⟨rfl, rfl, rfl⟩ := hcs
    refine ⟨(List.range l).map B, by simp, ?_, hl, by unfold maxLen at hm; omega⟩
    intro hne
    have hpos : 0 < l := by
      rcases Nat.eq_zero_or_pos l with rfl | h
      · exact absurd (by simp [lcells]) hne
      · exact h
    obtain ⟨b, off, spot⟩ := x
    have hspot : spot = none := by simpa [Addr.add] using World.cell?_spot (hcell 0 (by omega))
    subst hspot
    refine ⟨b, off, rfl, fun j u hu => ?_⟩
    have hj : j < l := by
      have := (List.getElem?_eq_some_iff.1 hu).1
      simpa [lcells] using this
    have hcj := hcell j (by omega)
    rw [add_lit] at hcj
    rw [hcj, ← hu]
    simp [lcells, hj]
end Go.Proofs.YtihkfomldbjpoaaDoor

/- tree: turns. -/
namespace Go.Proofs.YtihkfomldbjpoaaDoor.TrW
open Go.RowKit TreeW
open ShaW Sha
theorem boolsTy : ElemTy Tryd.prog 83 4 (.bool false) 1 := ⟨by kernel_rfl, info_parts (by kernel_rfl), rfl, by omega⟩
/-- Rows of yes and no of the call's own. -/
def OwL (base : Nat) (w : World) (v : Value) (bs : List Bool) : Prop := w.ownsRow base 4 1 v bs.length (lcells bs)
theorem new_bool (W : World) (b : Bool) : Sl (W.alloc (.cells #[.bool b] 4)) (some ⟨W.heap.size, 0, none⟩) (lcells [b]) := Sl.of_at_all (At.new_ W _ 4 (lcells [b]) rfl)
theorem lcells_app (a b : List Bool) : lcells a ++ lcells b = lcells (a ++ b) := by simp [lcells]
theorem lcells_one (l : List Bool) : ∀ v ∈ lcells l, v.oneCell' = true := by
  intro v hv; simp [lcells] at hv; rcases hv with ⟨_, rfl⟩ | ⟨_, rfl⟩ <;> rfl
theorem snoc_ownL {w : World} {base : Nat} {v : Value} {a : List Bool} {x : Bool} {n : Nat} (hn : n = a.length) (h : w.ownsRow base 4 1 v (n + 1) (lcells a ++ lcells [x])) : OwL base w v (a ++ [x]) := by
  subst hn
  unfold OwL
  rw [List.length_append, ← lcells_app]
  exact h
set_option maxRecDepth 1000000 in
set_option maxHeartbeats 2000000 in
theorem turns_any (i n : Nat) (w : World) (hi : i < n) (hn : n ≤ 1099511627776) :
    Calls Tryd.prog 56 #[.int .i64 (i : Int), .int .i64 (n : Int)] w fun e w' => ∃ v, e = .returned v ∧ OwL w.heap.size w' v (turns i n) ∧ Below w.heap.size w w' := by
  have h0 : Below w.heap.size w w := Below.refl _ _
  go_enter Tryd.func56, Tryd.ntmps56
  go_wp2_with fail
  go_loopw [0, 1, 5, 6, 7] (fun vi vn v _ _ wr => ∃ (i' n' : Nat) (ts : List Bool), vi = .int .i64 (i' : Int) ∧ vn = .int .i64 (n' : Int) ∧ i' < n' ∧ ts.length + n' ≤ n ∧ Hid (turns i n = ts ++ turns i' n') ∧ OwL w.heap.size wr v ts ∧ Below w.heap.size w wr) (fun _ vn _ _ _ _ => (intOf vn).toNat)
  case atStart => exact ⟨i, n, [], rfl, rfl, hi, by simp, rfl, World.ownsRow_nil _ _ _ _, h0⟩
  case round =>
    clear h0 hi
    obtain ⟨i', n', ts, rfl, rfl, hi, hle, HK, hown, hbel⟩ := hrel
    by_cases h2 : 2 ≤ n'
    · obtain ⟨a, b, _, _⟩ := split_spec h2
      have hyes := turns_left (i := i') h2
      have hno := turns_right (i := i') h2
      obtain ⟨k, hk⟩ : ∃ k, k = split n' := ⟨_, rfl⟩
      rw [← hk] at a b hyes hno
      have HKK := Lib.hid hk
      have HYS := Lib.hid hyes
      have HNO := Lib.hid hno
      obtain ⟨m, hm⟩ : ∃ m, m = ts.length := ⟨_, rfl⟩
      have HM := Lib.hid hm
      unfold OwL at hown
      rw [← hm] at hown hle
      have hgt : (1 : Int) < (n' : Int) := by omega
      clear hk hyes hno hm
      by_cases hik : i' < k
      · have HT2 : Hid (turns i n = (ts ++ [false]) ++ turns i' k) := by show _ = _; rw [HK.out, HYS.out hik]; simp
        have k5 : ¬ (k : Int) ≤ (i' : Int) := by omega
        have hbx := hbel.alloc hbel.size (.cells #[.bool false] 4)
        have HSL := Lib.hid (fun (W : World) => new_bool W false)
        clear HYS HNO HK
        go_wp2_with fail
        refine (split_in n' _ (by omega) (by omega)).mono ?_
        rintro e w1 ⟨rfl, rfl⟩
        rw [← HKK.out]
        go_wp2_with (refine wpList_app rfl (.tmp 23) (.tmp 25) 83 rfl boolsTy w.heap.size _ m (lcells ts) rfl (hown.alloc _) _ 1 1 (lcells [false]) rfl rfl (HSL.out _) (lcells_one _) (by omega) hbx.size ?_; intro v3 w3 hown3 hgr3 hbl3)
        have hb3 := below_app hbx hgr3 (hown.alloc (.cells #[.bool false] 4)) (Nat.le_refl _) hbx.size
        have hown4 := snoc_ownL HM.out hown3
        clear hown hown3 hgr3 hbl3 hbx
        go_roundw
        case rel => exact ⟨i', k, ts ++ [false], rfl, rfl, hik, by rw [List.length_append, ← HM.out]; simp; omega, HT2, hown4, hb3⟩
        case measure => simp [intOf]; omega
      · have HT2 : Hid (turns i n = (ts ++ [true]) ++ turns (i' - k) (n' - k)) := by show _ = _; rw [HK.out, HNO.out hik]; simp
        have k5 : (k : Int) ≤ (i' : Int) := by omega
        have hbx := hbel.alloc hbel.size (.cells #[.bool true] 4)
        have HSL := Lib.hid (fun (W : World) => new_bool W true)
        clear HYS HNO HK
        go_wp2_with fail
        refine (split_in n' _ (by omega) (by omega)).mono ?_
        rintro e w1 ⟨rfl, rfl⟩
        rw [← HKK.out]
        go_wp2_with (refine wpList_app rfl (.tmp 23) (.tmp 25) 83 rfl boolsTy w.heap.size _ m (lcells ts) rfl (hown.alloc _) _ 1 1 (lcells [true]) rfl rfl (HSL.out _) (lcells_one _) (by omega) hbx.size ?_; intro v3 w3 hown3 hgr3 hbl3)
        have hb3 := below_app hbx hgr3 (hown.alloc (.cells #[.bool true] 4)) (Nat.le_refl _) hbx.size
        have hown4 := snoc_ownL HM.out hown3
        clear hown hown3 hgr3 hbl3 hbx
        go_roundw
        case rel => exact ⟨i' - k, n' - k, ts ++ [true], by go_num, by go_num, by omega, by rw [List.length_append, ← HM.out]; simp; omega, HT2, hown4, hb3⟩
        case measure => simp [intOf]; omega
    · have HF : Hid (turns i n = ts) := by show _ = _; rw [HK.out, turns_one i' n' (by omega), List.append_nil]
      have k5 : ¬ (1 : Int) < (n' : Int) := by omega
      go_wp2_with fail
      go_ret
      exact ⟨_, rfl, by rw [HF.out]; exact hown, hbel⟩
end Go.Proofs.YtihkfomldbjpoaaDoor.TrW

/- tree: Climb. -/
namespace Go.Proofs.YtihkfomldbjpoaaDoor.TrW
open Go.RowKit TreeW
open ShaW Sha
theorem climb_arg (leaf : ByteArray) (i n : Int) (A : Option Addr) (l c : Nat) (w : World) (h : leaf.size ≠ 32 ∨ n < 1 ∨ 1099511627776 < n ∨ i < 0 ∨ n ≤ i) :
    Calls Tryd.prog 25 #[.string leaf, .int .i64 i, .int .i64 n, .slice A l c] w fun e w' => e = .returned (.tuple #[.string ⟨#[]⟩, .int .i64 1]) ∧ w = w' := by
  by_cases h1 : leaf.size = 32
  · have e1 : (leaf.size : Int) = 32 := by omega
    by_cases h2 : n < 1
    · clear h h1
      go_enter Tryd.func25, Tryd.ntmps25
      go_wp2_with fail
      go_ret2
      exact ⟨rfl, rfl⟩
    by_cases h3 : n > 1099511627776
    · clear h h1
      go_enter Tryd.func25, Tryd.ntmps25
      go_wp2_with fail
      go_ret2
      exact ⟨rfl, rfl⟩
    by_cases h4 : i < 0
    · clear h h1
      go_enter Tryd.func25, Tryd.ntmps25
      go_wp2_with fail
      go_ret2
      exact ⟨rfl, rfl⟩
    have h5 : i ≥ n := by omega
    clear h h1
    go_enter Tryd.func25, Tryd.ntmps25
    go_wp2_with fail
    go_ret2
    exact ⟨rfl, rfl⟩
  · have e1 : ¬ (leaf.size : Int) = 32 := by omega
    clear h h1
    go_enter Tryd.func25, Tryd.ntmps25
    go_wp2_with fail
    go_ret2
    exact ⟨rfl, rfl⟩
set_option maxRecDepth 1000000 in
set_option maxHeartbeats 2000000 in
theorem climb_proof (leaf : ByteArray) (i n : Nat) (A : Option Addr) (l c : Nat) (ss : List ByteArray) (w : World) (h1 : leaf.size = 32) (hi : i < n) (hn : n ≤ 1099511627776) (hl : ss.length = l) (hs : Sl w A (scells ss)) (hl63 : l ≤ 9223372036854775807)
    (h : l ≠ steps i n ∨ ¬ Digs ss) :
    Calls Tryd.prog 25 #[.string leaf, .int .i64 (i : Int), .int .i64 (n : Int), .slice A l c] w fun e w' => e = .returned (.tuple #[.string ⟨#[]⟩, .int .i64 6]) ∧ Below w.heap.size w w' := by
  have e1 : (leaf.size : Int) = 32 := by omega
  have e2 : ¬ (n : Int) < 1 := by omega
  have e3 : ¬ (n : Int) > 1099511627776 := by omega
  have e4 : ¬ (i : Int) < 0 := by omega
  have e5 : ¬ (i : Int) ≥ (n : Int) := by omega
  have HL := Lib.hid hl
  have HTL := Lib.hid (turns_len n i n (Nat.le_refl _))
  clear hl h1
  by_cases hlen : l = steps i n
  · have hd : ¬ Digs ss := by
      rcases h with h | h
      · exact absurd hlen h
      · exact h
    have HDN : Hid (decide (Digs ss) = false) := decide_eq_false hd
    clear h hd
    go_enter Tryd.func25, Tryd.ntmps25
    go_wp2_with fail
    refine (turns_any i n _ hi hn).mono ?_
    rintro e w1 ⟨v, rfl, hown, hb1⟩
    obtain ⟨A2, c2, rfl, hsl, hc2, _, hm2, _⟩ := own_slice hown
    rw [HTL.out, ← hlen]
    have hs1 := hs.below hb1
    clear hown hlen hsl
    go_wp2_with fail
    refine (digests_any A l c ss _ HL.out hs1 hl63).mono ?_
    rintro e w2 ⟨rfl, rfl⟩
    rw [HDN.out]
    go_wp2_with fail
    go_ret2
    exact ⟨rfl, hb1⟩
  · obtain ⟨q, hq⟩ : ∃ q, q = steps i n := ⟨_, rfl⟩
    rw [← hq] at hlen HTL
    have e6 : ¬ (l : Int) = (q : Int) := by omega
    clear h hq hlen
    go_enter Tryd.func25, Tryd.ntmps25
    go_wp2_with fail
    refine (turns_any i n _ hi hn).mono ?_
    rintro e w1 ⟨v, rfl, hown, hb1⟩
    obtain ⟨A2, c2, rfl, hsl, hc2, _, hm2, _⟩ := own_slice hown
    rw [HTL.out]
    clear hown hsl
    go_wp2_with fail
    go_ret2
    exact ⟨rfl, hb1⟩
set_option maxRecDepth 1000000 in
set_option maxHeartbeats 2000000 in
theorem climb_ok (leaf : ByteArray) (i n : Nat) (A : Option Addr) (l c : Nat) (ss : List ByteArray) (w : World) (hT : Tab w) (h1 : leaf.size = 32) (hi : i < n) (hn : n ≤ 1099511627776) (hl : ss.length = l) (hs : Sl w A (scells ss)) (hl63 : l ≤ 9223372036854775807)
    (hlen : l = steps i n) (hd : Digs ss) :
    Calls Tryd.prog 25 #[.string leaf, .int .i64 (i : Int), .int .i64 (n : Int), .slice A l c] w fun e w' => e = .returned (.tuple #[.string (climb nd ed leaf i n ss), .int .i64 0]) ∧ Below w.heap.size w w' := by
  have hpos := hT.pos
  have HT := Lib.hid (fun W (hb : Below w.heap.size w W) => hT.below hb hpos)
  have e1 : (leaf.size : Int) = 32 := by omega
  have e2 : ¬ (n : Int) < 1 := by omega
  have e3 : ¬ (n : Int) > 1099511627776 := by omega
  have e4 : ¬ (i : Int) < 0 := by omega
  have e5 : ¬ (i : Int) ≥ (n : Int) := by omega
  have HL := Lib.hid hl
  have HTL : Hid ((turns i n).length = l) := by show _ = _; rw [hlen]; exact turns_len n i n (Nat.le_refl _)
  have HCU := Lib.hid (climb_up nd ed n leaf i n ss (Nat.le_refl _) (by rw [hl]; exact hlen))
  have HDY : Hid (decide (Digs ss) = true) := decide_eq_true hd
  have HD := Lib.hid hd
  have H1 := Lib.hid h1
  clear hl h1 hlen hd hT hpos
  go_enter Tryd.func25, Tryd.ntmps25
  go_wp2_with fail
  refine (turns_any i n _ hi hn).mono ?_
  rintro e w1 ⟨v, rfl, hown, hb1⟩
  obtain ⟨A2, c2, rfl, hsl, hc2, _, hm2, _⟩ := own_slice hown
  rw [HTL.out]
  have hs1 := hs.below hb1
  clear hown hs
  go_wp2_with fail
  refine (digests_any A l c ss _ HL.out hs1 hl63).mono ?_
  rintro e w2 ⟨rfl, rfl⟩
  rw [HDY.out]
  go_wp2_with fail
  go_loopw [11, 12, 49] (fun vd _ vj wr => ∃ (j : Nat) (d : ByteArray), j ≤ l ∧ vj = .int .i64 (j : Int) ∧ vd = .string d ∧ Hid (d.size = 32) ∧ Hid (up nd leaf (turns i n).reverse ss = up nd d ((turns i n).reverse.drop j) (ss.drop j)) ∧ Below w1.heap.size w1 wr) (fun _ _ vj _ => l - (intOf vj).toNat)
  case atStart => exact ⟨0, leaf, by omega, rfl, rfl, H1, rfl, Below.refl _ _⟩
  case round =>
    obtain ⟨j, d, hj, rfl, rfl, HZ, HU, hbel⟩ := hrel
    by_cases hlt : j < l
    · obtain ⟨b, o, rfl, hblt, hcell⟩ := hs1.get (j := j) (by rw [scells_len, HL.out]; exact hlt)
      obtain ⟨b2, o2, rfl, hblt2, hcell2⟩ := hsl.get (j := l - 1 - j) (by rw [lcells_len, HTL.out]; omega)
      have hget := get_of (ss := ss) (j := j) (by rw [HL.out]; exact hlt)
      obtain ⟨s, hsj⟩ : ∃ s, ss.getD j ⟨#[]⟩ = s := ⟨_, rfl⟩
      rw [hsj] at hget
      have hc0 := (hbel.cell (p := ⟨b, o + j, none⟩) hblt).trans (hcell j _ (scells_at hget))
      have hjt : l - 1 - j < (turns i n).length := by rw [HTL.out]; omega
      have hrev : (turns i n).reverse[j]? = some ((turns i n).getD (l - 1 - j) false) := by
        rw [List.getElem?_reverse (by rw [HTL.out]; exact hlt), HTL.out]
        simp [List.getD, hjt]
      obtain ⟨t, ht⟩ : ∃ t, (turns i n).getD (l - 1 - j) false = t := ⟨_, rfl⟩
      have hc1 := (hbel.cell (p := ⟨b2, o2 + (l - 1 - j), none⟩) hblt2).trans (hcell2 (l - 1 - j) _ (lcells_get _ _ hjt))
      rw [ht] at hrev hc1
      have HUD := Lib.hid (up_drop nd d (turns i n).reverse ss j t s hrev hget)
      have H32 := Lib.hid (HD.out s (List.mem_of_getElem? hget))
      have k6 : (l : Int) - 1 - (j : Int) = ((l - 1 - j : Nat) : Int) := by omega
      obtain ⟨r, hr⟩ : ∃ r, l - 1 - j = r := ⟨_, rfl⟩
      have hrl : r < l := by omega
      rw [hr] at hc1 k6
      clear hcell hcell2 hget hsj hrev ht hr hjt
      cases t with
      | true =>
        go_wp2_with fail
        refine (node_any s d _ (HT.out _ (hb1.trans (hbel.mono hb1.size))) H32.out HZ.out).mono ?_
        rintro e w3 ⟨rfl, hb3⟩
        have b3 := hbel.trans (hb3.mono hbel.size)
        go_wp2_with fail
        go_roundw
        case rel => exact ⟨j + 1, nd s d, by omega, by go_num, rfl, nd_size _ _, by show _ = _; rw [HU.out, HUD.out]; rfl, b3⟩
        case measure => simp [intOf]; omega
      | false =>
        go_wp2_with fail
        refine (node_any d s _ (HT.out _ (hb1.trans (hbel.mono hb1.size))) HZ.out H32.out).mono ?_
        rintro e w3 ⟨rfl, hb3⟩
        have b3 := hbel.trans (hb3.mono hbel.size)
        go_wp2_with fail
        go_roundw
        case rel => exact ⟨j + 1, nd d s, by omega, by go_num, rfl, nd_size _ _, by show _ = _; rw [HU.out, HUD.out]; rfl, b3⟩
        case measure => simp [intOf]; omega
    · have HF : Hid (climb nd ed leaf i n ss = d) := by
        show _ = _
        rw [HCU.out, HU.out, List.drop_eq_nil_of_le (by rw [List.length_reverse, HTL.out]; omega), up_nil]
      go_wp2_with fail
      go_ret2
      exact ⟨by rw [HF.out]; rfl, hb1.trans (hbel.mono hb1.size)⟩
end Go.Proofs.YtihkfomldbjpoaaDoor.TrW

/- rubrickref06: Climb. -/
namespace Go.Proofs.YtihkfomldbjpoaaDoor.TrW
open Go.RowKit TreeW
open ShaW Sha
theorem climb_size : ∀ (m : Nat) (leaf : ByteArray) (i n : Nat) (ss : List ByteArray), n ≤ m → leaf.size = 32 → (climb nd ed leaf i n ss).size = 32
  | m, leaf, i, n, ss, hm, h => by
    by_cases h2 : n < 2
    · rw [climb_one nd ed leaf i n ss h2]; exact h
    · rw [climb_two nd ed leaf i n ss (by omega)]
      split <;> exact nd_size _ _
set_option maxRecDepth 1000000 in
set_option maxHeartbeats 2000000 in
theorem refClimb_any : ∀ (m : Nat) (leaf : ByteArray) (i n : Nat) (A : Option Addr) (l c : Nat) (ss : List ByteArray) (_hm : n ≤ m) (w : World) (_h1 : leaf.size = 32) (_hl : ss.length = l) (_hs : Sl w A (scells ss)) (_hd : Digs ss) (_hlc : l ≤ c) (_hn : n ≤ 1099511627776) (_hi : i < 1099511627777) (_hst : l = steps i n),
    Calls Tryd.prog 43 #[.string leaf, .int .i64 (i : Int), .int .i64 (n : Int), .slice A l c] w fun e w' => e = .returned (.string (climb nd ed leaf i n ss)) ∧ Below w.heap.size w w' := by
  intro m
  induction m with
  | zero =>
    intro leaf i n A l c ss hm w h1 hl hs hd hlc hn hi hst
    have HC := Lib.hid (climb_one nd ed leaf i n ss (by omega))
    have k1 : (n : Int) < 2 := by omega
    clear h1 hl hs hd hst
    go_enter Tryd.func43, Tryd.ntmps43
    go_wp2_with fail
    go_ret
    exact ⟨by rw [HC.out]; rfl, Below.refl _ _⟩
  | succ m ih =>
    intro leaf i n A l c ss hm w h1 hl hs hd hlc hn hi hst
    by_cases h2 : n < 2
    · have HC := Lib.hid (climb_one nd ed leaf i n ss h2)
      have k1 : (n : Int) < 2 := by omega
      clear h1 hl hs hd hst ih
      go_enter Tryd.func43, Tryd.ntmps43
      go_wp2_with fail
      go_ret
      exact ⟨by rw [HC.out]; rfl, Below.refl _ _⟩
    obtain ⟨sa, sb, _, _⟩ := split_spec (n := n) (by omega)
    have hyes := fun (p : List ByteArray) (d : ByteArray) => climb_left nd ed (x := leaf) (i := i) (n := n) (p := p) (d := d) (by omega)
    have hno := fun (p : List ByteArray) (d : ByteArray) => climb_right nd ed (x := leaf) (i := i) (n := n) (p := p) (d := d) (by omega)
    have syes := steps_left (i := i) (n := n) (by omega)
    have sno := steps_right (i := i) (n := n) (by omega)
    obtain ⟨k, hk⟩ : ∃ k, k = split n := ⟨_, rfl⟩
    rw [← hk] at sa sb syes sno
    simp only [← hk] at hyes hno
    have HK := Lib.hid hk
    have k1 : ¬ (n : Int) < 2 := by omega
    have b0 : Below w.heap.size w w.drew := (Below.refl _ _).drew
    have H1 := Lib.hid h1
    clear hk
    by_cases hik : i < k
    · obtain ⟨p, hp⟩ : ∃ p, p = steps i k := ⟨_, rfl⟩
      have hl1 : l = 1 + p := by rw [hst, syes hik, hp]
      obtain ⟨q0, d, b, o, rfl, hq, rfl, hblt, hcell, hsq, hdq, hd32, hto⟩ := path_parts hl hs hlc hl1 hd
      have HCL := Lib.hid (hyes q0 d hik)
      have HQ := Lib.hid hq
      have HCELL := Lib.hid hcell
      have HDQ := Lib.hid hdq
      have HD32 := Lib.hid hd32
      have HTO := Lib.hid hto
      have ZC := Lib.hid (climb_size k leaf i k q0 (Nat.le_refl _) h1)
      have HP := Lib.hid hp
      have k5 : (i : Int) < (k : Int) := by omega
      have q1 : (1 : Int) + (p : Int) - 1 = (p : Int) := by omega
      have q2 : (0 : Int) ≤ (p : Int) := by omega
      have q3 : ¬ ((1 : Int) + (p : Int) ≤ (p : Int)) := by omega
      have q4 : ¬ ((p : Int) < 0) := by omega
      have q5 : IntKind.i64.wrap (p : Int) = (p : Int) := IntWalk.i64_in _ (by have := steps_le k i; omega)
      subst hl1
      clear hyes hno syes sno hl hs hd hst h1 hp hq hcell hdq hd32 hto
      go_enter Tryd.func43, Tryd.ntmps43
      go_wp2_with fail
      refine (refSplit_in n _ (by omega) hn).mono ?_
      rintro e w1 ⟨rfl, rfl⟩
      rw [← HK.out]
      go_wp2_with fail
      refine regB_begin (w.heap.size) (by kernel_rfl) ?_
      change wpAnyH _ _ _ _ _ 13 #[false, false, false, false, false, false, false, false, false, false, false, false, false] _ _
      refine regB_take (i := 0) (d := some 22) (v := (.string leaf)) rfl rfl (by kernel_rfl) (by kernel_rfl) (by kernel_rfl) (fun _ _ _ h => h) (by rfl) (by intro w' hSw; go_simp) ?_
      try simp only [Act.put, List.setIfInBounds_toArray, List.set_cons_zero, List.set_cons_succ]
      refine regB_take (i := 1) (d := some 23) (v := (.int .i64 (i : Int))) rfl rfl (by kernel_rfl) (by kernel_rfl) (by kernel_rfl) (fun _ _ _ h => h) (by rfl) (by intro w' hSw; go_simp) ?_
      try simp only [Act.put, List.setIfInBounds_toArray, List.set_cons_zero, List.set_cons_succ]
      refine regB_take (i := 2) (d := some 24) (v := (.int .i64 (k : Int))) rfl rfl (by kernel_rfl) (by kernel_rfl) (by kernel_rfl) (fun _ _ _ h => h) (by rfl) (by intro w' hSw; go_simp) ?_
      try simp only [Act.put, List.setIfInBounds_toArray, List.set_cons_zero, List.set_cons_succ]
      refine regB_take (i := 3) (d := some 25) (v := (.slice (some ⟨b, o, none⟩) (1 + p) c)) rfl rfl (by kernel_rfl) (by kernel_rfl) (by kernel_rfl) (fun _ _ _ h => h) (by rfl) (by intro w' hSw; go_simp) ?_
      try simp only [Act.put, List.setIfInBounds_toArray, List.set_cons_zero, List.set_cons_succ]
      refine regB_take (i := 4) (d := some 26) (v := (.int .i64 (p : Int))) rfl rfl (by kernel_rfl) (by kernel_rfl) (by kernel_rfl) (fun _ _ _ h => h) (by rfl) (by intro w' hSw; go_simp) ?_
      try simp only [Act.put, List.setIfInBounds_toArray, List.set_cons_zero, List.set_cons_succ]
      refine regB_take (i := 5) (d := some 27) (v := (.slice (some ⟨b, o, none⟩) p c)) rfl rfl (by kernel_rfl) (by kernel_rfl) (by kernel_rfl) (fun _ _ _ h => h) (by rfl) (by intro w' hSw; have h9 := HTO.out w'; go_simp) ?_
      try simp only [Act.put, List.setIfInBounds_toArray, List.set_cons_zero, List.set_cons_succ]
      refine regB_take (i := 7) (d := some 29) (v := (.slice (some ⟨b, o, none⟩) (1 + p) c)) rfl rfl (by kernel_rfl) (by kernel_rfl) (by kernel_rfl) (fun _ _ _ h => h) (by rfl) (by intro w' hSw; go_simp) ?_
      try simp only [Act.put, List.setIfInBounds_toArray, List.set_cons_zero, List.set_cons_succ]
      refine regB_take (i := 8) (d := some 30) (v := (.int .i64 (p : Int))) rfl rfl (by kernel_rfl) (by kernel_rfl) (by kernel_rfl) (fun _ _ _ h => h) (by rfl) (by intro w' hSw; go_simp) ?_
      try simp only [Act.put, List.setIfInBounds_toArray, List.set_cons_zero, List.set_cons_succ]
      refine regB_take (i := 9) (d := some 31) (v := (.pointer (some ⟨b, o + p, none⟩))) rfl rfl (by kernel_rfl) (by kernel_rfl) (by kernel_rfl) (fun _ _ _ h => h) (by rfl) (by intro w' hSw; go_simp) ?_
      try simp only [Act.put, List.setIfInBounds_toArray, List.set_cons_zero, List.set_cons_succ]
      refine regB_take (i := 10) (d := some 32) (v := (.string d)) rfl rfl (by kernel_rfl) (by kernel_rfl) (by kernel_rfl) (fun _ _ _ h => h) (by rfl) (by intro w' hSw; have h9 := HCELL.out w' (b0.trans hSw); go_simp) ?_
      try simp only [Act.put, List.setIfInBounds_toArray, List.set_cons_zero, List.set_cons_succ]
      refine regB_call (i := 6) rfl (by kernel_rfl) (by rfl) fun K hK => ?_
      go_simp
      refine (ih leaf i k (some ⟨b, o, none⟩) p c q0 (by omega) _ H1.out HQ.out (hsq.below b0) HDQ.out (by omega) (by omega) hi HP.out).mono ?_
      rintro e w2 ⟨rfl, hb2⟩
      have b2 := b0.trans (hb2.mono b0.size)
      refine hK.out _ _ (hb2.mono b0.size) ?_
      clear hK K
      try simp only [List.setIfInBounds_toArray, List.set_cons_zero, List.set_cons_succ]
      refine regB_call (i := 11) rfl (by kernel_rfl) (by rfl) fun K hK => ?_
      go_simp
      refine (refNode_nd (climb nd ed leaf i k q0) d _ (by rw [ZC.out, HD32.out]; omega)).mono ?_
      rintro e w3 ⟨rfl, hb3⟩
      have b3 := b2.trans (hb3.mono b2.size)
      refine hK.out _ _ (hb3.mono b2.size) ?_
      clear hK K
      try simp only [List.setIfInBounds_toArray, List.set_cons_zero, List.set_cons_succ]
      refine regB_take (i := 12) (d := some 8) (v := (.string (nd (climb nd ed leaf i k q0) d))) rfl rfl (by kernel_rfl) (by kernel_rfl) (by kernel_rfl) (fun _ _ _ h => h) (by rfl) (by intro w' hSw; go_simp) ?_
      try simp only [Act.put, List.setIfInBounds_toArray, List.set_cons_zero, List.set_cons_succ]
      refine wpAnyH_done (by kernel_rfl) ?_ _
      go_wp2_with fail
      go_ret
      exact ⟨by rw [HCL.out]; rfl, b3⟩

    · obtain ⟨p, hp⟩ : ∃ p, p = steps (i - k) (n - k) := ⟨_, rfl⟩
      have hl1 : l = 1 + p := by rw [hst, sno hik, hp]
      obtain ⟨q0, d, b, o, rfl, hq, rfl, hblt, hcell, hsq, hdq, hd32, hto⟩ := path_parts hl hs hlc hl1 hd
      have HCL := Lib.hid (hno q0 d hik)
      obtain ⟨r, hr⟩ : ∃ r, i - k = r := ⟨_, rfl⟩
      obtain ⟨z, hz⟩ : ∃ z, n - k = z := ⟨_, rfl⟩
      rw [hr, hz] at HCL hp
      have HQ := Lib.hid hq
      have HCELL := Lib.hid hcell
      have HDQ := Lib.hid hdq
      have HD32 := Lib.hid hd32
      have HTO := Lib.hid hto
      have ZC := Lib.hid (climb_size z leaf r z q0 (Nat.le_refl _) h1)
      have HP := Lib.hid hp
      have k5 : ¬ (i : Int) < (k : Int) := by omega
      have q1 : (1 : Int) + (p : Int) - 1 = (p : Int) := by omega
      have q3 : ¬ ((1 : Int) + (p : Int) ≤ (p : Int)) := by omega
      have q4 : ¬ ((p : Int) < 0) := by omega
      have q5 : IntKind.i64.wrap (p : Int) = (p : Int) := IntWalk.i64_in _ (by have := steps_le z r; omega)
      have k6 : (i : Int) - (k : Int) = (r : Int) := by omega
      have k7 : (n : Int) - (k : Int) = (z : Int) := by omega
      have k8 : IntKind.i64.wrap (r : Int) = (r : Int) := IntWalk.i64_in _ (by omega)
      have k9 : IntKind.i64.wrap (z : Int) = (z : Int) := IntWalk.i64_in _ (by omega)
      subst hl1
      clear hyes hno syes sno hl hs hd hst h1 hp hq hcell hdq hd32 hto
      go_enter Tryd.func43, Tryd.ntmps43
      go_wp2_with fail
      refine (refSplit_in n _ (by omega) hn).mono ?_
      rintro e w1 ⟨rfl, rfl⟩
      rw [← HK.out]
      go_wp2_with fail
      refine regB_begin (w.heap.size) (by kernel_rfl) ?_
      change wpAnyH _ _ _ _ _ 17 #[false, false, false, false, false, false, false, false, false, false, false, false, false, false, false, false, false] _ _
      refine regB_take (i := 0) (d := some 34) (v := (.slice (some ⟨b, o, none⟩) (1 + p) c)) rfl rfl (by kernel_rfl) (by kernel_rfl) (by kernel_rfl) (fun _ _ _ h => h) (by rfl) (by intro w' hSw; go_simp) ?_
      try simp only [Act.put, List.setIfInBounds_toArray, List.set_cons_zero, List.set_cons_succ]
      refine regB_take (i := 1) (d := some 35) (v := (.int .i64 (p : Int))) rfl rfl (by kernel_rfl) (by kernel_rfl) (by kernel_rfl) (fun _ _ _ h => h) (by rfl) (by intro w' hSw; go_simp) ?_
      try simp only [Act.put, List.setIfInBounds_toArray, List.set_cons_zero, List.set_cons_succ]
      refine regB_take (i := 2) (d := some 36) (v := (.pointer (some ⟨b, o + p, none⟩))) rfl rfl (by kernel_rfl) (by kernel_rfl) (by kernel_rfl) (fun _ _ _ h => h) (by rfl) (by intro w' hSw; go_simp) ?_
      try simp only [Act.put, List.setIfInBounds_toArray, List.set_cons_zero, List.set_cons_succ]
      refine regB_take (i := 3) (d := some 37) (v := (.string d)) rfl rfl (by kernel_rfl) (by kernel_rfl) (by kernel_rfl) (fun _ _ _ h => h) (by rfl) (by intro w' hSw; have h9 := HCELL.out w' (b0.trans hSw); go_simp) ?_
      try simp only [Act.put, List.setIfInBounds_toArray, List.set_cons_zero, List.set_cons_succ]
      refine regB_take (i := 4) (d := some 38) (v := (.string leaf)) rfl rfl (by kernel_rfl) (by kernel_rfl) (by kernel_rfl) (fun _ _ _ h => h) (by rfl) (by intro w' hSw; go_simp) ?_
      try simp only [Act.put, List.setIfInBounds_toArray, List.set_cons_zero, List.set_cons_succ]
      refine regB_take (i := 5) (d := some 39) (v := (.int .i64 (i : Int))) rfl rfl (by kernel_rfl) (by kernel_rfl) (by kernel_rfl) (fun _ _ _ h => h) (by rfl) (by intro w' hSw; go_simp) ?_
      try simp only [Act.put, List.setIfInBounds_toArray, List.set_cons_zero, List.set_cons_succ]
      refine regB_take (i := 6) (d := some 40) (v := (.int .i64 (k : Int))) rfl rfl (by kernel_rfl) (by kernel_rfl) (by kernel_rfl) (fun _ _ _ h => h) (by rfl) (by intro w' hSw; go_simp) ?_
      try simp only [Act.put, List.setIfInBounds_toArray, List.set_cons_zero, List.set_cons_succ]
      refine regB_take (i := 7) (d := some 41) (v := (.int .i64 (r : Int))) rfl rfl (by kernel_rfl) (by kernel_rfl) (by kernel_rfl) (fun _ _ _ h => h) (by rfl) (by intro w' hSw; go_simp) ?_
      try simp only [Act.put, List.setIfInBounds_toArray, List.set_cons_zero, List.set_cons_succ]
      refine regB_take (i := 8) (d := some 42) (v := (.int .i64 (n : Int))) rfl rfl (by kernel_rfl) (by kernel_rfl) (by kernel_rfl) (fun _ _ _ h => h) (by rfl) (by intro w' hSw; go_simp) ?_
      try simp only [Act.put, List.setIfInBounds_toArray, List.set_cons_zero, List.set_cons_succ]
      refine regB_take (i := 9) (d := some 43) (v := (.int .i64 (k : Int))) rfl rfl (by kernel_rfl) (by kernel_rfl) (by kernel_rfl) (fun _ _ _ h => h) (by rfl) (by intro w' hSw; go_simp) ?_
      try simp only [Act.put, List.setIfInBounds_toArray, List.set_cons_zero, List.set_cons_succ]
      refine regB_take (i := 10) (d := some 44) (v := (.int .i64 (z : Int))) rfl rfl (by kernel_rfl) (by kernel_rfl) (by kernel_rfl) (fun _ _ _ h => h) (by rfl) (by intro w' hSw; go_simp) ?_
      try simp only [Act.put, List.setIfInBounds_toArray, List.set_cons_zero, List.set_cons_succ]
      refine regB_take (i := 11) (d := some 45) (v := (.slice (some ⟨b, o, none⟩) (1 + p) c)) rfl rfl (by kernel_rfl) (by kernel_rfl) (by kernel_rfl) (fun _ _ _ h => h) (by rfl) (by intro w' hSw; go_simp) ?_
      try simp only [Act.put, List.setIfInBounds_toArray, List.set_cons_zero, List.set_cons_succ]
      refine regB_take (i := 12) (d := some 46) (v := (.int .i64 (p : Int))) rfl rfl (by kernel_rfl) (by kernel_rfl) (by kernel_rfl) (fun _ _ _ h => h) (by rfl) (by intro w' hSw; go_simp) ?_
      try simp only [Act.put, List.setIfInBounds_toArray, List.set_cons_zero, List.set_cons_succ]
      refine regB_take (i := 13) (d := some 47) (v := (.slice (some ⟨b, o, none⟩) p c)) rfl rfl (by kernel_rfl) (by kernel_rfl) (by kernel_rfl) (fun _ _ _ h => h) (by rfl) (by intro w' hSw; have h9 := HTO.out w'; go_simp) ?_
      try simp only [Act.put, List.setIfInBounds_toArray, List.set_cons_zero, List.set_cons_succ]
      refine regB_call (i := 14) rfl (by kernel_rfl) (by rfl) fun K hK => ?_
      go_simp
      refine (ih leaf r z (some ⟨b, o, none⟩) p c q0 (by omega) _ H1.out HQ.out (hsq.below b0) HDQ.out (by omega) (by omega) (by omega) HP.out).mono ?_
      rintro e w2 ⟨rfl, hb2⟩
      have b2 := b0.trans (hb2.mono b0.size)
      refine hK.out _ _ (hb2.mono b0.size) ?_
      clear hK K
      try simp only [List.setIfInBounds_toArray, List.set_cons_zero, List.set_cons_succ]
      refine regB_call (i := 15) rfl (by kernel_rfl) (by rfl) fun K hK => ?_
      go_simp
      refine (refNode_nd d (climb nd ed leaf r z q0) _ (by rw [ZC.out, HD32.out]; omega)).mono ?_
      rintro e w3 ⟨rfl, hb3⟩
      have b3 := b2.trans (hb3.mono b2.size)
      refine hK.out _ _ (hb3.mono b2.size) ?_
      clear hK K
      try simp only [List.setIfInBounds_toArray, List.set_cons_zero, List.set_cons_succ]
      refine regB_take (i := 16) (d := some 8) (v := (.string (nd d (climb nd ed leaf r z q0)))) rfl rfl (by kernel_rfl) (by kernel_rfl) (by kernel_rfl) (fun _ _ _ h => h) (by rfl) (by intro w' hSw; go_simp) ?_
      try simp only [Act.put, List.setIfInBounds_toArray, List.set_cons_zero, List.set_cons_succ]
      refine wpAnyH_done (by kernel_rfl) ?_ _
      go_wp2_with fail
      go_ret
      exact ⟨by rw [HCL.out]; rfl, b3⟩

end Go.Proofs.YtihkfomldbjpoaaDoor.TrW

/- clash: claimed. -/
namespace Go.Proofs.YtihkfomldbjpoaaDoor.ClW
open Go.RowKit TreeW ConsW TrW ClashW
open ShaW Sha
/-- The block of a row. -/
def Own (v : Value) (k : Nat) : Prop := v.ownBlock = some k
theorem findersTy : ElemTy Tryd.prog 59 70 .nilFunc 8 := ⟨by kernel_rfl, info_parts (by kernel_rfl), rfl, by omega⟩
def slLen (v : Value) : Nat := match v with | .slice _ n _ => n | _ => 0
/-- The block of a row, and another one. -/
def OwB (g : Nat) (v : Value) (k : Nat) : Prop := k = g ∨ Own v k
theorem Frm.only {S : Nat → Prop} {g : Nat} {w w' : World} (o : Only g w w') (hg : S g) : Frm S w w' :=
  have h := o.below g w (Below.refl _ _) (Nat.le_refl _)
  ⟨h.os, h.tape, h.output, h.size, fun k _ hn => o.heap k (fun e => hn (e ▸ hg))⟩
theorem own_only {base g k n : Nat} {e : TypeId} {v : Value} {xs : List Value} {w w' : World} (h : w.ownsRow base e k v n xs) (o : Only g w w') (hg : g < base) : w'.ownsRow base e k v n xs :=
  ⟨h.1, h.2.imp id fun ⟨g', cap, cur, hv, hb, hh, r⟩ => ⟨g', cap, cur, hv, hb, (o.heap g' (by omega)).trans hh, r⟩⟩
/-- A row of the call's own that gets finders more. -/
theorem fds_snoc {S S' : Nat → Prop} {w w' : World} {row : Option Nat} {fs gs : List Value} {os ps : List Cl} (hgr : w.grownBy w' row) (hrow : ∀ k, row = some k → S k) (hS : ∀ k, S' k → S k ∨ w.heap.size ≤ k) (hf : Fds S w fs os) (hg : Fds S w gs ps) : Fds S' w' (fs ++ gs) (os ++ ps) :=
  Fds.frm (Frm.grown (S := S) hgr hrow) hS (Fds.app hg hf)
theorem owb_new {g h : Nat} {v v' : Value} (hbl : v'.ownBlock = v.ownBlock ∨ v'.ownBlock = some h) : ∀ k, OwB g v' k → OwB g v k ∨ h ≤ k := fun k hk => by
  rcases hk with e | e
  · exact .inl (.inl e)
  · unfold Own at e
    rcases hbl with e2 | e2
    · exact .inl (.inr (by unfold Own; rw [← e2]; exact e))
    · rw [e2] at e
      exact .inr (Nat.le_of_eq (Option.some.inj e))
theorem owb_in {base g n : Nat} {w : World} {v : Value} {xs : List Value} {B : Nat} (h : w.ownsRow base 70 1 v n xs) (hB : B ≤ base) (hg : B ≤ g) (hgw : g < w.heap.size) : ∀ k, OwB g v k → B ≤ k ∧ k < w.heap.size := fun k hk => by
  rcases hk with rfl | hk
  · exact ⟨hg, hgw⟩
  · exact ⟨Nat.le_trans hB (h.lt k hk).1, (h.lt k hk).2⟩
theorem own_base {base base' k n : Nat} {e : TypeId} {v : Value} {xs : List Value} {w : World} (h : w.ownsRow base e k v n xs) (hb : base' ≤ base) : w.ownsRow base' e k v n xs :=
  ⟨h.1, h.2.imp id fun ⟨g', cap, cur, hv, hg, r⟩ => ⟨g', cap, cur, hv, Nat.le_trans hb hg, r⟩⟩
theorem newF (W : World) (x : Value) : Sl (W.alloc (.cells #[x] 70)) (some ⟨W.heap.size, 0, none⟩) [x] := Sl.of_at_all (At.new_ W _ 70 [x] rfl)
/-- A row of finders of the call's own. -/
def Rw (base : Nat) (w : World) (v : Value) (os : List Cl) : Prop := ∃ fs, w.ownsRow base 70 1 v os.length fs ∧ Fds (Own v) w fs os
set_option maxRecDepth 1000000 in
set_option maxHeartbeats 8000000 in
theorem claimed_any (A : Option Addr) (l c : Nat) (B : Option Addr) (d : Nat) (bss : List (List UInt8)) (i : Nat) (C : Option Addr) (lb db : Nat) (xs : List UInt8) (D : Option Addr) (lp cp : Nat) (ps : List ByteArray) (w : World) (hT : Tab w)
    (la : LA w bss A l c B d) (hi : i < l) (hlb : xs.length = lb) (hC : Sl w C (bcells xs)) (hlb40 : lb ≤ 100000000000) (hlp : ps.length = lp) (hD : Sl w D (scells ps)) (hd : Digs ps) (hlpc : lp ≤ cp) (hcp : cp ≤ 9223372036854775807) (hst : lp = steps i l) :
    Calls Tryd.prog 36 #[.agg #[.slice A l c, .slice B l d], .int .i64 (i : Int), .slice C lb db, .slice D lp cp] w fun e w' => ∃ v os, e = .returned v ∧ Rw w.heap.size w' v os ∧ os.length ≤ lp + 1 ∧ fo os = lc bss i xs ps ∧ Below w.heap.size w w' := by
  have k0 : At (w.alloc (.cells #[.slice A l c, .slice B l d] 62)) w.heap.size 62 [.slice A l c, .slice B l d] := At.new_ w _ 62 _ rfl
  have b0 : Below w.heap.size w (w.alloc (.cells #[.slice A l c, .slice B l d] 62)) := (Below.refl _ _).alloc (Nat.le_refl _) _
  have HT := Lib.hid (fun W (hb : Below w.heap.size w W) => hT.below hb hT.pos)
  have HLB := Lib.hid hlb
  have hlp40 : lp ≤ 1099511627776 := by have := steps_le l i; have := la.l40; omega
  have HLP := Lib.hid hlp
  have HST := Lib.hid hst
  have HD := Lib.hid hd
  have HLA := Lib.hid la
  clear hT hlb hlp hst hd la
  go_enter Tryd.func36, Tryd.ntmps36
  go_wp2_with fail
  refine (SealW.leaf_any C lb db xs _ (HT.out _ b0) HLB.out (hC.below b0) (by omega)).mono ?_
  rintro e w1 ⟨rfl, hb1⟩
  have b1 := b0.trans (hb1.mono b0.size)
  have k1 := k0.below hb1 k0.lt
  obtain ⟨L0, hL0⟩ : ∃ x, x = lf xs := ⟨_, rfl⟩
  have HL0 := Lib.hid hL0
  have e1 : (⟨(sha (0 :: xs)).toArray⟩ : ByteArray) = L0 := hL0.symm
  have ZL : L0.size = 32 := by rw [hL0]; exact lf_size xs
  have HZL := Lib.hid ZL
  rw [e1]
  clear e1 hL0 ZL k0 b0 hb1
  go_wp2_with fail
  go_loopw [1, 3, 9] (fun iv pv v wr => ∃ (i' l' c' : Nat) (A' B' : Option Addr) (d' lp' n : Nat) (bs : List (List UInt8)) (qs : List ByteArray) (os : List Cl) (fs : List Value), iv = .int .i64 (i' : Int) ∧ pv = .slice D lp' cp ∧ LA w bs A' l' c' B' d' ∧ i' < l' ∧ Hid (qs.length = lp') ∧ Sl w D (scells qs) ∧ Digs qs ∧ Hid (lp' = steps i' l') ∧ Hid (n + lp' = lp) ∧ Hid (os.length = n) ∧
      Hid (orE (fo os) (lc bs i' xs qs) = lc bss i xs ps) ∧ wr.ownsRow (w.heap.size + 1) 70 1 v n fs ∧ Fds (OwB w.heap.size v) wr fs os ∧ At wr w.heap.size 62 [.slice A' l' c', .slice B' l' d'] ∧ Below w.heap.size w wr)
    (fun _ pv _ _ => slLen pv)
  case atStart =>
    exact ⟨i, l, c, A, B, d, lp, 0, bss, ps, [], [], rfl, rfl, HLA.out, hi, HLP, hD, HD.out, HST, Lib.hid (Nat.zero_add _), Lib.hid rfl, Lib.hid rfl, World.ownsRow_nil _ _ _ _, Fds.nil _ _, k1, b1⟩
  case round =>
    clear k1 b1 hD hi HLP HD HST HLA
    obtain ⟨i', l', c', A', B', d', lp', n, bs, qs, os, fs, rfl, rfl, la, hi', hql, hqs, hdq, hst, hn, hol, hfo, hown, hfd, hat, hbel⟩ := hrel
    by_cases hz : lp' = 0
    · subst hz
      have hl1 : l' = 1 := by
        rcases Nat.lt_or_ge l' 2 with h | h
        · omega
        · have := hst.out
          rw [steps_two _ _ h] at this
          split at this <;> omega
      subst hl1
      obtain ⟨vs, hA, hR⟩ := la.ex
      have hl := la.len
      have hbd := la.bd
      have hlc := la.lc
      have HONE := Lib.hid (lc_one (i := i') (x := xs) (p := qs) hl)
      obtain ⟨ba, oa, rfl, hblt, hcell⟩ := hA.get (j := 0) (by rw [hR.1]; omega)
      obtain ⟨R0, dq, hv, hR0, hRd, hdd⟩ := hR.2 0 (by omega)
      have hc0 : w.cell? ⟨ba, oa, none⟩ = some (.slice R0 (bs.getD 0 []).length dq) := hcell 0 _ hv
      have hr40 := hbd (bs.getD 0 []) (by simp [List.getD, show 0 < bs.length by omega])
      obtain ⟨r0, hr0⟩ : ∃ r0, bs.getD 0 [] = r0 := ⟨_, rfl⟩
      rw [hr0] at HONE hR0 hRd hc0 hr40
      obtain ⟨q0, hq0⟩ : ∃ q0, r0.length = q0 := ⟨_, rfl⟩
      rw [hq0] at hRd hc0 hr40
      have HL0 := Lib.hid hq0
      have hcr := (hbel.cell (p := ⟨ba, oa, none⟩) hblt).trans hc0
      have c0 := hat.cell 0
      have c1 := hat.cell 1
      simp only [List.getElem?_cons_zero, List.getElem?_cons_succ] at c0 c1
      have HH := Lib.hid hn.out
      clear hl hA hR hbd hcell hv hc0 hr0 hq0 la hqs hdq
      go_wp2_with fail
      refine (fv_of (leaves_any (OwB w.heap.size u9) w.heap.size C lb db xs R0 q0 dq r0 w _ (HT.out _ (Below.refl _ _)) rfl hbel (owb_in hown (Nat.le_succ w.heap.size) (Nat.le_refl _) hat.lt) HLB.out (hC.below hbel) HL0.out (hR0.below hbel) hlb40 hr40)).mono ?_
      rintro e w8 ⟨N8, p8, q8, rfl, f8, hb8⟩
      have k8 := hat.below hb8 hat.lt
      have b8 := hbel.trans (hb8.mono hbel.size)
      have hown8 := own_below hown hb8
      have fd8 := hfd.below hb8
      have b9 := b8.alloc b8.size (.cells #[(.func (.func N8) #[] #[.pointer (some ⟨p8, 0, none⟩), .pointer (some ⟨q8, 0, none⟩)])] 70)
      have l9 : Below w8.heap.size w8 (w8.alloc (.cells #[(.func (.func N8) #[] #[.pointer (some ⟨p8, 0, none⟩), .pointer (some ⟨q8, 0, none⟩)])] 70)) := (Below.refl _ _).alloc (Nat.le_refl _) _
      have fd9 := fd8.below l9
      have f9 := f8.below l9
      have hlt9 := (k8.alloc (.cells #[(.func (.func N8) #[] #[.pointer (some ⟨p8, 0, none⟩), .pointer (some ⟨q8, 0, none⟩)])] 70)).lt
      have nl := newF w8 (.func (.func N8) #[] #[.pointer (some ⟨p8, 0, none⟩), .pointer (some ⟨q8, 0, none⟩)])
      clear k8 b8 fd8 f8 l9 hown hfd hat hbel hb8 hcr c0 c1
      go_wp2_with (refine wpList_app rfl (.tmp 86) (.tmp 93) 59 rfl findersTy (w.heap.size + 1) u9 n fs rfl (hown8.alloc _) (some ⟨w8.heap.size, 0, none⟩) 1 1 [(.func (.func N8) #[] #[.pointer (some ⟨p8, 0, none⟩), .pointer (some ⟨q8, 0, none⟩)])] rfl rfl nl (Fds.one (Fds.sole f9)) (by have := HH.out; omega) hlt9 ?_; intro v10 x10 hown10 hgr10 hbl10)
      have b10 := below_app b9 hgr10 (hown8.alloc _) (Nat.le_succ _) (Nat.le_of_lt hlt9)
      have fd10 := fds_snoc hgr10 (fun k hk => .inr hk) (owb_new hbl10) fd9 (Fds.sole f9)
      go_ret
      refine ⟨v10, os ++ [_], rfl, ⟨_, ?_, fd10.frm (Frm.refl _ _) (fun k hk => .inl (.inr hk))⟩, ?_, ?_, b10⟩
      · rw [List.length_append, hol.out]
        exact own_base hown10 (Nat.le_succ _)
      · rw [List.length_append, hol.out]
        have := HH.out
        simp
        omega
      · rw [fo_app, fo_one, ← hfo.out, HONE.out]
    · obtain ⟨m, hm⟩ : ∃ m, lp' = 1 + m := ⟨lp' - 1, by omega⟩
      subst hm
      have h2l : 2 ≤ l' := by
        rcases Nat.lt_or_ge l' 2 with h | h
        · have := hst.out; rw [steps_one _ _ h] at this; omega
        · exact h
      obtain ⟨q0, dd, b, o, rfl, hq0, rfl, hblt, hcell, hsq, hdq0, hd32, hto⟩ := path_parts (c := cp) hql.out hqs (by have := hn.out; omega) rfl hdq
      obtain ⟨kl, kp⟩ : split l' < l' ∧ 1 ≤ split l' := by
        obtain ⟨x1, x2, _, _⟩ := split_spec h2l
        exact ⟨x2, x1⟩
      obtain ⟨k, hk⟩ : ∃ k, k = split l' := ⟨_, rfl⟩
      have HK := Lib.hid hk
      rw [← hk] at kl kp
      have HTO := Lib.hid hto
      have HQ0 := Lib.hid hq0
      have HD32 := Lib.hid hd32
      have HCELL := Lib.hid hcell
      have q1 : (1 : Int) + (m : Int) - 1 = (m : Int) := by omega
      have q3 : ¬ ((1 : Int) + (m : Int) ≤ (m : Int)) := by omega
      have q4 : ¬ ((m : Int) < 0) := by omega
      have q5 : IntKind.i64.wrap ((1 : Int) + (m : Int) - 1) = (m : Int) := by
        have := hn.out
        rw [show (1 : Int) + (m : Int) - 1 = (m : Int) by omega]
        exact IntWalk.i64_in _ (by omega)
      have q6 : IntKind.i64.wrap (m : Int) = (m : Int) := IntWalk.i64_in _ (by have := hn.out; omega)
      have hk40 : k ≤ 1099511627776 := by have := la.l40; omega
      have c0 := hat.cell 0
      have c1 := hat.cell 1
      simp only [List.getElem?_cons_zero, List.getElem?_cons_succ] at c0 c1
      have hlt := hat.lt
      have hcd := hcell _ hbel
      clear hq0 hd32 hto hk hcell hqs hdq
      go_wp2_with fail
      refine regB_begin (wr.heap.size) (by kernel_rfl) ?_
      change wpAnyH _ _ _ _ _ 10 #[false, false, false, false, false, false, false, false, false, false] _ _
      refine regB_take (i := 0) (d := some 24) (v := (.agg #[.slice A' l' c', .slice B' l' d'])) rfl rfl (by kernel_rfl) (by kernel_rfl) (by kernel_rfl) (fun _ _ _ h => h) (by rfl) (by intro w' hSw; have f0 := (hSw.cell (p := ⟨w.heap.size, 0, none⟩) hlt).trans c0; have f1 := (hSw.cell (p := ⟨w.heap.size, 1, none⟩) hlt).trans c1; go_simp) ?_
      try simp only [Act.put, List.setIfInBounds_toArray, List.set_cons_zero, List.set_cons_succ]
      refine regB_take (i := 2) (d := some 26) (v := (.agg #[.slice A' l' c', .slice B' l' d'])) rfl rfl (by kernel_rfl) (by kernel_rfl) (by kernel_rfl) (fun _ _ _ h => h) (by rfl) (by intro w' hSw; have f0 := (hSw.cell (p := ⟨w.heap.size, 0, none⟩) hlt).trans c0; have f1 := (hSw.cell (p := ⟨w.heap.size, 1, none⟩) hlt).trans c1; go_simp) ?_
      try simp only [Act.put, List.setIfInBounds_toArray, List.set_cons_zero, List.set_cons_succ]
      refine regB_take (i := 4) (d := some 28) (v := (.slice (some ⟨b, o, none⟩) (1 + m) cp)) rfl rfl (by kernel_rfl) (by kernel_rfl) (by kernel_rfl) (fun _ _ _ h => h) (by rfl) (by intro w' hSw; go_simp) ?_
      try simp only [Act.put, List.setIfInBounds_toArray, List.set_cons_zero, List.set_cons_succ]
      refine regB_take (i := 5) (d := some 29) (v := (.int .i64 ((1 : Int) + (m : Int)))) rfl rfl (by kernel_rfl) (by kernel_rfl) (by kernel_rfl) (fun _ _ _ h => h) (by rfl) (by intro w' hSw; go_simp) ?_
      try simp only [Act.put, List.setIfInBounds_toArray, List.set_cons_zero, List.set_cons_succ]
      refine regB_take (i := 6) (d := some 30) (v := (.int .i64 (m : Int))) rfl rfl (by kernel_rfl) (by kernel_rfl) (by kernel_rfl) (fun _ _ _ h => h) (by rfl) (by intro w' hSw; go_simp) ?_
      try simp only [Act.put, List.setIfInBounds_toArray, List.set_cons_zero, List.set_cons_succ]
      refine regB_call (i := 1) rfl (by kernel_rfl) (by rfl) fun K hK => ?_
      go_simp
      refine (splitL_any A' l' c' B' d' ((split l' : Nat) : Int) _ (.inr ⟨h2l, rfl⟩) la.l40).mono ?_
      rintro e w2 ⟨rfl, hb2⟩
      rw [← HK.out]
      have b2 : Below wr.heap.size wr w2 := (Below.refl _ _).drew.trans hb2
      refine hK.out _ _ hb2 ?_
      clear hK K
      try simp only [List.setIfInBounds_toArray, List.set_cons_zero, List.set_cons_succ]
      refine regB_call (i := 3) rfl (by kernel_rfl) (by rfl) fun K hK => ?_
      go_simp
      refine (nodeL_any A' l' c' B' d' bs _ (HT.out _ (hbel.trans (b2.mono (Nat.le_of_lt hlt)))) ((la.below hbel).below b2) h2l).mono ?_
      rintro e w3 ⟨A3, c3, rfl, s3, k3, m3, n3, hb3⟩
      have b3 := b2.trans (hb3.mono b2.size)
      refine hK.out _ _ (hb3.mono b2.size) ?_
      clear hK K
      try simp only [List.setIfInBounds_toArray, List.set_cons_zero, List.set_cons_succ]
      refine regB_take (i := 7) (d := some 11) (v := (.int .i64 (k : Int))) rfl rfl (by kernel_rfl) (by kernel_rfl) (by kernel_rfl) (fun _ _ _ h => h) (by rfl) (by intro w' hSw; go_simp) ?_
      try simp only [Act.put, List.setIfInBounds_toArray, List.set_cons_zero, List.set_cons_succ]
      refine regB_take (i := 8) (d := some 12) (v := (.slice A3 65 c3)) rfl rfl (by kernel_rfl) (by kernel_rfl) (by kernel_rfl) (fun _ _ _ h => h) (by rfl) (by intro w' hSw; go_simp) ?_
      try simp only [Act.put, List.setIfInBounds_toArray, List.set_cons_zero, List.set_cons_succ]
      refine regB_take (i := 9) (d := some 13) (v := (.int .i64 (m : Int))) rfl rfl (by kernel_rfl) (by kernel_rfl) (by kernel_rfl) (fun _ _ _ h => h) (by rfl) (by intro w' hSw; go_simp) ?_
      try simp only [Act.put, List.setIfInBounds_toArray, List.set_cons_zero, List.set_cons_succ]
      refine wpAnyH_done (by kernel_rfl) ?_ _
      have hwr3 := b3.size
      have hlt3 : w.heap.size < w3.heap.size := Nat.lt_of_lt_of_le hlt b3.size
      have bel3 := hbel.trans (b3.mono (Nat.le_of_lt hlt))
      have at3 := hat.below b3 hlt
      have hown3 := own_below hown b3
      have fd3 := hfd.below b3
      have n3b : ∀ b o s, A3 = some ⟨b, o, s⟩ → wr.heap.size ≤ b := fun b o s h => Nat.le_trans b2.size (n3 b o s h)
      obtain ⟨tt, htt⟩ : ∃ t, tp (bs.map lf) = t := ⟨_, rfl⟩
      rw [htt] at s3
      have HTT : Hid (tt.length = 65) := by show _ = _; rw [← htt]; exact tp_len (lf_digs bs)
      have HTP := Lib.hid htt
      have hS3 := owb_in hown (Nat.le_succ w.heap.size) (Nat.le_refl _) hlt
      have HS3 := Lib.hid hS3
      clear c0 c1 hcd b2 hb2 hb3 b3 hat hown hfd hbel n3 hS3 htt
      have hcd := HCELL.out _ bel3
      have hto3 := HTO.out w3
      have c0 := at3.cell 0
      have c1 := at3.cell 1
      simp only [List.getElem?_cons_zero, List.getElem?_cons_succ] at c0 c1
      by_cases hik : i' < k
      · have HLC := Lib.hid (lc_left (x := xs) (p := q0) (d := dd) (by rw [la.len]; exact HK.out) (by rw [la.len]; exact h2l) hik)
        have hpst : m = steps i' k := by have := hst.out; rw [steps_left h2l (by rw [← HK.out]; exact hik), ← HK.out] at this; omega
        have HP := Lib.hid hpst
        have kk : (i' : Int) < (k : Int) := by omega
        clear hpst
        go_wp2_with fail
        refine (start_any A' l' c' B' d' k bs w _ la (Nat.le_of_lt kl)).mono ?_
        rintro e w4 ⟨A4, c4, B4, d4, rfl, la4, hb4⟩
        have b4 := bel3.trans (hb4.mono bel3.size)
        have at4 := at3.below hb4 at3.lt
        have hown4 := own_below hown3 hb4
        have fd4 := fd3.below hb4
        have hlt4 := at4.lt
        have s4 := s3.below hb4
        have HZ4 := Lib.hid hb4.size
        clear at3 hown3 fd3 hb4 c0 c1 hcd hto3 s3 bel3
        go_wp2_with (refine wpList_storeB rfl rfl 62 (.tmp 4) (.tmp 43) rfl listTy w.heap.size rfl [.slice A4 k c4, .slice B4 k d4] rfl 62 _ at4 rfl rfl slices_one ?_; intro x5 k5 o5; have c0 := k5.cell 0; simp only [List.getElem?_cons_zero] at c0)
        have b5 := o5.below _ _ b4 (Nat.le_refl _)
        have hown5 := own_only hown4 o5 (Nat.lt_succ_self _)
        have fd5 := fd4.frm (S' := OwB w.heap.size u9) (Frm.only o5 (.inl rfl)) (fun _ h => .inl h)
        have s5 := (Frm.only (S := fun x => x = w.heap.size) o5 rfl).sl s4 (fun b o s h hk => by have := n3b b o s h; have hk2 : b = w.heap.size := hk; omega)
        have hz5 : w4.heap.size ≤ x5.heap.size := Nat.le_of_eq o5.size.symm
        clear b4 at4 hown4 fd4 s4 o5
        refine (climb_ok L0 i' k (some ⟨b, o, none⟩) m cp q0 _ (HT.out _ b5) HZL.out (by omega) (by omega) HQ0.out (hsq.below b5) (by have := hn.out; omega) HP.out hdq0).mono ?_
        rintro e w6 ⟨rfl, hb6⟩
        obtain ⟨cl, hcl⟩ : ∃ cl, climb nd ed L0 i' k q0 = cl := ⟨_, rfl⟩
        have HZC : Hid (cl.size = 32) := by show _ = _; rw [← hcl]; exact climb_size k L0 i' k q0 (Nat.le_refl _) HZL.out
        have HCL : Hid (climb nd ed (lf xs) i' k q0 = cl) := by show _ = _; rw [← HL0.out]; exact hcl
        rw [hcl]
        have k6 := k5.below hb6 k5.lt
        have b6 := b5.trans (hb6.mono b5.size)
        have hown6 := own_below hown5 hb6
        have fd6 := fd5.below hb6
        have s6 := s5.below hb6
        have hz6 : w3.heap.size ≤ w6.heap.size := Nat.le_trans HZ4.out (Nat.le_trans hz5 hb6.size)
        clear k5 b5 hown5 fd5 s5 hb6 hz5 c0 hcl
        go_wp2_with fail
        refine (SealW.nodeBytes_new cl dd _ (by rw [HZC.out]; omega) (by rw [HD32.out]; omega)).mono ?_
        rintro e w7 ⟨A7, c7, rfl, s7, k7, m7, n7, hb7⟩
        rw [HZC.out, HD32.out] at k7 ⊢
        have k7a := k6.below hb7 k6.lt
        have b7 := b6.trans (hb7.mono b6.size)
        have hown7 := own_below hown6 hb7
        have fd7 := fd6.below hb7
        have s37 := s6.below hb7
        have hz7 := Nat.le_trans hz6 hb7.size
        have hzr : wr.heap.size ≤ w6.heap.size := by omega
        clear k6 b6 hown6 fd6 s6 hb7 hz6
        go_wp2_with fail
        refine (fv_of (pair_any (OwB w.heap.size u9) w.heap.size A7 (32 + 32 + 1) c7 (1 :: (cl.data.toList ++ dd.data.toList)) A3 65 c3 tt w _ (HT.out _ (Below.refl _ _)) rfl b7 (owb_in hown7 (Nat.le_succ w.heap.size) (Nat.le_refl _) k7a.lt) (by rw [List.length_cons, List.length_append, bsize, bsize, HZC.out, HD32.out]) s7 HTT.out s37 (by omega) (by omega) k7 m7 k3 m3
          (fun b o s h hk => by have := n7 b o s h; have := (HS3.out b hk).2; omega) (fun b o s h hk => by have := n3b b o s h; have := (HS3.out b hk).2; omega))).mono ?_
        rintro e w8 ⟨N8, p8, q8, rfl, f8, hb8⟩
        have k8 := k7a.below hb8 k7a.lt
        have b8 := b7.trans (hb8.mono b7.size)
        have hown8 := own_below hown7 hb8
        have fd8 := fd7.below hb8
        clear k7a b7 hown7 fd7 s37 hb8 hz7 s7 n7 n3b HS3
        have k9 := k8.alloc (.cells #[(.func (.func N8) #[] #[.pointer (some ⟨p8, 0, none⟩), .pointer (some ⟨q8, 0, none⟩)])] 70)
        have b9 := b8.alloc b8.size (.cells #[(.func (.func N8) #[] #[.pointer (some ⟨p8, 0, none⟩), .pointer (some ⟨q8, 0, none⟩)])] 70)
        have l9 : Below w8.heap.size w8 (w8.alloc (.cells #[(.func (.func N8) #[] #[.pointer (some ⟨p8, 0, none⟩), .pointer (some ⟨q8, 0, none⟩)])] 70)) := (Below.refl _ _).alloc (Nat.le_refl _) _
        have fd9 := fd8.below l9
        have f9 := f8.below l9
        have hlt9 := k9.lt
        have nl := newF w8 (.func (.func N8) #[] #[.pointer (some ⟨p8, 0, none⟩), .pointer (some ⟨q8, 0, none⟩)])
        clear k8 b8 fd8 f8 l9
        go_wp2_with (refine wpList_app rfl (.tmp 54) (.tmp 60) 59 rfl findersTy (w.heap.size + 1) u9 n fs rfl (hown8.alloc _) (some ⟨w8.heap.size, 0, none⟩) 1 1 [(.func (.func N8) #[] #[.pointer (some ⟨p8, 0, none⟩), .pointer (some ⟨q8, 0, none⟩)])] rfl rfl nl (Fds.one (Fds.sole f9)) (by have := hn.out; omega) hlt9 ?_; intro v10 x10 hown10 hgr10 hbl10)
        have k10 : At x10 w.heap.size 62 [.slice A4 k c4, .slice B4 k d4] := (hgr10.block _ k9.lt (fun e => by have := ((hown8.alloc (.cells #[(.func (.func N8) #[] #[.pointer (some ⟨p8, 0, none⟩), .pointer (some ⟨q8, 0, none⟩)])] 70)).lt _ e.symm).1; omega)).trans k9
        have b10 := below_app b9 hgr10 (hown8.alloc _) (Nat.le_succ _) (Nat.le_of_lt hlt9)
        have fd10 := fds_snoc hgr10 (fun k hk => .inr hk) (owb_new hbl10) fd9 (Fds.sole f9)
        clear k9 b9 fd9 f9 nl hgr10 hbl10 hown8 hlt9
        go_roundw
        case rel =>
          refine ⟨i', k, c4, A4, B4, d4, m, n + 1, (bs.take k), q0, os ++ [_], fs ++ [_], by go_num, rfl, la4, by omega, HQ0, hsq, hdq0, HP, Lib.hid (by have := hn.out; omega), Lib.hid (by rw [List.length_append, hol.out]; rfl), Lib.hid ?_, hown10, fd10, k10, b10⟩
          rw [fo_app, fo_one, orE_assoc, ← hfo.out, HLC.out, HTP.out, HCL.out]
          rfl
        case measure => simp [slLen]
      · obtain ⟨r, hr⟩ : ∃ r, i' = k + r := ⟨i' - k, by omega⟩
        obtain ⟨z, hz2⟩ : ∃ z, l' - k = z := ⟨_, rfl⟩
        have HLC := Lib.hid (lc_right (x := xs) (p := q0) (d := dd) (by rw [la.len]; exact HK.out) (by rw [la.len]; exact h2l) hik)
        rw [la.len, hz2, show i' - k = r by omega] at HLC
        have hpst : m = steps r z := by have := hst.out; rw [steps_right h2l (by rw [← HK.out]; exact hik), ← HK.out, hz2, show i' - k = r by omega] at this; omega
        have HP := Lib.hid hpst
        have hrz : r < z := by omega
        have hzl : z ≤ 1099511627776 := by have := la.l40; omega
        subst hr
        have kk : ¬ ((k : Int) + (r : Int) < (k : Int)) := by omega
        have kk2 : (k : Int) + (r : Int) - (k : Int) = (r : Int) := by omega
        have kk3 : IntKind.i64.wrap (r : Int) = (r : Int) := IntWalk.i64_in _ (by omega)
        have kk4 : IntKind.i64.wrap ((k : Int) + (r : Int) - (k : Int)) = (r : Int) := by rw [kk2]; exact kk3
        have HZ2 := Lib.hid hz2
        clear hpst hz2 hik
        go_wp2_with fail
        refine (rest_any A' l' c' B' d' k bs w _ la (Nat.le_of_lt kl)).mono ?_
        rintro e w4 ⟨A4, c4, B4, d4, rfl, la4, hb4⟩
        rw [HZ2.out] at la4 ⊢
        have b4 := bel3.trans (hb4.mono bel3.size)
        have at4 := at3.below hb4 at3.lt
        have hown4 := own_below hown3 hb4
        have fd4 := fd3.below hb4
        have hlt4 := at4.lt
        have s4 := s3.below hb4
        have HZ4 := Lib.hid hb4.size
        clear at3 hown3 fd3 hb4 c0 c1 hcd hto3 s3 bel3
        go_wp2_with (refine wpList_storeB rfl rfl 62 (.tmp 4) (.tmp 64) rfl listTy w.heap.size rfl [.slice A4 z c4, .slice B4 z d4] rfl 62 _ at4 rfl rfl slices_one ?_; intro x5 k5 o5; have c0 := k5.cell 0; simp only [List.getElem?_cons_zero] at c0)
        have b5 := o5.below _ _ b4 (Nat.le_refl _)
        have hown5 := own_only hown4 o5 (Nat.lt_succ_self _)
        have fd5 := fd4.frm (S' := OwB w.heap.size u9) (Frm.only o5 (.inl rfl)) (fun _ h => .inl h)
        have s5 := (Frm.only (S := fun x => x = w.heap.size) o5 rfl).sl s4 (fun b o s h hk => by have := n3b b o s h; have hk2 : b = w.heap.size := hk; omega)
        have hz5 : w4.heap.size ≤ x5.heap.size := Nat.le_of_eq o5.size.symm
        clear b4 at4 hown4 fd4 s4 o5
        refine (climb_ok L0 r z (some ⟨b, o, none⟩) m cp q0 _ (HT.out _ b5) HZL.out (by omega) (by omega) HQ0.out (hsq.below b5) (by have := hn.out; omega) HP.out hdq0).mono ?_
        rintro e w6 ⟨rfl, hb6⟩
        obtain ⟨cl, hcl⟩ : ∃ cl, climb nd ed L0 r z q0 = cl := ⟨_, rfl⟩
        have HZC : Hid (cl.size = 32) := by show _ = _; rw [← hcl]; exact climb_size z L0 r z q0 (Nat.le_refl _) HZL.out
        have HCL : Hid (climb nd ed (lf xs) r z q0 = cl) := by show _ = _; rw [← HL0.out]; exact hcl
        rw [hcl]
        have k6 := k5.below hb6 k5.lt
        have b6 := b5.trans (hb6.mono b5.size)
        have hown6 := own_below hown5 hb6
        have fd6 := fd5.below hb6
        have s6 := s5.below hb6
        have hz6 : w3.heap.size ≤ w6.heap.size := Nat.le_trans HZ4.out (Nat.le_trans hz5 hb6.size)
        clear k5 b5 hown5 fd5 s5 hb6 hz5 c0 hcl
        go_wp2_with fail
        refine (SealW.nodeBytes_new dd cl _ (by rw [HD32.out]; omega) (by rw [HZC.out]; omega)).mono ?_
        rintro e w7 ⟨A7, c7, rfl, s7, k7, m7, n7, hb7⟩
        rw [HD32.out, HZC.out] at k7 ⊢
        have k7a := k6.below hb7 k6.lt
        have b7 := b6.trans (hb7.mono b6.size)
        have hown7 := own_below hown6 hb7
        have fd7 := fd6.below hb7
        have s37 := s6.below hb7
        have hz7 := Nat.le_trans hz6 hb7.size
        have hzr : wr.heap.size ≤ w6.heap.size := by omega
        clear k6 b6 hown6 fd6 s6 hb7 hz6
        go_wp2_with fail
        refine (fv_of (pair_any (OwB w.heap.size u9) w.heap.size A7 (32 + 32 + 1) c7 (1 :: (dd.data.toList ++ cl.data.toList)) A3 65 c3 tt w _ (HT.out _ (Below.refl _ _)) rfl b7 (owb_in hown7 (Nat.le_succ w.heap.size) (Nat.le_refl _) k7a.lt) (by rw [List.length_cons, List.length_append, bsize, bsize, HD32.out, HZC.out]) s7 HTT.out s37 (by omega) (by omega) k7 m7 k3 m3
          (fun b o s h hk => by have := n7 b o s h; have := (HS3.out b hk).2; omega) (fun b o s h hk => by have := n3b b o s h; have := (HS3.out b hk).2; omega))).mono ?_
        rintro e w8 ⟨N8, p8, q8, rfl, f8, hb8⟩
        have k8 := k7a.below hb8 k7a.lt
        have b8 := b7.trans (hb8.mono b7.size)
        have hown8 := own_below hown7 hb8
        have fd8 := fd7.below hb8
        clear k7a b7 hown7 fd7 s37 hb8 hz7 s7 n7 n3b HS3
        have k9 := k8.alloc (.cells #[(.func (.func N8) #[] #[.pointer (some ⟨p8, 0, none⟩), .pointer (some ⟨q8, 0, none⟩)])] 70)
        have b9 := b8.alloc b8.size (.cells #[(.func (.func N8) #[] #[.pointer (some ⟨p8, 0, none⟩), .pointer (some ⟨q8, 0, none⟩)])] 70)
        have l9 : Below w8.heap.size w8 (w8.alloc (.cells #[(.func (.func N8) #[] #[.pointer (some ⟨p8, 0, none⟩), .pointer (some ⟨q8, 0, none⟩)])] 70)) := (Below.refl _ _).alloc (Nat.le_refl _) _
        have fd9 := fd8.below l9
        have f9 := f8.below l9
        have hlt9 := k9.lt
        have nl := newF w8 (.func (.func N8) #[] #[.pointer (some ⟨p8, 0, none⟩), .pointer (some ⟨q8, 0, none⟩)])
        clear k8 b8 fd8 f8 l9
        go_wp2_with (refine wpList_app rfl (.tmp 78) (.tmp 84) 59 rfl findersTy (w.heap.size + 1) u9 n fs rfl (hown8.alloc _) (some ⟨w8.heap.size, 0, none⟩) 1 1 [(.func (.func N8) #[] #[.pointer (some ⟨p8, 0, none⟩), .pointer (some ⟨q8, 0, none⟩)])] rfl rfl nl (Fds.one (Fds.sole f9)) (by have := hn.out; omega) hlt9 ?_; intro v10 x10 hown10 hgr10 hbl10)
        have k10 : At x10 w.heap.size 62 [.slice A4 z c4, .slice B4 z d4] := (hgr10.block _ k9.lt (fun e => by have := ((hown8.alloc (.cells #[(.func (.func N8) #[] #[.pointer (some ⟨p8, 0, none⟩), .pointer (some ⟨q8, 0, none⟩)])] 70)).lt _ e.symm).1; omega)).trans k9
        have b10 := below_app b9 hgr10 (hown8.alloc _) (Nat.le_succ _) (Nat.le_of_lt hlt9)
        have fd10 := fds_snoc hgr10 (fun k hk => .inr hk) (owb_new hbl10) fd9 (Fds.sole f9)
        clear k9 b9 fd9 f9 nl hgr10 hbl10 hown8 hlt9
        go_roundw
        case rel =>
          refine ⟨r, z, c4, A4, B4, d4, m, n + 1, (bs.drop k), q0, os ++ [_], fs ++ [_], by go_num, rfl, la4, by omega, HQ0, hsq, hdq0, HP, Lib.hid (by have := hn.out; omega), Lib.hid (by rw [List.length_append, hol.out]; rfl), Lib.hid ?_, hown10, fd10, k10, b10⟩
          rw [fo_app, fo_one, orE_assoc, ← hfo.out, HLC.out, HTP.out, HCL.out]
          rfl
        case measure => simp [slLen]
end Go.Proofs.YtihkfomldbjpoaaDoor.ClW

/- clash: Leaf. -/
namespace Go.Proofs.YtihkfomldbjpoaaDoor.ClW
open Go.RowKit TreeW ConsW TrW ClashW
open ShaW Sha
theorem climb_no (leaf : ByteArray) (i : Int) (n : Nat) (A : Option Addr) (l c : Nat) (ss : List ByteArray) (w : World) (h1 : leaf.size = 32) (hn : n ≤ 1099511627776) (hl : ss.length = l) (hs : Sl w A (scells ss)) (hl63 : l ≤ 9223372036854775807) (h : ¬ fair8 n i ss) :
    Calls Tryd.prog 25 #[.string leaf, .int .i64 i, .int .i64 (n : Int), .slice A l c] w fun e w' => ∃ z : Int, (z = 1 ∨ z = 6) ∧ e = .returned (.tuple #[.string ⟨#[]⟩, .int .i64 z]) ∧ Below w.heap.size w w' := by
  by_cases hi : i < 0 ∨ (n : Int) ≤ i
  · exact (climb_arg leaf i n A l c w (by omega)).mono fun e w' ⟨h2, h3⟩ => ⟨1, .inl rfl, h2, by subst h3; exact Below.refl _ _⟩
  · obtain ⟨k, rfl⟩ : ∃ k : Nat, i = (k : Int) := ⟨i.toNat, by omega⟩
    refine (climb_proof leaf k n A l c ss w h1 (by omega) hn hl hs hl63 ?_).mono fun e w' ⟨h2, h3⟩ => ⟨6, .inr rfl, h2, h3⟩
    by_cases hd : Digs ss
    · refine .inl fun e => h ⟨by omega, by omega, hd, ?_⟩
      rw [hl, e]; rfl
    · exact .inr hd
set_option maxRecDepth 1000000 in
set_option maxHeartbeats 4000000 in
theorem Leaf_any (A : Option Addr) (l c : Nat) (vs : List Value) (bss : List (List UInt8)) (i : Int) (B : Option Addr) (lb db : Nat) (xs : List UInt8) (C : Option Addr) (lp cp : Nat) (ps : List ByteArray) (w : World) (hT : Tab w)
    (hl : bss.length = l) (hA : Sl w A vs) (hR : RowsAt w vs bss) (hlc : l ≤ c) (hl40 : l ≤ 1099511627776) (hbd : ∀ x ∈ bss, x.length ≤ 100000000000) (hlb : xs.length = lb) (hB : Sl w B (bcells xs)) (_hlbd : lb ≤ db) (_hdb : db ≤ 9223372036854775807) (hx : xs.length ≤ 100000000000)
    (hlp : ps.length = lp) (hC : Sl w C (scells ps)) (hlpc : lp ≤ cp) (hcp : cp ≤ 9223372036854775807) :
    Calls Tryd.prog 12 #[.slice A l c, .int .i64 i, .slice B lb db, .slice C lp cp] w fun e w' => ∃ A' n' c' B' m' d' q, e = .returned (.tuple #[.agg #[.slice A' n' c', .slice B' m' d'], .bool q]) ∧ TC w.heap.size w' (lcx bss i xs ps) A' n' c' B' m' d' q ∧ Below w.heap.size w w' := by
  have h0 : At (w.alloc (.cells #[.slice none 0 0, .slice none 0 0] 29)) w.heap.size 29 [.slice none 0 0, .slice none 0 0] := At.new_ w _ 29 _ rfl
  have b0 : Below w.heap.size w (w.alloc (.cells #[.slice none 0 0, .slice none 0 0] 29)) := (Below.refl _ _).alloc (Nat.le_refl _) _
  have HT := Lib.hid (fun W (hb : Below w.heap.size w W) => hT.below hb hT.pos)
  rw [hlb] at hx
  have HL := Lib.hid hl
  have HR := Lib.hid hR
  have HBD := Lib.hid hbd
  have HLB := Lib.hid hlb
  have HLP := Lib.hid hlp
  obtain ⟨L0, hL0⟩ : ∃ x, x = lf xs := ⟨_, rfl⟩
  have e1 : (⟨(sha (0 :: xs)).toArray⟩ : ByteArray) = L0 := hL0.symm
  have ZL := Lib.hid (show L0.size = 32 by rw [hL0]; exact lf_size xs)
  have E1 := Lib.hid e1
  clear hT hl hR hbd hlb hlp hL0 e1
  by_cases hf : fair8 l i ps
  · have HYES := Lib.hid (lcx_yes (x := xs) (by rw [HL.out]; exact hf))
    obtain ⟨hi0, hil, hdg, hst⟩ := hf
    obtain ⟨k, rfl⟩ : ∃ k : Nat, i = (k : Int) := ⟨i.toNat, by omega⟩
    have hkl : k < l := by omega
    have HST : Hid (lp = steps k l) := by show _ = _; rw [← HLP.out, hst]; rfl
    have HD := Lib.hid hdg
    have hlpl : lp ≤ l := by have := HST.out; have := steps_le l k; omega
    clear hst hdg hi0 hil
    go_enter Tryd.func12, Tryd.ntmps12
    go_wp2_with fail
    refine (SealW.leaf_any B lb db xs _ (HT.out _ b0) HLB.out (hB.below b0) (by omega)).mono ?_
    rintro e w1 ⟨rfl, hb1⟩
    rw [E1.out]
    have b1 := b0.trans (hb1.mono b0.size)
    have h1 := h0.below hb1 h0.lt
    clear h0 b0 hb1
    go_wp2_with fail
    refine (climb_ok L0 k l C lp cp ps _ (HT.out _ b1) ZL.out hkl hl40 HLP.out (hC.below b1) (by omega) HST.out HD.out).mono ?_
    rintro e w2 ⟨rfl, hb2⟩
    have b2 := b1.trans (hb2.mono b1.size)
    have h2 := h1.below hb2 h1.lt
    clear h1 b1 hb2
    go_wp2_with fail
    refine (newList_any A l c vs bss _ (HT.out _ b2) HL.out (hA.below b2) (HR.out.below b2) hlc hl40 HBD.out).mono ?_
    rintro e w3 ⟨A3, c3, rfl, la, hb3⟩
    have b3 := b2.trans (hb3.mono b2.size)
    have h3 := h2.below hb3 h2.lt
    clear h2 b2 hb3
    go_wp2_with fail
    refine (claimed_any A l c A3 c3 bss k B lb db xs C lp cp ps _ (HT.out _ b3) la hkl HLB.out (hB.below b3) hx HLP.out (hC.below b3) HD.out hlpc hcp HST.out).mono ?_
    rintro e w4 ⟨v4, os, rfl, ⟨fs, hown, hfd⟩, hos, hfo, hb4⟩
    have b4 := b3.trans (hb4.mono b3.size)
    have h4 := h3.below hb4 h3.lt
    obtain ⟨A4, c4, rfl, sl4, _, hl4, _, _⟩ := own_slice hown
    have HFO := Lib.hid hfo
    obtain ⟨n4, hn4⟩ : ∃ n, os.length = n := ⟨_, rfl⟩
    rw [hn4] at hl4 hos ⊢
    have HL4 := Lib.hid hl4
    clear h3 b3 hb4 hown la hfo hl4 hn4
    go_wp2_with fail
    refine (first_any _ A4 n4 c4 fs os _ HL4.out sl4 hfd (by omega)).mono ?_
    rintro e w5 ⟨A5, n5, c5, B5, m5, d5, z5, rfl, t5, hb5⟩
    have b5 := b4.trans (hb5.mono b4.size)
    have h5 := h4.below hb5 h4.lt
    have hlt5 := h4.lt
    rw [HFO.out] at t5
    clear h4 b4 hb5 sl4 hfd
    go_wp2_with (refine wpList_storeB rfl rfl 29 (.tmp 8) (.tmp 32) rfl SealW.clashTy w.heap.size rfl [.slice A5 n5 c5, .slice B5 m5 d5] rfl 29 _ h5 rfl rfl slices_one ?_; intro x6 k6 o6)
    have b6 := o6.below _ _ b5 (Nat.le_refl _)
    rw [HYES.out]
    exact bodyPost_ret (v := .tuple #[.agg #[.slice A5 n5 c5, .slice B5 m5 d5], .bool z5]) (results_cellA2 rfl SealW.clashTy _ _ w.heap.size 29 [.slice A5 n5 c5, .slice B5 m5 d5] rfl k6 rfl _ rfl) rfl
      ⟨A5, n5, c5, B5, m5, d5, z5, rfl, (t5.only o6 hlt5).base (Nat.le_of_lt hlt5), b6⟩
  · have HNO := Lib.hid (lcx_no (x := xs) (by rw [HL.out]; exact hf))
    have HF := Lib.hid hf
    clear hf
    go_enter Tryd.func12, Tryd.ntmps12
    go_wp2_with fail
    refine (SealW.leaf_any B lb db xs _ (HT.out _ b0) HLB.out (hB.below b0) (by omega)).mono ?_
    rintro e w1 ⟨rfl, hb1⟩
    rw [E1.out]
    have b1 := b0.trans (hb1.mono b0.size)
    have h1 := h0.below hb1 h0.lt
    clear h0 b0 hb1
    go_wp2_with fail
    refine (climb_no L0 i l C lp cp ps _ ZL.out hl40 HLP.out (hC.below b1) (by omega) HF.out).mono ?_
    rintro e w2 ⟨z, hz, rfl, hb2⟩
    have b2 := b1.trans (hb2.mono b1.size)
    have h2 := h1.below hb2 h1.lt
    clear h1 b1 hb2
    rcases hz with rfl | rfl
    · go_wp2_with (refine wpList_storeB rfl rfl 29 (.tmp 8) (.tmp 24) rfl SealW.clashTy w.heap.size rfl [.slice none 0 0, .slice none 0 0] rfl 29 _ h2 rfl rfl slices_one ?_; intro x1 k1 o1)
      have b3 := o1.below _ _ b2 (Nat.le_refl _)
      rw [HNO.out]
      exact bodyPost_ret (v := .tuple #[.agg #[.slice none 0 0, .slice none 0 0], .bool false]) (results_cellA2 rfl SealW.clashTy _ _ w.heap.size 29 [.slice none 0 0, .slice none 0 0] rfl k1 rfl _ rfl) rfl
        ⟨none, 0, 0, none, 0, 0, false, rfl, TC.none_ _ _, b3⟩
    · go_wp2_with (refine wpList_storeB rfl rfl 29 (.tmp 8) (.tmp 24) rfl SealW.clashTy w.heap.size rfl [.slice none 0 0, .slice none 0 0] rfl 29 _ h2 rfl rfl slices_one ?_; intro x1 k1 o1)
      have b3 := o1.below _ _ b2 (Nat.le_refl _)
      rw [HNO.out]
      exact bodyPost_ret (v := .tuple #[.agg #[.slice none 0 0, .slice none 0 0], .bool false]) (results_cellA2 rfl SealW.clashTy _ _ w.heap.size 29 [.slice none 0 0, .slice none 0 0] rfl k1 rfl _ rfl) rfl
        ⟨none, 0, 0, none, 0, 0, false, rfl, TC.none_ _ _, b3⟩
end Go.Proofs.YtihkfomldbjpoaaDoor.ClW

/- clash: Two. -/
namespace Go.Proofs.YtihkfomldbjpoaaDoor.ClW
open Go.RowKit TreeW ConsW TrW ClashW
open ShaW Sha
set_option maxRecDepth 1000000 in
set_option maxHeartbeats 4000000 in
theorem Two_any (A : Option Addr) (l c : Nat) (vs : List Value) (a : List (List UInt8)) (B : Option Addr) (m cb : Nat) (us : List Value) (b : List (List UInt8)) (w : World) (hT : Tab w)
    (hl : a.length = l) (hA : Sl w A vs) (hR : RowsAt w vs a) (hlb : b.length = m) (hB : Sl w B us) (hS : RowsAt w us b) (hlc : l ≤ c) (hlcb : m ≤ cb) (hl40 : l ≤ 1099511627776) (hm40 : m ≤ 1099511627776) (hbd : ∀ x ∈ a, x.length ≤ 100000000000) (hbb : ∀ x ∈ b, x.length ≤ 100000000000) :
    Calls Tryd.prog 20 #[.slice A l c, .slice B m cb] w fun e w' => ∃ A' n' c' B' m' d' q, e = .returned (.tuple #[.agg #[.slice A' n' c', .slice B' m' d'], .bool q]) ∧ TC w.heap.size w' (tcx a b) A' n' c' B' m' d' q ∧ Below w.heap.size w w' := by
  have h0 : At (w.alloc (.cells #[.slice none 0 0, .slice none 0 0] 29)) w.heap.size 29 [.slice none 0 0, .slice none 0 0] := At.new_ w _ 29 _ rfl
  have b0 : Below w.heap.size w (w.alloc (.cells #[.slice none 0 0, .slice none 0 0] 29)) := (Below.refl _ _).alloc (Nat.le_refl _) _
  have HL := Lib.hid hl
  have HLB := Lib.hid hlb
  have HR := Lib.hid hR
  have HS := Lib.hid hS
  have HBD := Lib.hid hbd
  have HBB := Lib.hid hbb
  have HT := Lib.hid (fun W (hb : Below w.heap.size w W) => hT.below hb hT.pos)
  clear hl hlb hR hS hbd hbb hT
  by_cases hlm : l = m
  · by_cases hl0 : l = 0
    · subst hlm
      subst hl0
      have HNO := Lib.hid (tcx_no (a := a) (b := b) (by rw [HL.out, HLB.out]; exact fun h => h.2 rfl))
      go_enter Tryd.func20, Tryd.ntmps20
      go_wp2_with (refine wpList_storeB rfl rfl 29 (.tmp 4) (.tmp 16) rfl SealW.clashTy w.heap.size rfl [.slice none 0 0, .slice none 0 0] rfl 29 _ h0 rfl rfl slices_one ?_; intro x1 k1 o1)
      have b2 := o1.below _ _ b0 (Nat.le_refl _)
      rw [HNO.out]
      exact bodyPost_ret (v := .tuple #[.agg #[.slice none 0 0, .slice none 0 0], .bool false]) (results_cellA2 rfl SealW.clashTy _ _ w.heap.size 29 [.slice none 0 0, .slice none 0 0] rfl k1 rfl _ rfl) rfl
        ⟨none, 0, 0, none, 0, 0, false, rfl, TC.none_ _ _, b2⟩
    · subst hlm
      have HYES := Lib.hid (tcx_yes (a := a) (b := b) ⟨by rw [HL.out, HLB.out], by rw [HL.out]; exact hl0⟩)
      have hl1 : 1 ≤ l := by omega
      have hne : ((l : Int) == 0) = false := by simpa using (show ¬ (l : Int) = 0 by omega)
      clear hl0
      go_enter Tryd.func20, Tryd.ntmps20
      go_wp2_with fail
      refine (newList_any A l c vs a _ (HT.out _ b0) HL.out (hA.below b0) (HR.out.below b0) hlc hl40 HBD.out).mono ?_
      rintro e w1 ⟨A1, c1, rfl, la, hb1⟩
      have b1 := b0.trans (hb1.mono b0.size)
      have h1 := h0.below hb1 h0.lt
      clear h0 b0 hb1
      go_wp2_with fail
      refine (newList_any B l cb us b _ (HT.out _ b1) HLB.out (hB.below b1) (HS.out.below b1) hlcb hl40 HBB.out).mono ?_
      rintro e w2 ⟨A2, c2, rfl, lb, hb2⟩
      have b2 := b1.trans (hb2.mono b1.size)
      have h2 := h1.below hb2 h1.lt
      have la := la.below hb2
      clear h1 b1 hb2
      go_wp2_with fail
      refine (fv_of (lists_any l (fun _ => False) w2.heap.size A l c A1 c1 B cb A2 c2 a b w2 _ (HT.out _ b2) rfl (Below.refl _ _) (fun _ h => h.elim) la lb hl1 (Nat.le_refl _))).mono ?_
      rintro e w3 ⟨N3, p3, q3, rfl, f3, hb3⟩
      have b3 := b2.trans (hb3.mono b2.size)
      have h3 := h2.below hb3 h2.lt
      clear h2 b2 hb3 la lb
      have b4 := b3.alloc b3.size (.cells #[(.func (.func N3) #[] #[.pointer (some ⟨p3, 0, none⟩), .pointer (some ⟨q3, 0, none⟩)])] 70)
      have h4 := h3.alloc (.cells #[(.func (.func N3) #[] #[.pointer (some ⟨p3, 0, none⟩), .pointer (some ⟨q3, 0, none⟩)])] 70)
      have f4 := f3.below (Below.alloc (Below.refl _ _) (Nat.le_refl _) (.cells #[(.func (.func N3) #[] #[.pointer (some ⟨p3, 0, none⟩), .pointer (some ⟨q3, 0, none⟩)])] 70))
      go_wp2_with fail
      refine (first_any (fun _ => False) (some ⟨w3.heap.size, 0, none⟩) 1 1 [(.func (.func N3) #[] #[.pointer (some ⟨p3, 0, none⟩), .pointer (some ⟨q3, 0, none⟩)])] [_] _ rfl (Sl.of_at_all (At.new_ w3 _ 70 [(.func (.func N3) #[] #[.pointer (some ⟨p3, 0, none⟩), .pointer (some ⟨q3, 0, none⟩)])] rfl)) (Fds.sole f4) (by omega)).mono ?_
      rintro e w5 ⟨A5, n5, c5, B5, m5, d5, z5, rfl, t5, hb5⟩
      have b5 := b4.trans (hb5.mono b4.size)
      have h5 := h4.below hb5 h4.lt
      have hlt5 := h4.lt
      rw [fo_one] at t5
      clear h3 b3 h4 b4 hb5 f3 f4
      go_wp2_with (refine wpList_storeB rfl rfl 29 (.tmp 4) (.tmp 24) rfl SealW.clashTy w.heap.size rfl [.slice A5 n5 c5, .slice B5 m5 d5] rfl 29 _ h5 rfl rfl slices_one ?_; intro x6 k6 o6)
      have b6 := o6.below _ _ b5 (Nat.le_refl _)
      rw [HYES.out]
      exact bodyPost_ret (v := .tuple #[.agg #[.slice A5 n5 c5, .slice B5 m5 d5], .bool z5]) (results_cellA2 rfl SealW.clashTy _ _ w.heap.size 29 [.slice A5 n5 c5, .slice B5 m5 d5] rfl k6 rfl _ rfl) rfl
        ⟨A5, n5, c5, B5, m5, d5, z5, rfl, (t5.only o6 hlt5).base (Nat.le_of_lt hlt5), b6⟩
  · have HNO := Lib.hid (tcx_no (a := a) (b := b) (by rw [HL.out, HLB.out]; exact fun h => hlm h.1))
    have hne : ((l : Int) == (m : Int)) = false := by simpa using (show ¬ (l : Int) = (m : Int) by omega)
    clear hlm
    go_enter Tryd.func20, Tryd.ntmps20
    go_wp2_with (refine wpList_storeB rfl rfl 29 (.tmp 4) (.tmp 16) rfl SealW.clashTy w.heap.size rfl [.slice none 0 0, .slice none 0 0] rfl 29 _ h0 rfl rfl slices_one ?_; intro x1 k1 o1)
    have b2 := o1.below _ _ b0 (Nat.le_refl _)
    rw [HNO.out]
    exact bodyPost_ret (v := .tuple #[.agg #[.slice none 0 0, .slice none 0 0], .bool false]) (results_cellA2 rfl SealW.clashTy _ _ w.heap.size 29 [.slice none 0 0, .slice none 0 0] rfl k1 rfl _ rfl) rfl
      ⟨none, 0, 0, none, 0, 0, false, rfl, TC.none_ _ _, b2⟩
end Go.Proofs.YtihkfomldbjpoaaDoor.ClW
