/- cons: proof, Prove. -/
import Derived.Test.YtihkfomldbjpoaaDoorJ7
import Derived.Test.YtihkfomldbjpoaaDoorQPcr
namespace Go.Proofs.YtihkfomldbjpoaaDoor.CoW
open Go.RowKit TreeW ConsW TrW
open ShaW Sha
set_option maxRecDepth 1000000 in
set_option maxHeartbeats 2000000 in
theorem proof_any : ∀ (f : Nat) (A : Option Addr) (l c : Nat) (ss : List ByteArray) (m : Nat) (pa : Bool) (_hf : l ≤ f) (w : World) (_hT : Tab w) (_hl : ss.length = l) (_hs : Sl w A (scells ss)) (_hd : Digs ss) (_h1 : 1 ≤ m) (_h2 : m ≤ l) (_hlc : l ≤ c) (_hl40 : l ≤ 1099511627776),
    Calls Tryd.prog 67 #[.slice A l c, .int .i64 (m : Int), .bool pa] w fun e w' => ∃ v, e = .returned v ∧ OwS w.heap.size w' v (pt ss m (!pa)) ∧ Below w.heap.size w w' := by
  intro f
  induction f with
  | zero => intro A l c ss m pa hf w hT hl hs hd h1 h2; omega
  | succ f ih =>
    intro A l c ss m pa hf w hT hl hs hd h1 h2 hlc hl40
    by_cases hml : m = l
    · have HPA : Hid (pt ss m (!pa) = if (!pa) then [] else [rt ss]) := by show _ = _; rw [hml, ← hl]; exact pt_all ss (!pa)
      have HL := Lib.hid hl
      have HD := Lib.hid hd
      subst hml
      clear hl hd ih
      cases pa with
      | false =>
        go_enter Tryd.func67, Tryd.ntmps67
        go_wp2_with fail
        go_ret
        exact ⟨_, rfl, by rw [HPA.out]; exact OwS.nil _ _, Below.refl _ _⟩
      | true =>
        go_enter Tryd.func67, Tryd.ntmps67
        go_wp2_with fail
        refine (croot_any A m c ss _ hT HL.out hs hlc hl40 HD.out).mono ?_
        rintro e w1 ⟨rfl, hb1⟩
        have own1 := own_one w1 w.heap.size (rt ss) hb1.size
        have b1 := hb1.alloc hb1.size (.cells #[.string (rt ss)] 9)
        go_wp2_with fail
        go_ret
        exact ⟨_, rfl, by rw [HPA.out]; exact own1, b1⟩
    have HT := Lib.hid (fun W (hb : Below w.heap.size w W) => hT.below hb hT.pos)
    clear hT
    obtain ⟨k, q, c2, A2, hk, k1, kl, kq, q1, qc, cc, tk, dq, sP, sQ, hto, hfr⟩ := halves (c := c) hl hs (by omega) hlc
    have HK := Lib.hid hk
    have HP := Lib.hid tk
    have HQ := Lib.hid dq
    have HTO := Lib.hid hto
    have HFR := Lib.hid hfr
    have HD := Lib.hid hd
    have b0 : Below w.heap.size w w.drew := (Below.refl _ _).drew
    have hne : ((m : Int) == (l : Int)) = false := by simpa using (show ¬ (m : Int) = (l : Int) by omega)
    by_cases hmk : m ≤ k
    · have HPA : Hid (pt ss m (!pa) = pt (ss.take k) m (!pa) ++ [rt (ss.drop k)]) := part_left nd ed (by rw [hl]; exact hk) h1 (by omega) hmk
      have k5 : (m : Int) ≤ (k : Int) := by omega
      clear hl hs hd hk tk dq hto hfr
      go_enter Tryd.func67, Tryd.ntmps67
      go_wp2_with fail
      refine (split_in l _ (by omega) hl40).mono ?_
      rintro e w1 ⟨rfl, rfl⟩
      rw [← HK.out]
      go_wp2_with fail
      refine regB_begin (w.heap.size) (by kernel_rfl) ?_
      change wpAnyH _ _ _ _ _ 13 #[false, false, false, false, false, false, false, false, false, false, false, false, false] _ _
      refine regB_take (i := 0) (d := some 22) (v := (.slice A l c)) rfl rfl (by kernel_rfl) (by kernel_rfl) (by kernel_rfl) (fun _ _ _ h => h) (by rfl) (by intro w' hSw; go_simp) ?_
      try simp only [Act.put, List.setIfInBounds_toArray, List.set_cons_zero, List.set_cons_succ]
      refine regB_take (i := 1) (d := some 23) (v := (.int .i64 (k : Int))) rfl rfl (by kernel_rfl) (by kernel_rfl) (by kernel_rfl) (fun _ _ _ h => h) (by rfl) (by intro w' hSw; go_simp) ?_
      try simp only [Act.put, List.setIfInBounds_toArray, List.set_cons_zero, List.set_cons_succ]
      refine regB_take (i := 2) (d := some 24) (v := (.slice A k c)) rfl rfl (by kernel_rfl) (by kernel_rfl) (by kernel_rfl) (fun _ _ _ h => h) (by rfl) (by intro w' hSw; have h9 := HTO.out w'; go_simp) ?_
      try simp only [Act.put, List.setIfInBounds_toArray, List.set_cons_zero, List.set_cons_succ]
      refine regB_take (i := 3) (d := some 25) (v := (.int .i64 (m : Int))) rfl rfl (by kernel_rfl) (by kernel_rfl) (by kernel_rfl) (fun _ _ _ h => h) (by rfl) (by intro w' hSw; go_simp) ?_
      try simp only [Act.put, List.setIfInBounds_toArray, List.set_cons_zero, List.set_cons_succ]
      refine regB_take (i := 4) (d := some 26) (v := (.bool pa)) rfl rfl (by kernel_rfl) (by kernel_rfl) (by kernel_rfl) (fun _ _ _ h => h) (by rfl) (by intro w' hSw; go_simp) ?_
      try simp only [Act.put, List.setIfInBounds_toArray, List.set_cons_zero, List.set_cons_succ]
      refine regB_take (i := 6) (d := some 28) (v := (.slice A l c)) rfl rfl (by kernel_rfl) (by kernel_rfl) (by kernel_rfl) (fun _ _ _ h => h) (by rfl) (by intro w' hSw; go_simp) ?_
      try simp only [Act.put, List.setIfInBounds_toArray, List.set_cons_zero, List.set_cons_succ]
      refine regB_take (i := 7) (d := some 29) (v := (.int .i64 (k : Int))) rfl rfl (by kernel_rfl) (by kernel_rfl) (by kernel_rfl) (fun _ _ _ h => h) (by rfl) (by intro w' hSw; go_simp) ?_
      try simp only [Act.put, List.setIfInBounds_toArray, List.set_cons_zero, List.set_cons_succ]
      refine regB_take (i := 8) (d := some 30) (v := (.slice A2 q c2)) rfl rfl (by kernel_rfl) (by kernel_rfl) (by kernel_rfl) (fun _ _ _ h => h) (by rfl) (by intro w' hSw; have h9 := HFR.out w'; go_simp) ?_
      try simp only [Act.put, List.setIfInBounds_toArray, List.set_cons_zero, List.set_cons_succ]
      refine regB_call (i := 5) rfl (by kernel_rfl) (by rfl) fun K hK => ?_
      go_simp
      refine (ih A k c (ss.take k) m pa (by omega) _ (HT.out _ b0) HP.out (sP.below b0) (HD.out.take k) (by omega) (by omega) (by omega) (by omega)).mono ?_
      rintro e w2 ⟨v2, rfl, hown2, hb2⟩
      have hown2 := hown2.base b0.size
      have b2 := b0.trans (hb2.mono b0.size)
      refine hK.out _ _ (hb2.mono b0.size) ?_
      clear hK K
      try simp only [List.setIfInBounds_toArray, List.set_cons_zero, List.set_cons_succ]
      refine regB_call (i := 9) rfl (by kernel_rfl) (by rfl) fun K hK => ?_
      go_simp
      refine (croot_any A2 q c2 (ss.drop k) _ (HT.out _ b2) HQ.out (sQ.below b2) (by omega) (by omega) (HD.out.drop k)).mono ?_
      rintro e w3 ⟨rfl, hb3⟩
      have b3 := b2.trans (hb3.mono b2.size)
      have hown3 := hown2.below hb3
      clear hown2
      refine hK.out _ _ (hb3.mono b2.size) ?_
      clear hK K
      try simp only [List.setIfInBounds_toArray, List.set_cons_zero, List.set_cons_succ]
      refine regB_call (i := 10) rfl (by kernel_rfl) (by rfl) fun K hK => ?_
      go_simp
      have b4 := b3.alloc b3.size (.cells #[.string (rt (ss.drop k))] 9)
      refine hK.out _ _ ((Below.refl _ _).alloc b3.size _) ?_
      clear hK K
      try simp only [List.setIfInBounds_toArray, List.set_cons_zero, List.set_cons_succ]
      refine regB_call (i := 11) rfl (by kernel_rfl) (by rfl) fun K hK => ?_
      obtain ⟨P0, hP0⟩ : ∃ P0, P0 = CoW.pt (ss.take k) m (!pa) := ⟨_, rfl⟩
      rw [← hP0] at hown3
      obtain ⟨p, hp⟩ : ∃ p, p = P0.length := ⟨_, rfl⟩
      have hp40 : p ≤ l := by rw [hp, hP0]; exact Nat.le_trans (part_le nd ed l (ss.take k) m (!pa) (by rw [HP.out]; omega) (by omega) (by rw [HP.out]; omega)) (by rw [HP.out]; omega)
      have hown4 : w3.ownsRow w.heap.size 9 1 v2 p (scells P0) := by rw [hp]; exact hown3
      refine oper_app (some 33) rfl (.tmp 27) (.tmp 32) 24 rfl strsTy w.heap.size v2 p (scells P0) rfl (hown4.alloc _) (some ⟨w3.heap.size, 0, none⟩) 1 1 (scells [(rt (ss.drop k))]) rfl rfl (new_str w3 _) (scells_one _) (by omega) b4.size ?_
      intro v5 w5 hown5 hgr5 hbl5
      have b5 := below_app b4 hgr5 (hown4.alloc _) (Nat.le_refl _) b4.size
      try simp only [Act.put]
      refine hK.out _ _ (below_app (Below.refl _ _) hgr5 (hown4.alloc _) (Nat.le_refl _) b4.size) ?_
      clear hK K
      try simp only [List.setIfInBounds_toArray, List.set_cons_zero, List.set_cons_succ]
      refine regB_take (i := 12) (d := some 6) (v := v5) rfl rfl (by kernel_rfl) (by kernel_rfl) (by kernel_rfl) (fun _ _ _ h => h) (by rfl) (by intro w' hSw; go_simp) ?_
      try simp only [Act.put, List.setIfInBounds_toArray, List.set_cons_zero, List.set_cons_succ]
      refine wpAnyH_done (by kernel_rfl) ?_ _
      have hown6 := snoc_ownS hp hown5
      clear hown3 hown4 hown5 hgr5 hbl5 b4 b3 b2 hb2 hb3 b0 hp hp40
      go_wp2_with fail
      go_ret
      refine ⟨v5, rfl, ?_, b5⟩
      rw [HPA.out, ← hP0]; exact hown6

    · have hPA : pt ss m (!pa) = pt (ss.drop k) (m - k) false ++ [rt (ss.take k)] := part_right nd ed (by rw [hl]; exact hk) h1 (by omega) hmk
      obtain ⟨r, hr⟩ : ∃ r, m - k = r := ⟨_, rfl⟩
      rw [hr] at hPA
      have HPA := Lib.hid hPA
      have k6 : (m : Int) - (k : Int) = (r : Int) := by omega
      have k7 : IntKind.i64.wrap (r : Int) = (r : Int) := IntWalk.i64_in _ (by omega)
      have k5 : ¬ (m : Int) ≤ (k : Int) := by omega
      clear hl hs hd hk tk dq hto hfr hPA
      go_enter Tryd.func67, Tryd.ntmps67
      go_wp2_with fail
      refine (split_in l _ (by omega) hl40).mono ?_
      rintro e w1 ⟨rfl, rfl⟩
      rw [← HK.out]
      go_wp2_with fail
      refine regB_begin (w.heap.size) (by kernel_rfl) ?_
      change wpAnyH _ _ _ _ _ 14 #[false, false, false, false, false, false, false, false, false, false, false, false, false, false] _ _
      refine regB_take (i := 0) (d := some 34) (v := (.slice A l c)) rfl rfl (by kernel_rfl) (by kernel_rfl) (by kernel_rfl) (fun _ _ _ h => h) (by rfl) (by intro w' hSw; go_simp) ?_
      try simp only [Act.put, List.setIfInBounds_toArray, List.set_cons_zero, List.set_cons_succ]
      refine regB_take (i := 1) (d := some 35) (v := (.int .i64 (k : Int))) rfl rfl (by kernel_rfl) (by kernel_rfl) (by kernel_rfl) (fun _ _ _ h => h) (by rfl) (by intro w' hSw; go_simp) ?_
      try simp only [Act.put, List.setIfInBounds_toArray, List.set_cons_zero, List.set_cons_succ]
      refine regB_take (i := 2) (d := some 36) (v := (.slice A2 q c2)) rfl rfl (by kernel_rfl) (by kernel_rfl) (by kernel_rfl) (fun _ _ _ h => h) (by rfl) (by intro w' hSw; have h9 := HFR.out w'; go_simp) ?_
      try simp only [Act.put, List.setIfInBounds_toArray, List.set_cons_zero, List.set_cons_succ]
      refine regB_take (i := 3) (d := some 37) (v := (.int .i64 (m : Int))) rfl rfl (by kernel_rfl) (by kernel_rfl) (by kernel_rfl) (fun _ _ _ h => h) (by rfl) (by intro w' hSw; go_simp) ?_
      try simp only [Act.put, List.setIfInBounds_toArray, List.set_cons_zero, List.set_cons_succ]
      refine regB_take (i := 4) (d := some 38) (v := (.int .i64 (k : Int))) rfl rfl (by kernel_rfl) (by kernel_rfl) (by kernel_rfl) (fun _ _ _ h => h) (by rfl) (by intro w' hSw; go_simp) ?_
      try simp only [Act.put, List.setIfInBounds_toArray, List.set_cons_zero, List.set_cons_succ]
      refine regB_take (i := 5) (d := some 39) (v := (.int .i64 (r : Int))) rfl rfl (by kernel_rfl) (by kernel_rfl) (by kernel_rfl) (fun _ _ _ h => h) (by rfl) (by intro w' hSw; go_simp) ?_
      try simp only [Act.put, List.setIfInBounds_toArray, List.set_cons_zero, List.set_cons_succ]
      refine regB_take (i := 7) (d := some 41) (v := (.slice A l c)) rfl rfl (by kernel_rfl) (by kernel_rfl) (by kernel_rfl) (fun _ _ _ h => h) (by rfl) (by intro w' hSw; go_simp) ?_
      try simp only [Act.put, List.setIfInBounds_toArray, List.set_cons_zero, List.set_cons_succ]
      refine regB_take (i := 8) (d := some 42) (v := (.int .i64 (k : Int))) rfl rfl (by kernel_rfl) (by kernel_rfl) (by kernel_rfl) (fun _ _ _ h => h) (by rfl) (by intro w' hSw; go_simp) ?_
      try simp only [Act.put, List.setIfInBounds_toArray, List.set_cons_zero, List.set_cons_succ]
      refine regB_take (i := 9) (d := some 43) (v := (.slice A k c)) rfl rfl (by kernel_rfl) (by kernel_rfl) (by kernel_rfl) (fun _ _ _ h => h) (by rfl) (by intro w' hSw; have h9 := HTO.out w'; go_simp) ?_
      try simp only [Act.put, List.setIfInBounds_toArray, List.set_cons_zero, List.set_cons_succ]
      refine regB_call (i := 6) rfl (by kernel_rfl) (by rfl) fun K hK => ?_
      go_simp
      refine (ih A2 q c2 (ss.drop k) r true (by omega) _ (HT.out _ b0) HQ.out (sQ.below b0) (HD.out.drop k) (by omega) (by omega) (by omega) (by omega)).mono ?_
      rintro e w2 ⟨v2, rfl, hown2, hb2⟩
      have hown2 := hown2.base b0.size
      rw [Bool.not_true] at hown2
      have b2 := b0.trans (hb2.mono b0.size)
      refine hK.out _ _ (hb2.mono b0.size) ?_
      clear hK K
      try simp only [List.setIfInBounds_toArray, List.set_cons_zero, List.set_cons_succ]
      refine regB_call (i := 10) rfl (by kernel_rfl) (by rfl) fun K hK => ?_
      go_simp
      refine (croot_any A k c (ss.take k) _ (HT.out _ b2) HP.out (sP.below b2) (by omega) (by omega) (HD.out.take k)).mono ?_
      rintro e w3 ⟨rfl, hb3⟩
      have b3 := b2.trans (hb3.mono b2.size)
      have hown3 := hown2.below hb3
      clear hown2
      refine hK.out _ _ (hb3.mono b2.size) ?_
      clear hK K
      try simp only [List.setIfInBounds_toArray, List.set_cons_zero, List.set_cons_succ]
      refine regB_call (i := 11) rfl (by kernel_rfl) (by rfl) fun K hK => ?_
      go_simp
      have b4 := b3.alloc b3.size (.cells #[.string (rt (ss.take k))] 9)
      refine hK.out _ _ ((Below.refl _ _).alloc b3.size _) ?_
      clear hK K
      try simp only [List.setIfInBounds_toArray, List.set_cons_zero, List.set_cons_succ]
      refine regB_call (i := 12) rfl (by kernel_rfl) (by rfl) fun K hK => ?_
      obtain ⟨P0, hP0⟩ : ∃ P0, P0 = CoW.pt (ss.drop k) r false := ⟨_, rfl⟩
      rw [← hP0] at hown3
      obtain ⟨p, hp⟩ : ∃ p, p = P0.length := ⟨_, rfl⟩
      have hp40 : p ≤ l := by rw [hp, hP0]; exact Nat.le_trans (part_le nd ed l (ss.drop k) r false (by rw [HQ.out]; omega) (by omega) (by rw [HQ.out]; omega)) (by rw [HQ.out]; omega)
      have hown4 : w3.ownsRow w.heap.size 9 1 v2 p (scells P0) := by rw [hp]; exact hown3
      refine oper_app (some 46) rfl (.tmp 40) (.tmp 45) 24 rfl strsTy w.heap.size v2 p (scells P0) rfl (hown4.alloc _) (some ⟨w3.heap.size, 0, none⟩) 1 1 (scells [(rt (ss.take k))]) rfl rfl (new_str w3 _) (scells_one _) (by omega) b4.size ?_
      intro v5 w5 hown5 hgr5 hbl5
      have b5 := below_app b4 hgr5 (hown4.alloc _) (Nat.le_refl _) b4.size
      try simp only [Act.put]
      refine hK.out _ _ (below_app (Below.refl _ _) hgr5 (hown4.alloc _) (Nat.le_refl _) b4.size) ?_
      clear hK K
      try simp only [List.setIfInBounds_toArray, List.set_cons_zero, List.set_cons_succ]
      refine regB_take (i := 13) (d := some 6) (v := v5) rfl rfl (by kernel_rfl) (by kernel_rfl) (by kernel_rfl) (fun _ _ _ h => h) (by rfl) (by intro w' hSw; go_simp) ?_
      try simp only [Act.put, List.setIfInBounds_toArray, List.set_cons_zero, List.set_cons_succ]
      refine wpAnyH_done (by kernel_rfl) ?_ _
      have hown6 := snoc_ownS hp hown5
      clear hown3 hown4 hown5 hgr5 hbl5 b4 b3 b2 hb2 hb3 b0 hp hp40
      go_wp2_with fail
      go_ret
      refine ⟨v5, rfl, ?_, b5⟩
      rw [HPA.out, ← hP0]; exact hown6

set_option maxHeartbeats 1000000 in
theorem Prove_ok (A : Option Addr) (l c : Nat) (ss : List ByteArray) (m : Nat) (w : World) (hT : Tab w) (hl : ss.length = l) (hs : Sl w A (scells ss)) (hd : Digs ss) (h2 : m ≤ l) (hlc : l ≤ c) (hl40 : l ≤ 1099511627776) :
    Calls Tryd.prog 32 #[.slice A l c, .int .i64 (m : Int)] w fun e w' => ∃ v, e = .returned (.tuple #[v, .int .i64 0]) ∧ OwS w.heap.size w' v (pv ss m) ∧ Below w.heap.size w w' := by
  have HL := Lib.hid hl
  have HD := Lib.hid hd
  have HDY : Hid (decide (Digs ss) = true) := decide_eq_true hd
  have e1 : ¬ (m : Int) < 0 := by omega
  have e2 : ¬ (m : Int) > (l : Int) := by omega
  clear hl hd
  by_cases h0 : m = 0
  · subst h0
    go_enter Tryd.func32, Tryd.ntmps32
    go_wp2_with fail
    refine (cdigests_any A l c ss _ HL.out hs (by omega)).mono ?_
    rintro e w1 ⟨rfl, rfl⟩
    rw [HDY.out]
    go_wp2_with fail
    go_ret2
    exact ⟨_, rfl, OwS.nil _ _, Below.refl _ _⟩
  · have HPV : Hid (pv ss m = pt ss m true) := by show _ = _; unfold pv ConsW.prove; rw [if_neg h0]; rfl
    have hne : ((m : Int) == 0) = false := by simpa using h0
    go_enter Tryd.func32, Tryd.ntmps32
    go_wp2_with fail
    refine (cdigests_any A l c ss _ HL.out hs (by omega)).mono ?_
    rintro e w1 ⟨rfl, rfl⟩
    rw [HDY.out]
    go_wp2_with fail
    refine (proof_any l A l c ss m false (Nat.le_refl _) _ hT HL.out hs HD.out (by omega) h2 hlc hl40).mono ?_
    rintro e w1 ⟨v, rfl, hown, hb1⟩
    go_wp2_with fail
    go_ret2
    exact ⟨v, rfl, by rw [HPV.out]; exact hown, hb1⟩
theorem Prove_bad (A : Option Addr) (l c : Nat) (ss : List ByteArray) (m : Int) (w : World) (hl : ss.length = l) (hs : Sl w A (scells ss)) (_hlc : l ≤ c) (hl40 : l ≤ 1099511627776) (h : ¬ Digs ss ∨ m < 0 ∨ (l : Int) < m) :
    Calls Tryd.prog 32 #[.slice A l c, .int .i64 m] w fun e w' => e = .returned (.tuple #[.slice none 0 0, .int .i64 1]) ∧ Below w.heap.size w w' := by
  have HL := Lib.hid hl
  clear hl
  by_cases hd : Digs ss
  · have HDY : Hid (decide (Digs ss) = true) := decide_eq_true hd
    by_cases h1 : m < 0
    · clear h hd
      go_enter Tryd.func32, Tryd.ntmps32
      go_wp2_with fail
      refine (cdigests_any A l c ss _ HL.out hs (by omega)).mono ?_
      rintro e w1 ⟨rfl, rfl⟩
      rw [HDY.out]
      go_wp2_with fail
      go_ret2
      exact ⟨rfl, Below.refl _ _⟩
    · have h2 : m > (l : Int) := by
        rcases h with h | h | h
        · exact absurd hd h
        · exact absurd h h1
        · exact h
      clear h hd
      go_enter Tryd.func32, Tryd.ntmps32
      go_wp2_with fail
      refine (cdigests_any A l c ss _ HL.out hs (by omega)).mono ?_
      rintro e w1 ⟨rfl, rfl⟩
      rw [HDY.out]
      go_wp2_with fail
      go_ret2
      exact ⟨rfl, Below.refl _ _⟩
  · have HDN : Hid (decide (Digs ss) = false) := decide_eq_false hd
    clear h hd
    go_enter Tryd.func32, Tryd.ntmps32
    go_wp2_with fail
    refine (cdigests_any A l c ss _ HL.out hs (by omega)).mono ?_
    rintro e w1 ⟨rfl, rfl⟩
    rw [HDN.out]
    go_wp2_with fail
    go_ret2
    exact ⟨rfl, Below.refl _ _⟩
end Go.Proofs.YtihkfomldbjpoaaDoor.CoW
