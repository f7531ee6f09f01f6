/- rubrickref06: Right, Root, Path, Steps, Climb; rubrickref02.Same of like rows. -/
import Derived.Test.YtmebogaenbjmnaaDoorMf
import Derived.Test.YtmebogaenbjmnaaDoorRsNode
namespace Go.Proofs.YtmebogaenbjmnaaDoor.TrW
open Go.RowKit TreeW
open ShaW Sha
set_option maxHeartbeats 1000000 in
theorem right_any (A : Option Addr) (l c : Nat) (ss : List ByteArray) (w : World) (hl : ss.length = l) (hs : Sl w A (scells ss)) (hl63 : l ≤ 9223372036854775807) :
    Calls Tryd.prog 16 #[.slice A l c] w fun e w' => e = .returned (.bool (decide (Digs ss))) ∧ w = w' := by
  have HL := Lib.hid hl
  clear hl
  go_enter Tryd.func16, Tryd.ntmps16
  go_wp2_with fail
  go_loop [3] (fun i => ∃ j : Nat, j ≤ l ∧ i = .int .i64 (j : Int) ∧ Hid (Digs (ss.take j))) (fun i => l - (intOf i).toNat)
  case atStart => exact ⟨0, by omega, rfl, fun x hx => by simp at hx⟩
  case round =>
    obtain ⟨j, hj, rfl, HK⟩ := hrel
    by_cases hlt : j < l
    · obtain ⟨b, o, rfl, hblt, hcell⟩ := hs.get (j := j) (by rw [scells_len, HL.out]; exact hlt)
      have hc0 := hcell j _ (scells_get ss j (by rw [HL.out]; exact hlt))
      have hget := get_of (ss := ss) (j := j) (by rw [HL.out]; exact hlt)
      obtain ⟨s, hsj⟩ : ∃ s, ss.getD j ⟨#[]⟩ = s := ⟨_, rfl⟩
      rw [hsj] at hc0 hget
      have HG := Lib.hid hget
      clear hcell hget hsj
      by_cases h32 : s.size = 32
      · have h1 : (s.size : Int) = 32 := by omega
        have HN := Lib.hid (digs_take_succ HG.out HK.out h32)
        clear h32
        go_wp2_with fail
        go_round
        case rel => exact ⟨j + 1, by omega, by go_num, HN⟩
        case measure => simp [intOf]; omega
      · have h1 : ¬ (s.size : Int) = 32 := by omega
        have HF : Hid (decide (Digs ss) = false) := decide_eq_false (fun h => h32 (h s (List.mem_of_getElem? HG.out)))
        clear h32
        go_wp2_with fail
        go_ret
        exact ⟨by rw [HF.out]; rfl, rfl⟩
    · have HF : Hid (decide (Digs ss) = true) := decide_eq_true (by
        have := HK.out
        rwa [List.take_of_length_le (by rw [HL.out]; omega)] at this)
      go_wp2_with fail
      go_ret
      exact ⟨by rw [HF.out]; rfl, rfl⟩
theorem right_yes (A : Option Addr) (l c : Nat) (ss : List ByteArray) (w : World) (hl : ss.length = l) (hs : Sl w A (scells ss)) (hl63 : l ≤ 9223372036854775807) (hd : Digs ss) :
    Calls Tryd.prog 16 #[.slice A l c] w fun e w' => e = .returned (.bool true) ∧ w = w' := by
  have := right_any A l c ss w hl hs hl63; rwa [decide_eq_true hd] at this
theorem right_no (A : Option Addr) (l c : Nat) (ss : List ByteArray) (w : World) (hl : ss.length = l) (hs : Sl w A (scells ss)) (hl63 : l ≤ 9223372036854775807) (hd : ¬ Digs ss) :
    Calls Tryd.prog 16 #[.slice A l c] w fun e w' => e = .returned (.bool false) ∧ w = w' := by
  have := right_any A l c ss w hl hs hl63; rwa [decide_eq_false hd] at this
set_option maxHeartbeats 400000 in
theorem same_any (A B : Option Addr) (n c d : Nat) (ss : List ByteArray) (w : World) (hn : ss.length = n) (hA : Sl w A (scells ss)) (hB : Sl w B (scells ss)) (hn63 : n ≤ 9223372036854775807) :
    Calls Tryd.prog 19 #[.slice A n c, .slice B n d] w fun e w' => e = .returned (.bool true) ∧ Below w.heap.size w w' := by
  have HN : Hid (ss.length = n) := hn
  clear hn
  go_enter Tryd.func19, Tryd.ntmps19
  go_wp2_with fail
  go_loopw [5] (fun i wr => ∃ k : Nat, k ≤ n ∧ i = .int .i64 k ∧ Below w.heap.size w wr) (fun i _ => n - (intOf i).toNat)
  case atStart => exact ⟨0, by omega, rfl, Below.refl _ _⟩
  case round =>
    obtain ⟨k, hk, rfl, hbel⟩ := hrel
    by_cases hlt : k < n
    · obtain ⟨b, o, rfl, hblt, hcell⟩ := (hA.get (j := k) (by rw [scells_len, HN.out]; exact hlt))
      obtain ⟨b2, o2, rfl, hblt2, hcell2⟩ := (hB.get (j := k) (by rw [scells_len, HN.out]; exact hlt))
      have hc0 := (hbel.cell (p := ⟨b, o + k, none⟩) hblt).trans (hcell k _ (scells_get ss k (by rw [HN.out]; exact hlt)))
      have hc1 := (hbel.cell (p := ⟨b2, o2 + k, none⟩) hblt2).trans (hcell2 k _ (scells_get ss k (by rw [HN.out]; exact hlt)))
      clear hcell hcell2
      generalize ss.getD k ⟨#[]⟩ = s at *
      go_wp2_with fail
      go_quiet (fail)
      go_wp2_with fail
      go_roundw
      case rel => exact ⟨k + 1, by omega, by go_num, hbel.trans (below_drewN (Below.refl _ _) _)⟩
      case measure => simp [intOf]; omega
    · have hk8 : k = n := by omega
      go_wp2_with fail
      go_ret
      exact ⟨rfl, hbel⟩
theorem refNode_nd (l r : ByteArray) (w : World) (hs : l.size + r.size ≤ 1000000000000) :
    Calls Tryd.prog 34 #[.string l, .string r] w fun e w' => e = .returned (.string (nd l r)) ∧ Below w.heap.size w w' := SealW.refNode_any l r w hs
set_option maxRecDepth 1000000 in
set_option maxHeartbeats 2000000 in
theorem refRoot_any : ∀ (m : Nat) (A : Option Addr) (l c : Nat) (ss : List ByteArray) (_hm : l ≤ m) (w : World) (_hl : ss.length = l) (_hs : Sl w A (scells ss)) (_hd : Digs ss) (_hlc : l ≤ c) (_hl40 : l ≤ 1099511627776),
    Calls Tryd.prog 17 #[.slice A l c] w fun e w' => e = .returned (.string (rt ss)) ∧ Below w.heap.size w w' := by
  intro m
  induction m with
  | zero =>
    intro A l c ss hm w hl hs hd hlc hl40
    obtain rfl : l = 0 := by omega
    have HZ : Hid (rt ss = ed) := by show _ = _; rw [List.eq_nil_of_length_eq_zero hl]; rfl
    clear hl hs hd
    go_enter Tryd.func17, Tryd.ntmps17
    go_wp2_with fail
    refine (refSum_any none 0 0 [] _ rfl Sl.nil (by omega)).mono ?_
    rintro e w1 ⟨rfl, hb1⟩
    go_wp2_with fail
    go_ret
    exact ⟨by rw [HZ.out]; rfl, hb1⟩
  | succ m ih =>
    intro A l c ss hm w hl hs hd hlc hl40
    by_cases hz : l = 0
    · subst hz
      have HZ : Hid (rt ss = ed) := by show _ = _; rw [List.eq_nil_of_length_eq_zero hl]; rfl
      clear hl hs hd ih
      go_enter Tryd.func17, Tryd.ntmps17
      go_wp2_with fail
      refine (refSum_any none 0 0 [] _ rfl Sl.nil (by omega)).mono ?_
      rintro e w1 ⟨rfl, hb1⟩
      go_wp2_with fail
      go_ret
      exact ⟨by rw [HZ.out]; rfl, hb1⟩
    by_cases h1 : l = 1
    · subst h1
      obtain ⟨x, rfl⟩ : ∃ x, ss = [x] := by
        match ss, hl with
        | [x], _ => exact ⟨x, rfl⟩
      obtain ⟨b, o, rfl, hblt, hcell⟩ := hs.get (j := 0) (by simp [scells])
      have hc0 : w.cell? ⟨b, o, none⟩ = some (.string x) := hcell 0 _ rfl
      clear hcell hl hs hd ih
      go_enter Tryd.func17, Tryd.ntmps17
      go_wp2_with fail
      go_ret
      exact ⟨rfl, Below.refl _ _⟩
    obtain ⟨k, q, c2, A2, hk, k1, kl, kq, q1, qc, cc, tk, dq, sP, sQ, hto, hfr⟩ := halves (c := c) hl hs (by omega) hlc
    have HK := Lib.hid hk
    have HP := Lib.hid tk
    have HQ := Lib.hid dq
    have HTO := Lib.hid hto
    have HFR := Lib.hid hfr
    have HD := Lib.hid hd
    have b0 : Below w.heap.size w w.drew := (Below.refl _ _).drew
    have hne0 : ((l : Int) == 0) = false := by simpa using hz
    have hne1 : ((l : Int) == 1) = false := by have : ¬ (l : Int) = 1 := by omega
                                               simpa using this
    have HR : Hid (rt ss = nd (rt (ss.take k)) (rt (ss.drop k))) := by
      have := root_two nd ed ss (by omega)
      rw [hl, ← hk] at this
      exact this
    have ZP := Lib.hid (rt_size _ _ (Nat.le_refl _) (hd.take k))
    have ZQ := Lib.hid (rt_size _ _ (Nat.le_refl _) (hd.drop k))
    clear hl hs hd hk tk dq hto hfr hz h1
    go_enter Tryd.func17, Tryd.ntmps17
    go_wp2_with fail
    refine (refSplit_in l _ (by omega) hl40).mono ?_
    rintro e w1 ⟨rfl, rfl⟩
    rw [← HK.out]
    go_wp2_with fail
    refine regB_begin (w.heap.size) (by kernel_rfl) ?_
    change wpAnyH _ _ _ _ _ 10 #[false, false, false, false, false, false, false, false, false, false] _ _
    refine regB_take (i := 0) (d := some 17) (v := (.slice A l c)) rfl rfl (by kernel_rfl) (by kernel_rfl) (by kernel_rfl) (fun _ _ _ h => h) (by rfl) (by intro w' hSw; go_simp) ?_
    try simp only [Act.put, List.setIfInBounds_toArray, List.set_cons_zero, List.set_cons_succ]
    refine regB_take (i := 1) (d := some 18) (v := (.int .i64 (k : Int))) rfl rfl (by kernel_rfl) (by kernel_rfl) (by kernel_rfl) (fun _ _ _ h => h) (by rfl) (by intro w' hSw; go_simp) ?_
    try simp only [Act.put, List.setIfInBounds_toArray, List.set_cons_zero, List.set_cons_succ]
    refine regB_take (i := 2) (d := some 19) (v := (.slice A k c)) rfl rfl (by kernel_rfl) (by kernel_rfl) (by kernel_rfl) (fun _ _ _ h => h) (by rfl) (by intro w' hSw; have h9 := HTO.out w'; go_simp) ?_
    try simp only [Act.put, List.setIfInBounds_toArray, List.set_cons_zero, List.set_cons_succ]
    refine regB_take (i := 4) (d := some 21) (v := (.slice A l c)) rfl rfl (by kernel_rfl) (by kernel_rfl) (by kernel_rfl) (fun _ _ _ h => h) (by rfl) (by intro w' hSw; go_simp) ?_
    try simp only [Act.put, List.setIfInBounds_toArray, List.set_cons_zero, List.set_cons_succ]
    refine regB_take (i := 5) (d := some 22) (v := (.int .i64 (k : Int))) rfl rfl (by kernel_rfl) (by kernel_rfl) (by kernel_rfl) (fun _ _ _ h => h) (by rfl) (by intro w' hSw; go_simp) ?_
    try simp only [Act.put, List.setIfInBounds_toArray, List.set_cons_zero, List.set_cons_succ]
    refine regB_take (i := 6) (d := some 23) (v := (.slice A2 q c2)) rfl rfl (by kernel_rfl) (by kernel_rfl) (by kernel_rfl) (fun _ _ _ h => h) (by rfl) (by intro w' hSw; have h9 := HFR.out w'; go_simp) ?_
    try simp only [Act.put, List.setIfInBounds_toArray, List.set_cons_zero, List.set_cons_succ]
    refine regB_call (i := 3) rfl (by kernel_rfl) (by rfl) fun K hK => ?_
    go_simp
    refine (ih A k c (ss.take k) (by omega) _ HP.out (sP.below b0) (HD.out.take k) (by omega) (by omega)).mono ?_
    rintro e w2 ⟨rfl, hb2⟩
    have b2 := b0.trans (hb2.mono b0.size)
    refine hK.out _ _ (hb2.mono b0.size) ?_
    clear hK K
    try simp only [List.setIfInBounds_toArray, List.set_cons_zero, List.set_cons_succ]
    refine regB_call (i := 7) rfl (by kernel_rfl) (by rfl) fun K hK => ?_
    go_simp
    refine (ih A2 q c2 (ss.drop k) (by omega) _ HQ.out (sQ.below b2) (HD.out.drop k) (by omega) (by omega)).mono ?_
    rintro e w3 ⟨rfl, hb3⟩
    have b3 := b2.trans (hb3.mono b2.size)
    refine hK.out _ _ (hb3.mono b2.size) ?_
    clear hK K
    try simp only [List.setIfInBounds_toArray, List.set_cons_zero, List.set_cons_succ]
    refine regB_call (i := 8) rfl (by kernel_rfl) (by rfl) fun K hK => ?_
    go_simp
    refine (refNode_nd (rt (ss.take k)) (rt (ss.drop k)) _ (by rw [ZP.out, ZQ.out]; omega)).mono ?_
    rintro e w4 ⟨rfl, hb4⟩
    have b4 := b3.trans (hb4.mono b3.size)
    refine hK.out _ _ (hb4.mono b3.size) ?_
    clear hK K
    try simp only [List.setIfInBounds_toArray, List.set_cons_zero, List.set_cons_succ]
    refine regB_take (i := 9) (d := some 2) (v := (.string (nd (rt (ss.take k)) (rt (ss.drop k))))) rfl rfl (by kernel_rfl) (by kernel_rfl) (by kernel_rfl) (fun _ _ _ h => h) (by rfl) (by intro w' hSw; go_simp) ?_
    try simp only [Act.put, List.setIfInBounds_toArray, List.set_cons_zero, List.set_cons_succ]
    refine wpAnyH_done (by kernel_rfl) ?_ _
    go_wp2_with fail
    go_ret
    exact ⟨by rw [HR.out]; rfl, b4⟩

set_option maxRecDepth 1000000 in
set_option maxHeartbeats 2000000 in
theorem refPath_any : ∀ (m : Nat) (A : Option Addr) (l c : Nat) (ss : List ByteArray) (i : Nat) (_hm : l ≤ m) (w : World) (_hl : ss.length = l) (_hs : Sl w A (scells ss)) (_hd : Digs ss) (_hi : i < l) (_hlc : l ≤ c) (_hl40 : l ≤ 1099511627776),
    Calls Tryd.prog 20 #[.slice A l c, .int .i64 (i : Int)] w fun e w' => ∃ v, e = .returned v ∧ OwS w.heap.size w' v (path nd ed ss i) ∧ Below w.heap.size w w' := by
  intro m
  induction m with
  | zero => intro A l c ss i hm w hl hs hd hi; omega
  | succ m ih =>
    intro A l c ss i hm w hl hs hd hi hlc hl40
    by_cases h1 : l = 1
    · subst h1
      have HPA : Hid (path nd ed ss i = []) := path_one nd ed ss i (by omega)
      clear hl hs hd ih
      go_enter Tryd.func20, Tryd.ntmps20
      go_wp2_with fail
      go_ret
      exact ⟨_, rfl, by rw [HPA.out]; exact OwS.nil _ _, Below.refl _ _⟩
    obtain ⟨k, q, c2, A2, hk, k1, kl, kq, q1, qc, cc, tk, dq, sP, sQ, hto, hfr⟩ := halves (c := c) hl hs (by omega) hlc
    have HK := Lib.hid hk
    have HP := Lib.hid tk
    have HQ := Lib.hid dq
    have HTO := Lib.hid hto
    have HFR := Lib.hid hfr
    have HD := Lib.hid hd
    have b0 : Below w.heap.size w w.drew := (Below.refl _ _).drew
    have hne1 : ((l : Int) == 1) = false := by have : ¬ (l : Int) = 1 := by omega
                                               simpa using this
    have HPT := path_two nd ed ss i (by omega)
    rw [hl, ← hk] at HPT
    clear hl hs hd hk tk dq hto hfr h1
    by_cases hik : i < k
    · rw [if_pos hik] at HPT
      have HPA := Lib.hid HPT
      have k5 : (i : Int) < (k : Int) := by omega
      clear HPT
      go_enter Tryd.func20, Tryd.ntmps20
      go_wp2_with fail
      refine (refSplit_in l _ (by omega) hl40).mono ?_
      rintro e w1 ⟨rfl, rfl⟩
      rw [← HK.out]
      go_wp2_with fail
      refine regB_begin (w.heap.size) (by kernel_rfl) ?_
      change wpAnyH _ _ _ _ _ 12 #[false, false, false, false, false, false, false, false, false, false, false, false] _ _
      refine regB_take (i := 0) (d := some 15) (v := (.slice A l c)) rfl rfl (by kernel_rfl) (by kernel_rfl) (by kernel_rfl) (fun _ _ _ h => h) (by rfl) (by intro w' hSw; go_simp) ?_
      try simp only [Act.put, List.setIfInBounds_toArray, List.set_cons_zero, List.set_cons_succ]
      refine regB_take (i := 1) (d := some 16) (v := (.int .i64 (k : Int))) rfl rfl (by kernel_rfl) (by kernel_rfl) (by kernel_rfl) (fun _ _ _ h => h) (by rfl) (by intro w' hSw; go_simp) ?_
      try simp only [Act.put, List.setIfInBounds_toArray, List.set_cons_zero, List.set_cons_succ]
      refine regB_take (i := 2) (d := some 17) (v := (.slice A k c)) rfl rfl (by kernel_rfl) (by kernel_rfl) (by kernel_rfl) (fun _ _ _ h => h) (by rfl) (by intro w' hSw; have h9 := HTO.out w'; go_simp) ?_
      try simp only [Act.put, List.setIfInBounds_toArray, List.set_cons_zero, List.set_cons_succ]
      refine regB_take (i := 3) (d := some 18) (v := (.int .i64 (i : Int))) rfl rfl (by kernel_rfl) (by kernel_rfl) (by kernel_rfl) (fun _ _ _ h => h) (by rfl) (by intro w' hSw; go_simp) ?_
      try simp only [Act.put, List.setIfInBounds_toArray, List.set_cons_zero, List.set_cons_succ]
      refine regB_take (i := 5) (d := some 20) (v := (.slice A l c)) rfl rfl (by kernel_rfl) (by kernel_rfl) (by kernel_rfl) (fun _ _ _ h => h) (by rfl) (by intro w' hSw; go_simp) ?_
      try simp only [Act.put, List.setIfInBounds_toArray, List.set_cons_zero, List.set_cons_succ]
      refine regB_take (i := 6) (d := some 21) (v := (.int .i64 (k : Int))) rfl rfl (by kernel_rfl) (by kernel_rfl) (by kernel_rfl) (fun _ _ _ h => h) (by rfl) (by intro w' hSw; go_simp) ?_
      try simp only [Act.put, List.setIfInBounds_toArray, List.set_cons_zero, List.set_cons_succ]
      refine regB_take (i := 7) (d := some 22) (v := (.slice A2 q c2)) rfl rfl (by kernel_rfl) (by kernel_rfl) (by kernel_rfl) (fun _ _ _ h => h) (by rfl) (by intro w' hSw; have h9 := HFR.out w'; go_simp) ?_
      try simp only [Act.put, List.setIfInBounds_toArray, List.set_cons_zero, List.set_cons_succ]
      refine regB_call (i := 4) rfl (by kernel_rfl) (by rfl) fun K hK => ?_
      go_simp
      refine (ih A k c (ss.take k) i (by omega) _ HP.out (sP.below b0) (HD.out.take k) (by omega) (by omega) (by omega)).mono ?_
      rintro e w2 ⟨v2, rfl, hown2, hb2⟩
      have hown2 := hown2.base b0.size
      have b2 := b0.trans (hb2.mono b0.size)
      refine hK.out _ _ (hb2.mono b0.size) ?_
      clear hK K
      try simp only [List.setIfInBounds_toArray, List.set_cons_zero, List.set_cons_succ]
      refine regB_call (i := 8) rfl (by kernel_rfl) (by rfl) fun K hK => ?_
      go_simp
      refine (refRoot_any l A2 q c2 (ss.drop k) (by omega) _ HQ.out (sQ.below b2) (HD.out.drop k) (by omega) (by omega)).mono ?_
      rintro e w3 ⟨rfl, hb3⟩
      have b3 := b2.trans (hb3.mono b2.size)
      have hown3 := hown2.below hb3
      clear hown2
      refine hK.out _ _ (hb3.mono b2.size) ?_
      clear hK K
      try simp only [List.setIfInBounds_toArray, List.set_cons_zero, List.set_cons_succ]
      refine regB_call (i := 9) rfl (by kernel_rfl) (by rfl) fun K hK => ?_
      go_simp
      have b4 := b3.alloc b3.size (.cells #[.string (rt (ss.drop k))] 9)
      refine hK.out _ _ ((Below.refl _ _).alloc b3.size _) ?_
      clear hK K
      try simp only [List.setIfInBounds_toArray, List.set_cons_zero, List.set_cons_succ]
      refine regB_call (i := 10) rfl (by kernel_rfl) (by rfl) fun K hK => ?_
      obtain ⟨P0, hP0⟩ : ∃ P0, P0 = path nd ed (ss.take k) i := ⟨_, rfl⟩
      rw [← hP0] at hown3
      obtain ⟨p, hp⟩ : ∃ p, p = P0.length := ⟨_, rfl⟩
      have hp40 : p ≤ l := by rw [hp, hP0]; exact Nat.le_trans (path_le (ss.take k) i) (by rw [HP.out]; omega)
      have hown4 : w3.ownsRow w.heap.size 9 1 v2 p (scells P0) := by rw [hp]; exact hown3
      refine oper_app (some 25) rfl (.tmp 19) (.tmp 24) 22 rfl strsTy w.heap.size v2 p (scells P0) rfl (hown4.alloc _) (some ⟨w3.heap.size, 0, none⟩) 1 1 (scells [(rt (ss.drop k))]) rfl rfl (new_str w3 _) (scells_one _) (by omega) b4.size ?_
      intro v5 w5 hown5 hgr5 hbl5
      have b5 := below_app b4 hgr5 (hown4.alloc _) (Nat.le_refl _) b4.size
      try simp only [Act.put]
      refine hK.out _ _ (below_app (Below.refl _ _) hgr5 (hown4.alloc _) (Nat.le_refl _) b4.size) ?_
      clear hK K
      try simp only [List.setIfInBounds_toArray, List.set_cons_zero, List.set_cons_succ]
      refine regB_take (i := 11) (d := some 4) (v := v5) rfl rfl (by kernel_rfl) (by kernel_rfl) (by kernel_rfl) (fun _ _ _ h => h) (by rfl) (by intro w' hSw; go_simp) ?_
      try simp only [Act.put, List.setIfInBounds_toArray, List.set_cons_zero, List.set_cons_succ]
      refine wpAnyH_done (by kernel_rfl) ?_ _
      have hown6 := snoc_ownS hp hown5
      clear hown3 hown4 hown5 hgr5 hbl5 b4 b3 b2 hb2 hb3 b0 hp hp40
      go_wp2_with fail
      go_ret
      refine ⟨v5, rfl, ?_, b5⟩
      rw [HPA.out, ← hP0]; exact hown6

    · rw [if_neg hik] at HPT
      obtain ⟨r, hr⟩ : ∃ r, i - k = r := ⟨_, rfl⟩
      rw [hr] at HPT
      have k6 : (i : Int) - (k : Int) = (r : Int) := by omega
      have k7 : IntKind.i64.wrap (r : Int) = (r : Int) := IntWalk.i64_in _ (by omega)
      have HPA := Lib.hid HPT
      have k5 : ¬ (i : Int) < (k : Int) := by omega
      clear HPT
      go_enter Tryd.func20, Tryd.ntmps20
      go_wp2_with fail
      refine (refSplit_in l _ (by omega) hl40).mono ?_
      rintro e w1 ⟨rfl, rfl⟩
      rw [← HK.out]
      go_wp2_with fail
      refine regB_begin (w.heap.size) (by kernel_rfl) ?_
      change wpAnyH _ _ _ _ _ 14 #[false, false, false, false, false, false, false, false, false, false, false, false, false, false] _ _
      refine regB_take (i := 0) (d := some 26) (v := (.slice A l c)) rfl rfl (by kernel_rfl) (by kernel_rfl) (by kernel_rfl) (fun _ _ _ h => h) (by rfl) (by intro w' hSw; go_simp) ?_
      try simp only [Act.put, List.setIfInBounds_toArray, List.set_cons_zero, List.set_cons_succ]
      refine regB_take (i := 1) (d := some 27) (v := (.int .i64 (k : Int))) rfl rfl (by kernel_rfl) (by kernel_rfl) (by kernel_rfl) (fun _ _ _ h => h) (by rfl) (by intro w' hSw; go_simp) ?_
      try simp only [Act.put, List.setIfInBounds_toArray, List.set_cons_zero, List.set_cons_succ]
      refine regB_take (i := 2) (d := some 28) (v := (.slice A2 q c2)) rfl rfl (by kernel_rfl) (by kernel_rfl) (by kernel_rfl) (fun _ _ _ h => h) (by rfl) (by intro w' hSw; have h9 := HFR.out w'; go_simp) ?_
      try simp only [Act.put, List.setIfInBounds_toArray, List.set_cons_zero, List.set_cons_succ]
      refine regB_take (i := 3) (d := some 29) (v := (.int .i64 (i : Int))) rfl rfl (by kernel_rfl) (by kernel_rfl) (by kernel_rfl) (fun _ _ _ h => h) (by rfl) (by intro w' hSw; go_simp) ?_
      try simp only [Act.put, List.setIfInBounds_toArray, List.set_cons_zero, List.set_cons_succ]
      refine regB_take (i := 4) (d := some 30) (v := (.int .i64 (k : Int))) rfl rfl (by kernel_rfl) (by kernel_rfl) (by kernel_rfl) (fun _ _ _ h => h) (by rfl) (by intro w' hSw; go_simp) ?_
      try simp only [Act.put, List.setIfInBounds_toArray, List.set_cons_zero, List.set_cons_succ]
      refine regB_take (i := 5) (d := some 31) (v := (.int .i64 (r : Int))) rfl rfl (by kernel_rfl) (by kernel_rfl) (by kernel_rfl) (fun _ _ _ h => h) (by rfl) (by intro w' hSw; go_simp) ?_
      try simp only [Act.put, List.setIfInBounds_toArray, List.set_cons_zero, List.set_cons_succ]
      refine regB_take (i := 7) (d := some 33) (v := (.slice A l c)) rfl rfl (by kernel_rfl) (by kernel_rfl) (by kernel_rfl) (fun _ _ _ h => h) (by rfl) (by intro w' hSw; go_simp) ?_
      try simp only [Act.put, List.setIfInBounds_toArray, List.set_cons_zero, List.set_cons_succ]
      refine regB_take (i := 8) (d := some 34) (v := (.int .i64 (k : Int))) rfl rfl (by kernel_rfl) (by kernel_rfl) (by kernel_rfl) (fun _ _ _ h => h) (by rfl) (by intro w' hSw; go_simp) ?_
      try simp only [Act.put, List.setIfInBounds_toArray, List.set_cons_zero, List.set_cons_succ]
      refine regB_take (i := 9) (d := some 35) (v := (.slice A k c)) rfl rfl (by kernel_rfl) (by kernel_rfl) (by kernel_rfl) (fun _ _ _ h => h) (by rfl) (by intro w' hSw; have h9 := HTO.out w'; go_simp) ?_
      try simp only [Act.put, List.setIfInBounds_toArray, List.set_cons_zero, List.set_cons_succ]
      refine regB_call (i := 6) rfl (by kernel_rfl) (by rfl) fun K hK => ?_
      go_simp
      refine (ih A2 q c2 (ss.drop k) r (by omega) _ HQ.out (sQ.below b0) (HD.out.drop k) (by omega) (by omega) (by omega)).mono ?_
      rintro e w2 ⟨v2, rfl, hown2, hb2⟩
      have hown2 := hown2.base b0.size
      have b2 := b0.trans (hb2.mono b0.size)
      refine hK.out _ _ (hb2.mono b0.size) ?_
      clear hK K
      try simp only [List.setIfInBounds_toArray, List.set_cons_zero, List.set_cons_succ]
      refine regB_call (i := 10) rfl (by kernel_rfl) (by rfl) fun K hK => ?_
      go_simp
      refine (refRoot_any l A k c (ss.take k) (by omega) _ HP.out (sP.below b2) (HD.out.take k) (by omega) (by omega)).mono ?_
      rintro e w3 ⟨rfl, hb3⟩
      have b3 := b2.trans (hb3.mono b2.size)
      have hown3 := hown2.below hb3
      clear hown2
      refine hK.out _ _ (hb3.mono b2.size) ?_
      clear hK K
      try simp only [List.setIfInBounds_toArray, List.set_cons_zero, List.set_cons_succ]
      refine regB_call (i := 11) rfl (by kernel_rfl) (by rfl) fun K hK => ?_
      go_simp
      have b4 := b3.alloc b3.size (.cells #[.string (rt (ss.take k))] 9)
      refine hK.out _ _ ((Below.refl _ _).alloc b3.size _) ?_
      clear hK K
      try simp only [List.setIfInBounds_toArray, List.set_cons_zero, List.set_cons_succ]
      refine regB_call (i := 12) rfl (by kernel_rfl) (by rfl) fun K hK => ?_
      obtain ⟨P0, hP0⟩ : ∃ P0, P0 = path nd ed (ss.drop k) r := ⟨_, rfl⟩
      rw [← hP0] at hown3
      obtain ⟨p, hp⟩ : ∃ p, p = P0.length := ⟨_, rfl⟩
      have hp40 : p ≤ l := by rw [hp, hP0]; exact Nat.le_trans (path_le (ss.drop k) r) (by rw [HQ.out]; omega)
      have hown4 : w3.ownsRow w.heap.size 9 1 v2 p (scells P0) := by rw [hp]; exact hown3
      refine oper_app (some 38) rfl (.tmp 32) (.tmp 37) 22 rfl strsTy w.heap.size v2 p (scells P0) rfl (hown4.alloc _) (some ⟨w3.heap.size, 0, none⟩) 1 1 (scells [(rt (ss.take k))]) rfl rfl (new_str w3 _) (scells_one _) (by omega) b4.size ?_
      intro v5 w5 hown5 hgr5 hbl5
      have b5 := below_app b4 hgr5 (hown4.alloc _) (Nat.le_refl _) b4.size
      try simp only [Act.put]
      refine hK.out _ _ (below_app (Below.refl _ _) hgr5 (hown4.alloc _) (Nat.le_refl _) b4.size) ?_
      clear hK K
      try simp only [List.setIfInBounds_toArray, List.set_cons_zero, List.set_cons_succ]
      refine regB_take (i := 13) (d := some 4) (v := v5) rfl rfl (by kernel_rfl) (by kernel_rfl) (by kernel_rfl) (fun _ _ _ h => h) (by rfl) (by intro w' hSw; go_simp) ?_
      try simp only [Act.put, List.setIfInBounds_toArray, List.set_cons_zero, List.set_cons_succ]
      refine wpAnyH_done (by kernel_rfl) ?_ _
      have hown6 := snoc_ownS hp hown5
      clear hown3 hown4 hown5 hgr5 hbl5 b4 b3 b2 hb2 hb3 b0 hp hp40
      go_wp2_with fail
      go_ret
      refine ⟨v5, rfl, ?_, b5⟩
      rw [HPA.out, ← hP0]; exact hown6

theorem steps_le : ∀ (n i : Nat), steps i n ≤ n := by
  intro n
  induction n using Nat.strongRecOn with
  | _ n ih =>
    intro i
    by_cases h : n < 2
    · rw [steps_one i n h]; omega
    · obtain ⟨a, b, _, _⟩ := split_spec (n := n) (by omega)
      by_cases hi : i < split n
      · rw [steps_left (by omega) hi]; have := ih (split n) (by omega) i; omega
      · rw [steps_right (by omega) hi]; have := ih (n - split n) (by omega) (i - split n); omega
set_option maxHeartbeats 1000000 in
theorem steps_any : ∀ (m i n : Nat) (_hm : n ≤ m) (w : World) (_hn : n ≤ 1099511627776) (_hi : i < 1099511627777),
    Calls Tryd.prog 22 #[.int .i64 (i : Int), .int .i64 (n : Int)] w fun e w' => e = .returned (.int .i64 ((steps i n : Nat) : Int)) ∧ w = w' := by
  intro m
  induction m with
  | zero =>
    intro i n hm w hn hi
    have HS := Lib.hid (steps_one i n (by omega))
    have k1 : (n : Int) < 2 := by omega
    go_enter Tryd.func22, Tryd.ntmps22
    go_wp2_with fail
    go_ret
    exact ⟨by rw [HS.out]; rfl, rfl⟩
  | succ m ih =>
    intro i n hm w hn hi
    by_cases h2 : n < 2
    · have HS := Lib.hid (steps_one i n h2)
      have k1 : (n : Int) < 2 := by omega
      go_enter Tryd.func22, Tryd.ntmps22
      go_wp2_with fail
      go_ret
      exact ⟨by rw [HS.out]; rfl, rfl⟩
    obtain ⟨a, b, _, _⟩ := split_spec (n := n) (by omega)
    have hyes := steps_left (i := i) (n := n) (by omega)
    have hno := steps_right (i := i) (n := n) (by omega)
    obtain ⟨k, hk⟩ : ∃ k, k = split n := ⟨_, rfl⟩
    rw [← hk] at a b hyes hno
    have HK := Lib.hid hk
    clear hk
    have k1 : ¬ (n : Int) < 2 := by omega
    by_cases hik : i < k
    · have HS := Lib.hid (hyes hik)
      have hle := steps_le k i
      obtain ⟨q, hq⟩ : ∃ q, steps i k = q := ⟨_, rfl⟩
      rw [hq] at hle
      have HQ := Lib.hid hq
      clear hyes hno hq
      go_enter Tryd.func22, Tryd.ntmps22
      go_wp2_with fail
      refine (refSplit_in n _ (by omega) hn).mono ?_
      rintro e w1 ⟨rfl, rfl⟩
      rw [← HK.out]
      go_wp2_with fail
      refine (ih i k (by omega) _ (by omega) hi).mono ?_
      rintro e w1 ⟨rfl, rfl⟩
      rw [HQ.out]
      go_wp2_with fail
      go_ret
      exact ⟨by rw [HS.out, HQ.out]; rfl, rfl⟩
    · have HS := Lib.hid (hno hik)
      have hle := steps_le (n - k) (i - k)
      obtain ⟨q, hq⟩ : ∃ q, steps (i - k) (n - k) = q := ⟨_, rfl⟩
      rw [hq] at hle
      have HQ := Lib.hid hq
      have k5 : ¬ (i : Int) < (k : Int) := by omega
      have k6 : (i : Int) - (k : Int) = ((i - k : Nat) : Int) := by omega
      have k7 : (n : Int) - (k : Int) = ((n - k : Nat) : Int) := by omega
      clear hyes hno hq
      go_enter Tryd.func22, Tryd.ntmps22
      go_wp2_with fail
      refine (refSplit_in n _ (by omega) hn).mono ?_
      rintro e w1 ⟨rfl, rfl⟩
      rw [← HK.out]
      go_wp2_with fail
      refine (ih (i - k) (n - k) (by omega) _ (by omega) (by omega)).mono ?_
      rintro e w1 ⟨rfl, rfl⟩
      rw [HQ.out]
      go_wp2_with fail
      go_ret
      exact ⟨by rw [HS.out, HQ.out]; rfl, rfl⟩
end Go.Proofs.YtmebogaenbjmnaaDoor.TrW
