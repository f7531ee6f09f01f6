/- tree: Range, Root, siblings, Path, Leaves. -/
import Derived.Test.YtmebogaenbjmnaaDoorMc
import Derived.Test.YtmebogaenbjmnaaDoorRows2
namespace Go.Proofs.YtmebogaenbjmnaaDoor.TrW
open Go.RowKit TreeW
open ShaW Sha
/-- The part of a list from one place to another. -/
theorem part_sl {w : World} {A : Option Addr} {ss : List ByteArray} {c : Nat} (hs : Sl w A (scells ss)) (f t : Nat) (ht : t ≤ ss.length) (hc : ss.length ≤ c) :
    Sl w (if c = f then A else A.map (·.add f)) (scells ((ss.take t).drop f)) := by
  have := (hs.take t).cut f c (by rw [List.length_take, scells_len]; omega)
  rwa [scells_take, scells_drop] at this
theorem path_le : ∀ (ss : List ByteArray) (i : Nat), (path nd ed ss i).length ≤ ss.length := by
  intro ss
  obtain ⟨m, hm⟩ : ∃ m, ss.length ≤ m := ⟨_, Nat.le_refl _⟩
  induction m generalizing ss with
  | zero => intro i; rw [path_one nd ed ss i (by omega)]; simp
  | succ m ih =>
    intro i
    by_cases h : ss.length < 2
    · rw [path_one nd ed ss i h]; simp
    · obtain ⟨a, b, _, _⟩ := split_spec (n := ss.length) (by omega)
      rw [path_two nd ed ss i (by omega)]
      split
      · rw [List.length_append]
        have := ih (ss.take (split ss.length)) (by rw [List.length_take]; omega) i
        rw [List.length_take] at this
        simp; omega
      · rw [List.length_append]
        have := ih (ss.drop (split ss.length)) (by rw [List.length_drop]; omega) (i - split ss.length)
        rw [List.length_drop] at this
        simp; omega
/-- The two parts of a list, as slices. -/
theorem halves {w : World} {A : Option Addr} {ss : List ByteArray} {l c : Nat} (hl : ss.length = l) (hs : Sl w A (scells ss)) (h2 : 2 ≤ l) (hc : l ≤ c) :
    ∃ (k q c2 : Nat) (A2 : Option Addr), k = split l ∧ 1 ≤ k ∧ k < l ∧ k + q = l ∧ 1 ≤ q ∧ q ≤ c2 ∧ c2 ≤ c ∧ (ss.take k).length = k ∧ (ss.drop k).length = q ∧ Sl w A (scells (ss.take k)) ∧ Sl w A2 (scells (ss.drop k)) ∧
      (∀ w', (Instr.slice 22 (.slice A l c) none (some (.int .i64 (k : Int))) none).run Tryd.prog w' = .ok (.slice A k c) w') ∧
      (∀ w', (Instr.slice 22 (.slice A l c) (some (.int .i64 (k : Int))) none none).run Tryd.prog w' = .ok (.slice A2 q c2) w') := by
  obtain ⟨a, b, _, _⟩ := split_spec h2
  refine ⟨split l, l - split l, c - split l, if c = split l then A else A.map (·.add (split l)), rfl, a, b, by omega, by omega, by omega, by omega, by rw [List.length_take]; omega, by rw [List.length_drop]; omega, ?_, ?_, fun w' => ?_, fun w' => ?_⟩
  · rw [← scells_take]; exact hs.take _
  · rw [← scells_drop]; exact hs.cut _ _ (by rw [scells_len]; omega)
  · exact run_to strsTy w' A l c (split l) .i64 (by omega)
  · exact run_from strsTy w' A l c (split l) .i64 (by omega)
set_option maxHeartbeats 1000000 in
theorem range_ok (A : Option Addr) (l c : Nat) (ss : List ByteArray) (f t : Nat) (w : World) (hT : Tab w) (hl : ss.length = l) (hs : Sl w A (scells ss)) (hlc : l ≤ c) (hl40 : l ≤ 1099511627776) (hft : f ≤ t) (ht : t ≤ l) (hd : Digs ((ss.take t).drop f)) :
    Calls Tryd.prog 13 #[.slice A l c, .int .i64 (f : Int), .int .i64 (t : Int)] w fun e w' => e = .returned (.tuple #[.string (rt ((ss.take t).drop f)), .int .i64 0]) ∧ Below w.heap.size w w' := by
  have hp := part_sl (c := c) hs f t (by omega) (by omega)
  have hlen : ((ss.take t).drop f).length = t - f := by rw [List.length_drop, List.length_take]; omega
  have hpt := fun w' => run_part (P := Tryd.prog) strsTy w' A l c f t .i64 .i64 hft (by omega)
  have HDY : Hid (decide (Digs ((ss.take t).drop f)) = true) := decide_eq_true hd
  have HD := Lib.hid hd
  have HLN := Lib.hid hlen
  obtain ⟨A2, hA2⟩ : ∃ A2, A2 = (if c = f then A else A.map (·.add f)) := ⟨_, rfl⟩
  rw [← hA2] at hp
  simp only [← hA2] at hpt
  obtain ⟨q, hq⟩ : ∃ q, q = t - f := ⟨_, rfl⟩
  obtain ⟨c2, hc2⟩ : ∃ c2, c2 = c - f := ⟨_, rfl⟩
  simp only [← hq, ← hc2] at hpt
  have HQ : Hid (((ss.take t).drop f).length = q) := by show _ = _; rw [hlen, hq]
  have hq40 : q ≤ 1099511627776 := by omega
  have k1 : ¬ (f : Int) < 0 := by omega
  have k2 : ¬ (f : Int) > (t : Int) := by omega
  have k3 : ¬ (t : Int) > (l : Int) := by omega
  clear hl hs hd hlen hA2 hq hc2 HLN
  go_enter Tryd.func13, Tryd.ntmps13
  go_wp2_with fail
  refine (digests_any A2 q c2 _ _ HQ.out hp (by omega)).mono ?_
  rintro e w1 ⟨rfl, rfl⟩
  rw [HDY.out]
  go_wp2_with fail
  refine (root_any A2 q c2 _ _ hT HQ.out hp HD.out hq40).mono ?_
  rintro e w1 ⟨rfl, hb1⟩
  go_wp2_with fail
  go_ret2
  exact ⟨rfl, hb1⟩
set_option maxHeartbeats 1000000 in
theorem range_bad (A : Option Addr) (l c : Nat) (ss : List ByteArray) (f t : Int) (w : World) (hl : ss.length = l) (hs : Sl w A (scells ss)) (hlc : l ≤ c) (hl40 : l ≤ 1099511627776) (h : f < 0 ∨ t < f ∨ (l : Int) < t ∨ ¬ Digs ((ss.take t.toNat).drop f.toNat)) :
    Calls Tryd.prog 13 #[.slice A l c, .int .i64 f, .int .i64 t] w fun e w' => e = .returned (.tuple #[.string ⟨#[]⟩, .int .i64 1]) ∧ w = w' := by
  by_cases h1 : f < 0
  · clear h
    go_enter Tryd.func13, Tryd.ntmps13
    go_wp2_with fail
    go_ret2
    exact ⟨rfl, rfl⟩
  by_cases h2 : f > t
  · clear h
    go_enter Tryd.func13, Tryd.ntmps13
    go_wp2_with fail
    go_ret2
    exact ⟨rfl, rfl⟩
  by_cases h3 : t > (l : Int)
  · clear h
    go_enter Tryd.func13, Tryd.ntmps13
    go_wp2_with fail
    go_ret2
    exact ⟨rfl, rfl⟩
  obtain ⟨f, rfl⟩ : ∃ n : Nat, f = n := ⟨f.toNat, by omega⟩
  obtain ⟨t, rfl⟩ : ∃ n : Nat, t = n := ⟨t.toNat, by omega⟩
  have hd : ¬ Digs ((ss.take t).drop f) := by
    rcases h with h | h | h | h
    · omega
    · omega
    · omega
    · simpa using h
  have hp := part_sl (c := c) hs f t (by omega) (by omega)
  have hlen : ((ss.take t).drop f).length = t - f := by rw [List.length_drop, List.length_take]; omega
  have hpt := fun w' => run_part (P := Tryd.prog) strsTy w' A l c f t .i64 .i64 (by omega) (by omega)
  have HDN : Hid (decide (Digs ((ss.take t).drop f)) = false) := decide_eq_false hd
  obtain ⟨A2, hA2⟩ : ∃ A2, A2 = (if c = f then A else A.map (·.add f)) := ⟨_, rfl⟩
  rw [← hA2] at hp
  simp only [← hA2] at hpt
  obtain ⟨q, hq⟩ : ∃ q, q = t - f := ⟨_, rfl⟩
  obtain ⟨c2, hc2⟩ : ∃ c2, c2 = c - f := ⟨_, rfl⟩
  simp only [← hq, ← hc2] at hpt
  have HQ : Hid (((ss.take t).drop f).length = q) := by show _ = _; rw [hlen, hq]
  have hq40 : q ≤ 1099511627776 := by omega
  clear hl hs hd hlen hA2 hq hc2 h
  go_enter Tryd.func13, Tryd.ntmps13
  go_wp2_with fail
  refine (digests_any A2 q c2 _ _ HQ.out hp (by omega)).mono ?_
  rintro e w1 ⟨rfl, rfl⟩
  rw [HDN.out]
  go_wp2_with fail
  go_ret2
  exact ⟨rfl, rfl⟩
theorem all_part (ss : List ByteArray) (l : Nat) (h : ss.length = l) : (ss.take l).drop 0 = ss := by rw [List.drop_zero, List.take_of_length_le (by omega)]
theorem Root_ok (A : Option Addr) (l c : Nat) (ss : List ByteArray) (w : World) (hT : Tab w) (hl : ss.length = l) (hs : Sl w A (scells ss)) (hlc : l ≤ c) (hl40 : l ≤ 1099511627776) (hd : Digs ss) :
    Calls Tryd.prog 12 #[.slice A l c] w fun e w' => e = .returned (.tuple #[.string (rt ss), .int .i64 0]) ∧ Below w.heap.size w w' := by
  have HE := Lib.hid (all_part ss l hl)
  have HL := Lib.hid hl
  clear hl
  go_enter Tryd.func12, Tryd.ntmps12
  go_wp2_with fail
  refine (range_ok A l c ss 0 l _ hT HL.out hs hlc hl40 (by omega) (by omega) (by rw [HE.out]; exact hd)).mono ?_
  rw [HE.out]
  rintro e w1 ⟨rfl, hb1⟩
  go_wp2_with fail
  go_ret2
  exact ⟨rfl, hb1⟩
theorem Root_bad (A : Option Addr) (l c : Nat) (ss : List ByteArray) (w : World) (hl : ss.length = l) (hs : Sl w A (scells ss)) (hlc : l ≤ c) (hl40 : l ≤ 1099511627776) (hd : ¬ Digs ss) :
    Calls Tryd.prog 12 #[.slice A l c] w fun e w' => e = .returned (.tuple #[.string ⟨#[]⟩, .int .i64 1]) ∧ w = w' := by
  have HE := Lib.hid (all_part ss l hl)
  have HL := Lib.hid hl
  have HDD := Lib.hid hd
  clear hl hd
  go_enter Tryd.func12, Tryd.ntmps12
  go_wp2_with fail
  refine (range_bad A l c ss 0 l _ HL.out hs hlc hl40 (.inr (.inr (.inr (by simpa [List.take_of_length_le (Nat.le_of_eq HL.out)] using HDD.out))))).mono ?_
  rintro e w1 ⟨rfl, rfl⟩
  go_wp2_with fail
  go_ret2
  exact ⟨rfl, rfl⟩
set_option maxRecDepth 1000000 in
set_option maxHeartbeats 2000000 in
theorem siblings_any : ∀ (m : Nat) (A : Option Addr) (l c : Nat) (ss : List ByteArray) (i : Nat) (_hm : l ≤ m) (w : World) (_hT : Tab w) (_hl : ss.length = l) (_hs : Sl w A (scells ss)) (_hd : Digs ss) (_hi : i < l) (_hlc : l ≤ c) (_hl40 : l ≤ 1099511627776),
    Calls Tryd.prog 35 #[.slice A l c, .int .i64 (i : Int)] w fun e w' => ∃ v, e = .returned v ∧ OwS w.heap.size w' v (path nd ed ss i) ∧ Below w.heap.size w w' := by
  intro m
  induction m with
  | zero => intro A l c ss i hm w hT hl hs hd hi; omega
  | succ m ih =>
    intro A l c ss i hm w hT hl hs hd hi hlc hl40
    by_cases h2 : l < 2
    · have HPA : Hid (path nd ed ss i = []) := path_one nd ed ss i (by omega)
      clear hl hs hd ih
      go_enter Tryd.func35, Tryd.ntmps35
      go_wp2_with fail
      refine (split_out (l : Int) _ (.inl (by omega))).mono ?_
      rintro e w1 ⟨rfl, rfl⟩
      go_wp2_with fail
      go_ret
      exact ⟨_, rfl, by rw [HPA.out]; exact OwS.nil _ _, Below.refl _ _⟩
    obtain ⟨k, q, c2, A2, hk, k1, kl, kq, q1, qc, cc, tk, dq, sP, sQ, hto, hfr⟩ := halves (c := c) hl hs (by omega) hlc
    have HK := Lib.hid hk
    have HP := Lib.hid tk
    have HQ := Lib.hid dq
    have HTO := Lib.hid hto
    have HFR := Lib.hid hfr
    have HD := Lib.hid hd
    have hpos := hT.pos
    have HT := Lib.hid (fun W (hb : Below w.heap.size w W) => hT.below hb hpos)
    have b0 : Below w.heap.size w w.drew := (Below.refl _ _).drew
    have hne : ((k : Int) == 0) = false := by have : ¬ (k : Int) = 0 := by omega
                                              simpa using this
    have HPT := path_two nd ed ss i (by omega)
    rw [hl, ← hk] at HPT
    clear hl hs hd hT hpos hk tk dq hto hfr
    by_cases hik : i < k
    · rw [if_pos hik] at HPT
      have HPA := Lib.hid HPT
      have k5 : (i : Int) < (k : Int) := by omega
      clear HPT
      go_enter Tryd.func35, Tryd.ntmps35
      go_wp2_with fail
      refine (split_in l _ (by omega) hl40).mono ?_
      rintro e w1 ⟨rfl, rfl⟩
      rw [← HK.out]
      go_wp2_with fail
      refine regB_begin (w.heap.size) (by kernel_rfl) ?_
      change wpAnyH _ _ _ _ _ 12 #[false, false, false, false, false, false, false, false, false, false, false, false] _ _
      refine regB_take (i := 0) (d := some 29) (v := (.slice A l c)) rfl rfl (by kernel_rfl) (by kernel_rfl) (by kernel_rfl) (fun _ _ _ h => h) (by rfl) (by intro w' hSw; go_simp) ?_
      try simp only [Act.put, List.setIfInBounds_toArray, List.set_cons_zero, List.set_cons_succ]
      refine regB_take (i := 1) (d := some 30) (v := (.int .i64 (k : Int))) rfl rfl (by kernel_rfl) (by kernel_rfl) (by kernel_rfl) (fun _ _ _ h => h) (by rfl) (by intro w' hSw; go_simp) ?_
      try simp only [Act.put, List.setIfInBounds_toArray, List.set_cons_zero, List.set_cons_succ]
      refine regB_take (i := 2) (d := some 31) (v := (.slice A k c)) rfl rfl (by kernel_rfl) (by kernel_rfl) (by kernel_rfl) (fun _ _ _ h => h) (by rfl) (by intro w' hSw; have h9 := HTO.out w'; go_simp) ?_
      try simp only [Act.put, List.setIfInBounds_toArray, List.set_cons_zero, List.set_cons_succ]
      refine regB_take (i := 3) (d := some 32) (v := (.int .i64 (i : Int))) rfl rfl (by kernel_rfl) (by kernel_rfl) (by kernel_rfl) (fun _ _ _ h => h) (by rfl) (by intro w' hSw; go_simp) ?_
      try simp only [Act.put, List.setIfInBounds_toArray, List.set_cons_zero, List.set_cons_succ]
      refine regB_take (i := 5) (d := some 34) (v := (.slice A l c)) rfl rfl (by kernel_rfl) (by kernel_rfl) (by kernel_rfl) (fun _ _ _ h => h) (by rfl) (by intro w' hSw; go_simp) ?_
      try simp only [Act.put, List.setIfInBounds_toArray, List.set_cons_zero, List.set_cons_succ]
      refine regB_take (i := 6) (d := some 35) (v := (.int .i64 (k : Int))) rfl rfl (by kernel_rfl) (by kernel_rfl) (by kernel_rfl) (fun _ _ _ h => h) (by rfl) (by intro w' hSw; go_simp) ?_
      try simp only [Act.put, List.setIfInBounds_toArray, List.set_cons_zero, List.set_cons_succ]
      refine regB_take (i := 7) (d := some 36) (v := (.slice A2 q c2)) rfl rfl (by kernel_rfl) (by kernel_rfl) (by kernel_rfl) (fun _ _ _ h => h) (by rfl) (by intro w' hSw; have h9 := HFR.out w'; go_simp) ?_
      try simp only [Act.put, List.setIfInBounds_toArray, List.set_cons_zero, List.set_cons_succ]
      refine regB_call (i := 4) rfl (by kernel_rfl) (by rfl) fun K hK => ?_
      go_simp
      refine (ih A k c (ss.take k) i (by omega) _ (HT.out _ b0) HP.out (sP.below b0) (HD.out.take k) (by omega) (by omega) (by omega)).mono ?_
      rintro e w2 ⟨v2, rfl, hown2, hb2⟩
      have hown2 := hown2.base b0.size
      have b2 := b0.trans (hb2.mono b0.size)
      refine hK.out _ _ (hb2.mono b0.size) ?_
      clear hK K
      try simp only [List.setIfInBounds_toArray, List.set_cons_zero, List.set_cons_succ]
      refine regB_call (i := 8) rfl (by kernel_rfl) (by rfl) fun K hK => ?_
      go_simp
      refine (root_any A2 q c2 (ss.drop k) _ (HT.out _ b2) HQ.out (sQ.below b2) (HD.out.drop k) (by omega)).mono ?_
      rintro e w3 ⟨rfl, hb3⟩
      have b3 := b2.trans (hb3.mono b2.size)
      have hown3 := hown2.below hb3
      clear hown2
      refine hK.out _ _ (hb3.mono b2.size) ?_
      clear hK K
      try simp only [List.setIfInBounds_toArray, List.set_cons_zero, List.set_cons_succ]
      refine regB_call (i := 9) rfl (by kernel_rfl) (by rfl) fun K hK => ?_
      go_simp
      have b4 := b3.alloc b3.size (.cells #[.string (rt (ss.drop k))] 9)
      refine hK.out _ _ ((Below.refl _ _).alloc b3.size _) ?_
      clear hK K
      try simp only [List.setIfInBounds_toArray, List.set_cons_zero, List.set_cons_succ]
      refine regB_call (i := 10) rfl (by kernel_rfl) (by rfl) fun K hK => ?_
      obtain ⟨P0, hP0⟩ : ∃ P0, P0 = path nd ed (ss.take k) i := ⟨_, rfl⟩
      rw [← hP0] at hown3
      obtain ⟨p, hp⟩ : ∃ p, p = P0.length := ⟨_, rfl⟩
      have hp40 : p ≤ l := by rw [hp, hP0]; exact Nat.le_trans (path_le (ss.take k) i) (by rw [HP.out]; omega)
      have hown4 : w3.ownsRow w.heap.size 9 1 v2 p (scells P0) := by rw [hp]; exact hown3
      refine oper_app (some 39) rfl (.tmp 33) (.tmp 38) 22 rfl strsTy w.heap.size v2 p (scells P0) rfl (hown4.alloc _) (some ⟨w3.heap.size, 0, none⟩) 1 1 (scells [(rt (ss.drop k))]) rfl rfl (new_str w3 _) (scells_one _) (by omega) b4.size ?_
      intro v5 w5 hown5 hgr5 hbl5
      have b5 := below_app b4 hgr5 (hown4.alloc _) (Nat.le_refl _) b4.size
      try simp only [Act.put]
      refine hK.out _ _ (below_app (Below.refl _ _) hgr5 (hown4.alloc _) (Nat.le_refl _) b4.size) ?_
      clear hK K
      try simp only [List.setIfInBounds_toArray, List.set_cons_zero, List.set_cons_succ]
      refine regB_take (i := 11) (d := some 4) (v := v5) rfl rfl (by kernel_rfl) (by kernel_rfl) (by kernel_rfl) (fun _ _ _ h => h) (by rfl) (by intro w' hSw; go_simp) ?_
      try simp only [Act.put, List.setIfInBounds_toArray, List.set_cons_zero, List.set_cons_succ]
      refine wpAnyH_done (by kernel_rfl) ?_ _
      have hown6 := snoc_ownS hp hown5
      clear hown3 hown4 hown5 hgr5 hbl5 b4 b3 b2 hb2 hb3 b0 hp hp40
      go_wp2_with fail
      go_ret
      refine ⟨v5, rfl, ?_, b5⟩
      rw [HPA.out, ← hP0]; exact hown6

    · rw [if_neg hik] at HPT
      obtain ⟨r, hr⟩ : ∃ r, i - k = r := ⟨_, rfl⟩
      rw [hr] at HPT
      have k6 : (i : Int) - (k : Int) = (r : Int) := by omega
      have k7 : IntKind.i64.wrap (r : Int) = (r : Int) := IntWalk.i64_in _ (by omega)
      have HPA := Lib.hid HPT
      have k5 : ¬ (i : Int) < (k : Int) := by omega
      clear HPT
      go_enter Tryd.func35, Tryd.ntmps35
      go_wp2_with fail
      refine (split_in l _ (by omega) hl40).mono ?_
      rintro e w1 ⟨rfl, rfl⟩
      rw [← HK.out]
      go_wp2_with fail
      refine regB_begin (w.heap.size) (by kernel_rfl) ?_
      change wpAnyH _ _ _ _ _ 14 #[false, false, false, false, false, false, false, false, false, false, false, false, false, false] _ _
      refine regB_take (i := 0) (d := some 9) (v := (.slice A l c)) rfl rfl (by kernel_rfl) (by kernel_rfl) (by kernel_rfl) (fun _ _ _ h => h) (by rfl) (by intro w' hSw; go_simp) ?_
      try simp only [Act.put, List.setIfInBounds_toArray, List.set_cons_zero, List.set_cons_succ]
      refine regB_take (i := 1) (d := some 10) (v := (.int .i64 (k : Int))) rfl rfl (by kernel_rfl) (by kernel_rfl) (by kernel_rfl) (fun _ _ _ h => h) (by rfl) (by intro w' hSw; go_simp) ?_
      try simp only [Act.put, List.setIfInBounds_toArray, List.set_cons_zero, List.set_cons_succ]
      refine regB_take (i := 2) (d := some 11) (v := (.slice A2 q c2)) rfl rfl (by kernel_rfl) (by kernel_rfl) (by kernel_rfl) (fun _ _ _ h => h) (by rfl) (by intro w' hSw; have h9 := HFR.out w'; go_simp) ?_
      try simp only [Act.put, List.setIfInBounds_toArray, List.set_cons_zero, List.set_cons_succ]
      refine regB_take (i := 3) (d := some 12) (v := (.int .i64 (i : Int))) rfl rfl (by kernel_rfl) (by kernel_rfl) (by kernel_rfl) (fun _ _ _ h => h) (by rfl) (by intro w' hSw; go_simp) ?_
      try simp only [Act.put, List.setIfInBounds_toArray, List.set_cons_zero, List.set_cons_succ]
      refine regB_take (i := 4) (d := some 13) (v := (.int .i64 (k : Int))) rfl rfl (by kernel_rfl) (by kernel_rfl) (by kernel_rfl) (fun _ _ _ h => h) (by rfl) (by intro w' hSw; go_simp) ?_
      try simp only [Act.put, List.setIfInBounds_toArray, List.set_cons_zero, List.set_cons_succ]
      refine regB_take (i := 5) (d := some 14) (v := (.int .i64 (r : Int))) rfl rfl (by kernel_rfl) (by kernel_rfl) (by kernel_rfl) (fun _ _ _ h => h) (by rfl) (by intro w' hSw; go_simp) ?_
      try simp only [Act.put, List.setIfInBounds_toArray, List.set_cons_zero, List.set_cons_succ]
      refine regB_take (i := 7) (d := some 16) (v := (.slice A l c)) rfl rfl (by kernel_rfl) (by kernel_rfl) (by kernel_rfl) (fun _ _ _ h => h) (by rfl) (by intro w' hSw; go_simp) ?_
      try simp only [Act.put, List.setIfInBounds_toArray, List.set_cons_zero, List.set_cons_succ]
      refine regB_take (i := 8) (d := some 17) (v := (.int .i64 (k : Int))) rfl rfl (by kernel_rfl) (by kernel_rfl) (by kernel_rfl) (fun _ _ _ h => h) (by rfl) (by intro w' hSw; go_simp) ?_
      try simp only [Act.put, List.setIfInBounds_toArray, List.set_cons_zero, List.set_cons_succ]
      refine regB_take (i := 9) (d := some 18) (v := (.slice A k c)) rfl rfl (by kernel_rfl) (by kernel_rfl) (by kernel_rfl) (fun _ _ _ h => h) (by rfl) (by intro w' hSw; have h9 := HTO.out w'; go_simp) ?_
      try simp only [Act.put, List.setIfInBounds_toArray, List.set_cons_zero, List.set_cons_succ]
      refine regB_call (i := 6) rfl (by kernel_rfl) (by rfl) fun K hK => ?_
      go_simp
      refine (ih A2 q c2 (ss.drop k) r (by omega) _ (HT.out _ b0) HQ.out (sQ.below b0) (HD.out.drop k) (by omega) (by omega) (by omega)).mono ?_
      rintro e w2 ⟨v2, rfl, hown2, hb2⟩
      have hown2 := hown2.base b0.size
      have b2 := b0.trans (hb2.mono b0.size)
      refine hK.out _ _ (hb2.mono b0.size) ?_
      clear hK K
      try simp only [List.setIfInBounds_toArray, List.set_cons_zero, List.set_cons_succ]
      refine regB_call (i := 10) rfl (by kernel_rfl) (by rfl) fun K hK => ?_
      go_simp
      refine (root_any A k c (ss.take k) _ (HT.out _ b2) HP.out (sP.below b2) (HD.out.take k) (by omega)).mono ?_
      rintro e w3 ⟨rfl, hb3⟩
      have b3 := b2.trans (hb3.mono b2.size)
      have hown3 := hown2.below hb3
      clear hown2
      refine hK.out _ _ (hb3.mono b2.size) ?_
      clear hK K
      try simp only [List.setIfInBounds_toArray, List.set_cons_zero, List.set_cons_succ]
      refine regB_call (i := 11) rfl (by kernel_rfl) (by rfl) fun K hK => ?_
      go_simp
      have b4 := b3.alloc b3.size (.cells #[.string (rt (ss.take k))] 9)
      refine hK.out _ _ ((Below.refl _ _).alloc b3.size _) ?_
      clear hK K
      try simp only [List.setIfInBounds_toArray, List.set_cons_zero, List.set_cons_succ]
      refine regB_call (i := 12) rfl (by kernel_rfl) (by rfl) fun K hK => ?_
      obtain ⟨P0, hP0⟩ : ∃ P0, P0 = path nd ed (ss.drop k) r := ⟨_, rfl⟩
      rw [← hP0] at hown3
      obtain ⟨p, hp⟩ : ∃ p, p = P0.length := ⟨_, rfl⟩
      have hp40 : p ≤ l := by rw [hp, hP0]; exact Nat.le_trans (path_le (ss.drop k) r) (by rw [HQ.out]; omega)
      have hown4 : w3.ownsRow w.heap.size 9 1 v2 p (scells P0) := by rw [hp]; exact hown3
      refine oper_app (some 21) rfl (.tmp 15) (.tmp 20) 22 rfl strsTy w.heap.size v2 p (scells P0) rfl (hown4.alloc _) (some ⟨w3.heap.size, 0, none⟩) 1 1 (scells [(rt (ss.take k))]) rfl rfl (new_str w3 _) (scells_one _) (by omega) b4.size ?_
      intro v5 w5 hown5 hgr5 hbl5
      have b5 := below_app b4 hgr5 (hown4.alloc _) (Nat.le_refl _) b4.size
      try simp only [Act.put]
      refine hK.out _ _ (below_app (Below.refl _ _) hgr5 (hown4.alloc _) (Nat.le_refl _) b4.size) ?_
      clear hK K
      try simp only [List.setIfInBounds_toArray, List.set_cons_zero, List.set_cons_succ]
      refine regB_take (i := 13) (d := some 4) (v := v5) rfl rfl (by kernel_rfl) (by kernel_rfl) (by kernel_rfl) (fun _ _ _ h => h) (by rfl) (by intro w' hSw; go_simp) ?_
      try simp only [Act.put, List.setIfInBounds_toArray, List.set_cons_zero, List.set_cons_succ]
      refine wpAnyH_done (by kernel_rfl) ?_ _
      have hown6 := snoc_ownS hp hown5
      clear hown3 hown4 hown5 hgr5 hbl5 b4 b3 b2 hb2 hb3 b0 hp hp40
      go_wp2_with fail
      go_ret
      refine ⟨v5, rfl, ?_, b5⟩
      rw [HPA.out, ← hP0]; exact hown6

end Go.Proofs.YtmebogaenbjmnaaDoor.TrW
