/- Texts of one proof, joined. -/
import Derived.Test.YtihkfomldbjpoaaDoorJ5
/- clash: a course to the right. -/
namespace Go.Proofs.YtihkfomldbjpoaaDoor.ClW
open Go.RowKit TreeW ConsW TrW ClashW
open ShaW Sha
open CoW
set_option maxRecDepth 1000000 in
set_option maxHeartbeats 20000000 in
theorem computed_right (f : Nat) (ih : CP f) : CPw (fun m n => m < n ∧ ¬ m ≤ split n) (f + 1) := by
  intro T base A m c B d A' n c' B' d' a b D lp cp ps pa one X Y w0 w hT0 h0 hbel hTT la lb hD hlp hdg hlc hcp h1 hmn hf hone h32 hro hC
  have k0 : At (((w.alloc (.cells #[.slice A m c, .slice B m d] 62)).alloc (.cells #[.slice A' n c', .slice B' n d'] 62)).alloc (.cells #[.string ⟨#[]⟩, .string ⟨#[]⟩, .slice none 0 0, .slice none 0 0, .slice none 0 0] 77)) w.heap.size 62 [.slice A m c, .slice B m d] := ((At.new_ w _ 62 [.slice A m c, .slice B m d] rfl).alloc _).alloc _
  have k1 : At (((w.alloc (.cells #[.slice A m c, .slice B m d] 62)).alloc (.cells #[.slice A' n c', .slice B' n d'] 62)).alloc (.cells #[.string ⟨#[]⟩, .string ⟨#[]⟩, .slice none 0 0, .slice none 0 0, .slice none 0 0] 77)) (w.heap.size + 1) 62 [.slice A' n c', .slice B' n d'] := (At.new_ _ _ 62 [.slice A' n c', .slice B' n d'] (by simp)).alloc _
  have hr0 : At (((w.alloc (.cells #[.slice A m c, .slice B m d] 62)).alloc (.cells #[.slice A' n c', .slice B' n d'] 62)).alloc (.cells #[.string ⟨#[]⟩, .string ⟨#[]⟩, .slice none 0 0, .slice none 0 0, .slice none 0 0] 77)) (w.heap.size + 2) 77 [.string ⟨#[]⟩, .string ⟨#[]⟩, .slice none 0 0, .slice none 0 0, .slice none 0 0] := At.new_ _ _ 77 _ (by simp)
  have b0 : Below w.heap.size w (((w.alloc (.cells #[.slice A m c, .slice B m d] 62)).alloc (.cells #[.slice A' n c', .slice B' n d'] 62)).alloc (.cells #[.string ⟨#[]⟩, .string ⟨#[]⟩, .slice none 0 0, .slice none 0 0, .slice none 0 0] 77)) := (((Below.refl _ _).alloc (Nat.le_refl _) _).alloc (by simp) _).alloc (by simp; omega) _
  have hbz : base ≤ w.heap.size := by rw [← h0]; exact hbel.size
  have HBZ := Lib.hid hbz
  have HBL := Lib.hid (fun W (hb : Below (w.heap.size + 2) (((w.alloc (.cells #[.slice A m c, .slice B m d] 62)).alloc (.cells #[.slice A' n c', .slice B' n d'] 62)).alloc (.cells #[.string ⟨#[]⟩, .string ⟨#[]⟩, .slice none 0 0, .slice none 0 0, .slice none 0 0] 77)) W) => hbel.trans ((b0.trans (hb.mono (Nat.le_add_right _ 2))).mono hbz))
  have HBW := Lib.hid (fun W (hb : Below (w.heap.size + 2) (((w.alloc (.cells #[.slice A m c, .slice B m d] 62)).alloc (.cells #[.slice A' n c', .slice B' n d'] 62)).alloc (.cells #[.string ⟨#[]⟩, .string ⟨#[]⟩, .slice none 0 0, .slice none 0 0, .slice none 0 0] 77)) W) => b0.trans (hb.mono (Nat.le_add_right _ 2)))
  have H0 := Lib.hid h0
  have HT0 := Lib.hid hT0
  have HTT := Lib.hid hTT
  have HT := Lib.hid (fun W (hb : Below (w.heap.size + 2) (((w.alloc (.cells #[.slice A m c, .slice B m d] 62)).alloc (.cells #[.slice A' n c', .slice B' n d'] 62)).alloc (.cells #[.string ⟨#[]⟩, .string ⟨#[]⟩, .slice none 0 0, .slice none 0 0, .slice none 0 0] 77)) W) => hT0.below (HBL.out W hb) (by rw [← h0]; exact hT0.pos))
  have HLA := Lib.hid (fun W (hb : Below (w.heap.size + 2) (((w.alloc (.cells #[.slice A m c, .slice B m d] 62)).alloc (.cells #[.slice A' n c', .slice B' n d'] 62)).alloc (.cells #[.string ⟨#[]⟩, .string ⟨#[]⟩, .slice none 0 0, .slice none 0 0, .slice none 0 0] 77)) W) => la.below (by rw [h0]; exact HBL.out W hb))
  have HLB := Lib.hid (fun W (hb : Below (w.heap.size + 2) (((w.alloc (.cells #[.slice A m c, .slice B m d] 62)).alloc (.cells #[.slice A' n c', .slice B' n d'] 62)).alloc (.cells #[.string ⟨#[]⟩, .string ⟨#[]⟩, .slice none 0 0, .slice none 0 0, .slice none 0 0] 77)) W) => lb.below (by rw [h0]; exact HBL.out W hb))
  have LA_ := Lib.hid la
  have LB_ := Lib.hid lb
  have hm40 := la.l40
  have hn40 := lb.l40
  have HA0 : Hid (∀ W, Below (w.heap.size + 2) (((w.alloc (.cells #[.slice A m c, .slice B m d] 62)).alloc (.cells #[.slice A' n c', .slice B' n d'] 62)).alloc (.cells #[.string ⟨#[]⟩, .string ⟨#[]⟩, .slice none 0 0, .slice none 0 0, .slice none 0 0] 77)) W → W.cell? ⟨w.heap.size, 0, none⟩ = some (.slice A m c)) := fun W hb => (k0.below hb (by omega)).cell 0
  have HA1 : Hid (∀ W, Below (w.heap.size + 2) (((w.alloc (.cells #[.slice A m c, .slice B m d] 62)).alloc (.cells #[.slice A' n c', .slice B' n d'] 62)).alloc (.cells #[.string ⟨#[]⟩, .string ⟨#[]⟩, .slice none 0 0, .slice none 0 0, .slice none 0 0] 77)) W → W.cell? ⟨w.heap.size, 1, none⟩ = some (.slice B m d)) := fun W hb => (k0.below hb (by omega)).cell 1
  have HB0 : Hid (∀ W, Below (w.heap.size + 2) (((w.alloc (.cells #[.slice A m c, .slice B m d] 62)).alloc (.cells #[.slice A' n c', .slice B' n d'] 62)).alloc (.cells #[.string ⟨#[]⟩, .string ⟨#[]⟩, .slice none 0 0, .slice none 0 0, .slice none 0 0] 77)) W → W.cell? ⟨w.heap.size + 1, 0, none⟩ = some (.slice A' n c')) := fun W hb => (k1.below hb (by omega)).cell 0
  have HB1 : Hid (∀ W, Below (w.heap.size + 2) (((w.alloc (.cells #[.slice A m c, .slice B m d] 62)).alloc (.cells #[.slice A' n c', .slice B' n d'] 62)).alloc (.cells #[.string ⟨#[]⟩, .string ⟨#[]⟩, .slice none 0 0, .slice none 0 0, .slice none 0 0] 77)) W → W.cell? ⟨w.heap.size + 1, 1, none⟩ = some (.slice B' n d')) := fun W hb => (k1.below hb (by omega)).cell 1
  have ca0 := HA0.out _ (Below.refl _ _)
  have ca1 := HA1.out _ (Below.refl _ _)
  have cb0 := HB0.out _ (Below.refl _ _)
  have cb1 := HB1.out _ (Below.refl _ _)
  have HONE := Lib.hid hone
  have HR := Lib.hid hro
  have h32 := Lib.hid h32
  have HLP := Lib.hid hlp
  clear k0 k1 b0 hbz hbel hTT hT0 h0 la lb hone hro hlp
  · obtain ⟨hlt, hmk⟩ := hC
    have hne : ((m : Int) == (n : Int)) = false := by simpa using (show ¬ (m : Int) = (n : Int) by omega)
    obtain ⟨p, hp⟩ : ∃ p, lp = 1 + p := ⟨lp - 1, by have := ro_some h1 hlt HR.out; rw [HLP.out] at this; omega⟩
    subst hp
    obtain ⟨q0, dd, bb, oo, rfl, hq0, rfl, hblt, hcell, hsq, hdq0, hd32, hto⟩ := path_parts (c := cp) HLP.out hD hlc rfl hdg
    have HQ0 := Lib.hid hq0
    have HD32 := Lib.hid hd32
    have HTO := Lib.hid hto
    have HCELL : Hid (∀ W, Below base w0 W → W.cell? ⟨bb, oo + p, none⟩ = some (.string dd)) := fun W hb => hcell W (by rw [H0.out]; exact hb)
    have hsq := Lib.hid hsq
    have h2n : 2 ≤ n := by omega
    have HN2 := Lib.hid h2n
    obtain ⟨kl, kp⟩ : split n < n ∧ 1 ≤ split n := by
      obtain ⟨x1, x2, _, _⟩ := split_spec h2n
      exact ⟨x2, x1⟩
    obtain ⟨k, hk⟩ : ∃ k, k = split n := ⟨_, rfl⟩
    have HK := Lib.hid hk
    rw [← hk] at kl kp
    have q1 : (1 : Int) + (p : Int) - 1 = (p : Int) := by omega
    have q3 : ¬ ((1 : Int) + (p : Int) ≤ (p : Int)) := by omega
    have q4 : ¬ ((p : Int) < 0) := by omega
    have q6 : IntKind.i64.wrap (p : Int) = (p : Int) := IntWalk.i64_in _ (by omega)
    have q5 : IntKind.i64.wrap ((1 : Int) + (p : Int) - 1) = (p : Int) := by rw [q1]; exact q6
    have HTLB : Hid ((tp (b.map lf)).length = 65) := tp_len (lf_digs b)
    obtain ⟨tb, htb⟩ : ∃ t, tp (b.map lf) = t := ⟨_, rfl⟩
    rw [htb] at HTLB
    have HTB := Lib.hid htb
    clear hq0 hd32 hto hcell hk htb hD hdg h2n
    go_enter Tryd.func50, Tryd.ntmps50
    go_wp2_with fail
    refine (splitL_any A' n c' B' d' ((split n : Nat) : Int) _ (.inr ⟨HN2.out, rfl⟩) hn40).mono ?_
    rintro e w1 ⟨rfl, hb1⟩
    rw [← HK.out]
    have bW : Below (w.heap.size + 2) (((w.alloc (.cells #[.slice A m c, .slice B m d] 62)).alloc (.cells #[.slice A' n c', .slice B' n d'] 62)).alloc (.cells #[.string ⟨#[]⟩, .string ⟨#[]⟩, .slice none 0 0, .slice none 0 0, .slice none 0 0] 77)) w1 := hb1.mono (by simp)
    have hr := hr0.below hb1 hr0.lt
    clear hr0
    have hcd := HCELL.out _ (HBL.out _ bW)
    clear ca0 ca1 cb0 cb1
    have ca0 := HA0.out _ bW
    have ca1 := HA1.out _ bW
    have cb0 := HB0.out _ bW
    have cb1 := HB1.out _ bW
    clear hb1
    generalize (((w.alloc (.cells #[.slice A m c, .slice B m d] 62)).alloc (.cells #[.slice A' n c', .slice B' n d'] 62)).alloc (.cells #[.string ⟨#[]⟩, .string ⟨#[]⟩, .slice none 0 0, .slice none 0 0, .slice none 0 0] 77)) = Wz at *
    rw [← HK.out] at hmk
    · obtain ⟨x', y', hr2, hX, hY⟩ := ro_right HK.out h1 hlt hmk HR.out
      subst hX hY
      have HX32 := Lib.hid (ro_32 (by omega) (by omega) h32.out hdq0 hr2).1
      have HY32 := Lib.hid (ro_32 (by omega) (by omega) h32.out hdq0 hr2).2
      have HR2 := Lib.hid hr2
      have HOL := Lib.hid (ol_right (ss := a.map lf) (d := dd) (wh := !pa) (one := one) HK.out h1 hlt hmk hr2)
      have HFR := Lib.hid (fr_right (ss := b.map lf) (d := dd) (wh := !pa) (one := one) HK.out h1 hlt hmk hr2)
      have HPR := Lib.hid (pr_right (a := a) (b := b) HK.out h1 hlt hmk)
      have HM2 : Hid (2 ≤ m) := Lib.hid (by omega)
      have HTLA : Hid ((tp (a.map lf)).length = 65) := tp_len (lf_digs a)
      obtain ⟨ta, hta⟩ : ∃ t, tp (a.map lf) = t := ⟨_, rfl⟩
      rw [hta] at HTLA
      have HTA := Lib.hid hta
      obtain ⟨O1, hO1⟩ : ∃ O1, ol ((a.drop k).map lf) (m - k) (n - k) false one q0 = O1 := ⟨_, rfl⟩
      obtain ⟨P1, hP1⟩ : ∃ P1, fr ((b.drop k).map lf) (m - k) (n - k) false one q0 = P1 := ⟨_, rfl⟩
      obtain ⟨Q1, hQ1⟩ : ∃ Q1, pr (a.drop k) (b.drop k) (m - k) (n - k) = Q1 := ⟨_, rfl⟩
      rw [← List.map_drop, hO1, HTA.out] at HOL
      rw [← List.map_drop, hP1, HTB.out] at HFR
      rw [hQ1] at HPR
      have HOO := Lib.hid hO1
      have HPP := Lib.hid hP1
      have HQQ := Lib.hid hQ1
      have kk : ¬ ((m : Int) ≤ (k : Int)) := by omega
      clear hr2 hO1 hP1 hQ1 hta
      go_upto_region 13 with fail
      clear ca0 ca1 cb0 cb1 hcd
      go_cut [14] (fun v wc => ∃ g, v = .pointer (some ⟨g, 0, none⟩) ∧ CS (fun k => T k ∨ k = w.heap.size + 2 ∨ k = g) (w.heap.size + 2) g x' y' (O1) (P1) (Q1) (3 * (n - k)) Wz wc)
      case first =>
        have hsz : w.heap.size + 2 ≤ w1.drew.heap.size := Nat.le_of_lt hr.lt
        have hr := hr.drew
        have bW := bW.drew
        refine regB_begin (w.heap.size + 2) (by kernel_rfl) ?_
        change wpAnyH _ _ _ _ _ 12 #[false, false, false, false, false, false, false, false, false, false, false, false] _ _
        refine regB_take (i := 0) (d := some 76) (v := (.agg #[.slice A m c, .slice B m d])) rfl rfl (by kernel_rfl) (by kernel_rfl) (by kernel_rfl) (fun _ _ _ h => h) (by rfl) (by intro w' hSw; have f0 := HA0.out w' (bW.trans hSw); have f1 := HA1.out w' (bW.trans hSw); go_simp) ?_
        try simp only [Act.put, List.setIfInBounds_toArray, List.set_cons_zero, List.set_cons_succ]
        refine regB_take (i := 1) (d := some 77) (v := (.int .i64 (k : Int))) rfl rfl (by kernel_rfl) (by kernel_rfl) (by kernel_rfl) (fun _ _ _ h => h) (by rfl) (by intro w' hSw; go_simp) ?_
        try simp only [Act.put, List.setIfInBounds_toArray, List.set_cons_zero, List.set_cons_succ]
        refine regB_take (i := 3) (d := some 79) (v := (.agg #[.slice A' n c', .slice B' n d'])) rfl rfl (by kernel_rfl) (by kernel_rfl) (by kernel_rfl) (fun _ _ _ h => h) (by rfl) (by intro w' hSw; have f0 := HB0.out w' (bW.trans hSw); have f1 := HB1.out w' (bW.trans hSw); go_simp) ?_
        try simp only [Act.put, List.setIfInBounds_toArray, List.set_cons_zero, List.set_cons_succ]
        refine regB_take (i := 4) (d := some 80) (v := (.int .i64 (k : Int))) rfl rfl (by kernel_rfl) (by kernel_rfl) (by kernel_rfl) (fun _ _ _ h => h) (by rfl) (by intro w' hSw; go_simp) ?_
        try simp only [Act.put, List.setIfInBounds_toArray, List.set_cons_zero, List.set_cons_succ]
        refine regB_take (i := 6) (d := some 82) (v := (.slice (some ⟨bb, oo, none⟩) (1 + p) cp)) rfl rfl (by kernel_rfl) (by kernel_rfl) (by kernel_rfl) (fun _ _ _ h => h) (by rfl) (by intro w' hSw; go_simp) ?_
        try simp only [Act.put, List.setIfInBounds_toArray, List.set_cons_zero, List.set_cons_succ]
        refine regB_take (i := 7) (d := some 83) (v := (.int .i64 (p : Int))) rfl rfl (by kernel_rfl) (by kernel_rfl) (by kernel_rfl) (fun _ _ _ h => h) (by rfl) (by intro w' hSw; go_simp) ?_
        try simp only [Act.put, List.setIfInBounds_toArray, List.set_cons_zero, List.set_cons_succ]
        refine regB_take (i := 8) (d := some 84) (v := (.slice (some ⟨bb, oo, none⟩) p cp)) rfl rfl (by kernel_rfl) (by kernel_rfl) (by kernel_rfl) (fun _ _ _ h => h) (by rfl) (by intro w' hSw; have h9 := HTO.out w'; go_simp) ?_
        try simp only [Act.put, List.setIfInBounds_toArray, List.set_cons_zero, List.set_cons_succ]
        refine regB_two (i := 2) (j := 10) rfl rfl (by kernel_rfl) (by rfl) (by rfl) (fun K hK => ?_) (fun K hK => ?_)
        · go_simp
          refine (rest_any A m c B d k a w0 _ LA_.out (by omega)).mono ?_
          rintro e w3 ⟨A3, c3, B3, d3, rfl, la3, hb3⟩
          have hsy := hsz
          have hsz := Nat.le_trans hsz hb3.size
          have bW := bW.trans (hb3.mono hsy)
          have hr := hr.below hb3 hr.lt
          refine hK.out _ _ (hb3.mono hsy) ?_
          clear hK K
          try simp only [List.setIfInBounds_toArray, List.set_cons_zero, List.set_cons_succ]
          refine regB_two (i := 5) (j := 10) rfl rfl (by kernel_rfl) (by rfl) (by rfl) (fun K hK => ?_) (fun K hK => ?_)
          · go_simp
            refine (rest_any A' n c' B' d' k b w0 _ LB_.out (by omega)).mono ?_
            rintro e w4 ⟨A4, c4, B4, d4, rfl, la4, hb4⟩
            have hsy := hsz
            have hsz := Nat.le_trans hsz hb4.size
            have bW := bW.trans (hb4.mono hsy)
            have hr := hr.below hb4 hr.lt
            refine hK.out _ _ (hb4.mono hsy) ?_
            clear hK K
            try simp only [List.setIfInBounds_toArray, List.set_cons_zero, List.set_cons_succ]
            refine regB_two (i := 9) (j := 10) rfl rfl (by kernel_rfl) (by rfl) (by rfl) (fun K hK => ?_) (fun K hK => ?_)
            · go_simp
              refine (ih (fun j => T j ∨ (w.heap.size ≤ j ∧ j < _)) base A3 (m - k) c3 B3 d3 A4 (n - k) c4 B4 d4 (a.drop k) (b.drop k) (some ⟨bb, oo, none⟩) p cp q0 true one x' y' w0 _ HT0.out H0.out (HBL.out _ bW) (fun j hj => hj.elim (fun h => ⟨(HTT.out j h).1, Nat.lt_of_lt_of_le (HTT.out j h).2 (Nat.le_trans (Nat.le_add_right _ 2) hsz)⟩) fun h => ⟨Nat.le_trans HBZ.out h.1, h.2⟩) la3 la4 hsq.out HQ0.out hdq0 (by omega) hcp (by omega) (by omega) (by omega) (fun h => by cases h) h32.out HR2.out).mono ?_
              rintro e w8 ⟨v1, v2, v3, rfl, ⟨o, p9, q, fs, gs, hs, co, hO, hP, hQ, lno, lnp, lnq⟩, hb8⟩
              have hrc := hr.lt
              have hsy := hsz
              have hsz := Nat.le_trans hsz hb8.size
              have bW := bW.trans (hb8.mono hsy)
              have hr := hr.below hb8 hr.lt
              have co := co.re (T' := (fun k => T k ∨ k = w.heap.size + 2)) (base' := w.heap.size + 2 + 1) (Nat.succ_le_of_lt hrc) (Below.refl _ _) (fun k hk => .inl (hk.elim .inl fun h => .inr (by rw [h]; exact ⟨Nat.le_add_right _ 2, hrc⟩)))
              refine hK.out _ _ (hb8.mono hsy) ?_
              clear hK K
              try simp only [List.setIfInBounds_toArray, List.set_cons_zero, List.set_cons_succ]
              refine regB_call (i := 10) rfl (by kernel_rfl) (by rfl) fun K hK => ?_
              go_simp
              have hb9 : Below w8.heap.size w8 (w8.alloc (.cells #[.string ⟨#[]⟩, .string ⟨#[]⟩, .slice none 0 0, .slice none 0 0, .slice none 0 0] 77)) := (Below.refl _ _).alloc (Nat.le_refl _) _
              have hg : At (w8.alloc (.cells #[.string ⟨#[]⟩, .string ⟨#[]⟩, .slice none 0 0, .slice none 0 0, .slice none 0 0] 77)) w8.heap.size 77 [.string ⟨#[]⟩, .string ⟨#[]⟩, .slice none 0 0, .slice none 0 0, .slice none 0 0] := At.new_ w8 _ 77 [.string ⟨#[]⟩, .string ⟨#[]⟩, .slice none 0 0, .slice none 0 0, .slice none 0 0] rfl
              have hgr : w.heap.size + 2 < w8.heap.size := hr.lt
              have hsy := hsz
              have hsz := Nat.le_trans hsz hb9.size
              have bW := bW.trans (hb9.mono hsy)
              have hr := hr.below hb9 hr.lt
              have co := co.re (T' := (fun k => T k ∨ k = w.heap.size + 2 ∨ k = w8.heap.size)) (Nat.le_refl _) hb9 (fun k hk => hk.elim (fun h => .inl (.inl h)) fun h => h.elim (fun h => .inl (.inr h)) fun h => .inr (Nat.le_of_eq h.symm))
              refine hK.out _ _ (hb9.mono hsy) ?_
              clear hK K
              try simp only [List.setIfInBounds_toArray, List.set_cons_zero, List.set_cons_succ]
              refine regB_call (i := 11) rfl (by kernel_rfl) (by rfl) fun K hK => ?_
              refine oper_storeB rfl 77 (.tmp 14) (.tmp 85) rfl courseTy (w8.heap.size) (by rfl) [.string x', .string y', v1, v2, v3] rfl 77 _ hg rfl rfl (five_one (own_val co.a1).1 (own_val co.a2).1 (own_val co.a3).1) ?_
              intro x10 hg10 o10
              have hr := o10.at_ hr (Nat.ne_of_lt hgr)
              have co := co.only o10 (.inr (.inr rfl)) hg course_ne
              have bW := o10.below _ _ bW (Nat.le_of_lt hgr)
              refine hK.out _ _ (o10.below _ _ (Below.refl _ _) (Nat.le_of_lt hgr)) ?_
              clear hK K
              try simp only [List.setIfInBounds_toArray, List.set_cons_zero, List.set_cons_succ]
              refine wpAnyH_done (by kernel_rfl) ?_ _
              go_wp2_with fail
              go_meet
              exact ⟨_, rfl, v1, v2, v3, o, p9, q, fs, gs, hs, hg10, hr, co, Lib.hid (hO.trans HOO.out), Lib.hid (hP.trans HPP.out), Lib.hid (hQ.trans HQQ.out), lno, lnp, lnq, hgr, bW⟩
            · go_simp
              have hb9 : Below w4.heap.size w4 (w4.alloc (.cells #[.string ⟨#[]⟩, .string ⟨#[]⟩, .slice none 0 0, .slice none 0 0, .slice none 0 0] 77)) := (Below.refl _ _).alloc (Nat.le_refl _) _
              have hg : At (w4.alloc (.cells #[.string ⟨#[]⟩, .string ⟨#[]⟩, .slice none 0 0, .slice none 0 0, .slice none 0 0] 77)) w4.heap.size 77 [.string ⟨#[]⟩, .string ⟨#[]⟩, .slice none 0 0, .slice none 0 0, .slice none 0 0] := At.new_ w4 _ 77 [.string ⟨#[]⟩, .string ⟨#[]⟩, .slice none 0 0, .slice none 0 0, .slice none 0 0] rfl
              have hgr : w.heap.size + 2 < w4.heap.size := hr.lt
              have hsy := hsz
              have hsz := Nat.le_trans hsz hb9.size
              have bW := bW.trans (hb9.mono hsy)
              have hr := hr.below hb9 hr.lt
              refine hK.out _ _ (hb9.mono hsy) ?_
              clear hK K
              try simp only [List.setIfInBounds_toArray, List.set_cons_zero, List.set_cons_succ]
              refine regB_call (i := 9) rfl (by kernel_rfl) (by rfl) fun K hK => ?_
              go_simp
              refine (ih (fun j => T j ∨ (w.heap.size ≤ j ∧ j < _)) base A3 (m - k) c3 B3 d3 A4 (n - k) c4 B4 d4 (a.drop k) (b.drop k) (some ⟨bb, oo, none⟩) p cp q0 true one x' y' w0 _ HT0.out H0.out (HBL.out _ bW) (fun j hj => hj.elim (fun h => ⟨(HTT.out j h).1, Nat.lt_of_lt_of_le (HTT.out j h).2 (Nat.le_trans (Nat.le_add_right _ 2) hsz)⟩) fun h => ⟨Nat.le_trans HBZ.out h.1, h.2⟩) la3 la4 hsq.out HQ0.out hdq0 (by omega) hcp (by omega) (by omega) (by omega) (fun h => by cases h) h32.out HR2.out).mono ?_
              rintro e w8 ⟨v1, v2, v3, rfl, ⟨o, p9, q, fs, gs, hs, co, hO, hP, hQ, lno, lnp, lnq⟩, hb8⟩
              have hrc := hr.lt
              have hgc := hg.lt
              have hgr2 := hgr
              have hsy := hsz
              have hsz := Nat.le_trans hsz hb8.size
              have bW := bW.trans (hb8.mono hsy)
              have hr := hr.below hb8 hr.lt
              have hg := hg.below hb8 hg.lt
              have co := co.re (T' := (fun k => T k ∨ k = w.heap.size + 2 ∨ k = w4.heap.size)) (base' := w.heap.size + 2 + 1) (Nat.succ_le_of_lt hrc) (Below.refl _ _) (fun k hk => .inl (hk.elim .inl fun h => h.elim (fun h => .inr (by rw [h]; exact ⟨Nat.le_add_right _ 2, hrc⟩)) fun h => .inr (by rw [h]; exact ⟨Nat.le_trans (Nat.le_add_right _ 2) (Nat.le_of_lt hgr2), hgc⟩)))
              refine hK.out _ _ (hb8.mono hsy) ?_
              clear hK K
              try simp only [List.setIfInBounds_toArray, List.set_cons_zero, List.set_cons_succ]
              refine regB_call (i := 11) rfl (by kernel_rfl) (by rfl) fun K hK => ?_
              refine oper_storeB rfl 77 (.tmp 14) (.tmp 85) rfl courseTy (w4.heap.size) (by rfl) [.string x', .string y', v1, v2, v3] rfl 77 _ hg rfl rfl (five_one (own_val co.a1).1 (own_val co.a2).1 (own_val co.a3).1) ?_
              intro x10 hg10 o10
              have hr := o10.at_ hr (Nat.ne_of_lt hgr)
              have co := co.only o10 (.inr (.inr rfl)) hg course_ne
              have bW := o10.below _ _ bW (Nat.le_of_lt hgr)
              refine hK.out _ _ (o10.below _ _ (Below.refl _ _) (Nat.le_of_lt hgr)) ?_
              clear hK K
              try simp only [List.setIfInBounds_toArray, List.set_cons_zero, List.set_cons_succ]
              refine wpAnyH_done (by kernel_rfl) ?_ _
              go_wp2_with fail
              go_meet
              exact ⟨_, rfl, v1, v2, v3, o, p9, q, fs, gs, hs, hg10, hr, co, Lib.hid (hO.trans HOO.out), Lib.hid (hP.trans HPP.out), Lib.hid (hQ.trans HQQ.out), lno, lnp, lnq, hgr, bW⟩
          · go_simp
            have hb9 : Below w3.heap.size w3 (w3.alloc (.cells #[.string ⟨#[]⟩, .string ⟨#[]⟩, .slice none 0 0, .slice none 0 0, .slice none 0 0] 77)) := (Below.refl _ _).alloc (Nat.le_refl _) _
            have hg : At (w3.alloc (.cells #[.string ⟨#[]⟩, .string ⟨#[]⟩, .slice none 0 0, .slice none 0 0, .slice none 0 0] 77)) w3.heap.size 77 [.string ⟨#[]⟩, .string ⟨#[]⟩, .slice none 0 0, .slice none 0 0, .slice none 0 0] := At.new_ w3 _ 77 [.string ⟨#[]⟩, .string ⟨#[]⟩, .slice none 0 0, .slice none 0 0, .slice none 0 0] rfl
            have hgr : w.heap.size + 2 < w3.heap.size := hr.lt
            have hsy := hsz
            have hsz := Nat.le_trans hsz hb9.size
            have bW := bW.trans (hb9.mono hsy)
            have hr := hr.below hb9 hr.lt
            refine hK.out _ _ (hb9.mono hsy) ?_
            clear hK K
            try simp only [List.setIfInBounds_toArray, List.set_cons_zero, List.set_cons_succ]
            refine regB_call (i := 5) rfl (by kernel_rfl) (by rfl) fun K hK => ?_
            go_simp
            refine (rest_any A' n c' B' d' k b w0 _ LB_.out (by omega)).mono ?_
            rintro e w4 ⟨A4, c4, B4, d4, rfl, la4, hb4⟩
            have hsy := hsz
            have hsz := Nat.le_trans hsz hb4.size
            have bW := bW.trans (hb4.mono hsy)
            have hr := hr.below hb4 hr.lt
            have hg := hg.below hb4 hg.lt
            refine hK.out _ _ (hb4.mono hsy) ?_
            clear hK K
            try simp only [List.setIfInBounds_toArray, List.set_cons_zero, List.set_cons_succ]
            refine regB_call (i := 9) rfl (by kernel_rfl) (by rfl) fun K hK => ?_
            go_simp
            refine (ih (fun j => T j ∨ (w.heap.size ≤ j ∧ j < _)) base A3 (m - k) c3 B3 d3 A4 (n - k) c4 B4 d4 (a.drop k) (b.drop k) (some ⟨bb, oo, none⟩) p cp q0 true one x' y' w0 _ HT0.out H0.out (HBL.out _ bW) (fun j hj => hj.elim (fun h => ⟨(HTT.out j h).1, Nat.lt_of_lt_of_le (HTT.out j h).2 (Nat.le_trans (Nat.le_add_right _ 2) hsz)⟩) fun h => ⟨Nat.le_trans HBZ.out h.1, h.2⟩) la3 la4 hsq.out HQ0.out hdq0 (by omega) hcp (by omega) (by omega) (by omega) (fun h => by cases h) h32.out HR2.out).mono ?_
            rintro e w8 ⟨v1, v2, v3, rfl, ⟨o, p9, q, fs, gs, hs, co, hO, hP, hQ, lno, lnp, lnq⟩, hb8⟩
            have hrc := hr.lt
            have hgc := hg.lt
            have hgr2 := hgr
            have hsy := hsz
            have hsz := Nat.le_trans hsz hb8.size
            have bW := bW.trans (hb8.mono hsy)
            have hr := hr.below hb8 hr.lt
            have hg := hg.below hb8 hg.lt
            have co := co.re (T' := (fun k => T k ∨ k = w.heap.size + 2 ∨ k = w3.heap.size)) (base' := w.heap.size + 2 + 1) (Nat.succ_le_of_lt hrc) (Below.refl _ _) (fun k hk => .inl (hk.elim .inl fun h => h.elim (fun h => .inr (by rw [h]; exact ⟨Nat.le_add_right _ 2, hrc⟩)) fun h => .inr (by rw [h]; exact ⟨Nat.le_trans (Nat.le_add_right _ 2) (Nat.le_of_lt hgr2), hgc⟩)))
            refine hK.out _ _ (hb8.mono hsy) ?_
            clear hK K
            try simp only [List.setIfInBounds_toArray, List.set_cons_zero, List.set_cons_succ]
            refine regB_call (i := 11) rfl (by kernel_rfl) (by rfl) fun K hK => ?_
            refine oper_storeB rfl 77 (.tmp 14) (.tmp 85) rfl courseTy (w3.heap.size) (by rfl) [.string x', .string y', v1, v2, v3] rfl 77 _ hg rfl rfl (five_one (own_val co.a1).1 (own_val co.a2).1 (own_val co.a3).1) ?_
            intro x10 hg10 o10
            have hr := o10.at_ hr (Nat.ne_of_lt hgr)
            have co := co.only o10 (.inr (.inr rfl)) hg course_ne
            have bW := o10.below _ _ bW (Nat.le_of_lt hgr)
            refine hK.out _ _ (o10.below _ _ (Below.refl _ _) (Nat.le_of_lt hgr)) ?_
            clear hK K
            try simp only [List.setIfInBounds_toArray, List.set_cons_zero, List.set_cons_succ]
            refine wpAnyH_done (by kernel_rfl) ?_ _
            go_wp2_with fail
            go_meet
            exact ⟨_, rfl, v1, v2, v3, o, p9, q, fs, gs, hs, hg10, hr, co, Lib.hid (hO.trans HOO.out), Lib.hid (hP.trans HPP.out), Lib.hid (hQ.trans HQQ.out), lno, lnp, lnq, hgr, bW⟩
        · go_simp
          have hb9 : Below w1.drew.heap.size w1.drew (w1.drew.alloc (.cells #[.string ⟨#[]⟩, .string ⟨#[]⟩, .slice none 0 0, .slice none 0 0, .slice none 0 0] 77)) := (Below.refl _ _).alloc (Nat.le_refl _) _
          have hg : At (w1.drew.alloc (.cells #[.string ⟨#[]⟩, .string ⟨#[]⟩, .slice none 0 0, .slice none 0 0, .slice none 0 0] 77)) w1.drew.heap.size 77 [.string ⟨#[]⟩, .string ⟨#[]⟩, .slice none 0 0, .slice none 0 0, .slice none 0 0] := At.new_ w1.drew _ 77 [.string ⟨#[]⟩, .string ⟨#[]⟩, .slice none 0 0, .slice none 0 0, .slice none 0 0] rfl
          have hgr : w.heap.size + 2 < w1.drew.heap.size := hr.lt
          have hsy := hsz
          have hsz := Nat.le_trans hsz hb9.size
          have bW := bW.trans (hb9.mono hsy)
          have hr := hr.below hb9 hr.lt
          refine hK.out _ _ (hb9.mono hsy) ?_
          clear hK K
          try simp only [List.setIfInBounds_toArray, List.set_cons_zero, List.set_cons_succ]
          refine regB_call (i := 2) rfl (by kernel_rfl) (by rfl) fun K hK => ?_
          go_simp
          refine (rest_any A m c B d k a w0 _ LA_.out (by omega)).mono ?_
          rintro e w3 ⟨A3, c3, B3, d3, rfl, la3, hb3⟩
          have hsy := hsz
          have hsz := Nat.le_trans hsz hb3.size
          have bW := bW.trans (hb3.mono hsy)
          have hr := hr.below hb3 hr.lt
          have hg := hg.below hb3 hg.lt
          refine hK.out _ _ (hb3.mono hsy) ?_
          clear hK K
          try simp only [List.setIfInBounds_toArray, List.set_cons_zero, List.set_cons_succ]
          refine regB_call (i := 5) rfl (by kernel_rfl) (by rfl) fun K hK => ?_
          go_simp
          refine (rest_any A' n c' B' d' k b w0 _ LB_.out (by omega)).mono ?_
          rintro e w4 ⟨A4, c4, B4, d4, rfl, la4, hb4⟩
          have hsy := hsz
          have hsz := Nat.le_trans hsz hb4.size
          have bW := bW.trans (hb4.mono hsy)
          have hr := hr.below hb4 hr.lt
          have hg := hg.below hb4 hg.lt
          refine hK.out _ _ (hb4.mono hsy) ?_
          clear hK K
          try simp only [List.setIfInBounds_toArray, List.set_cons_zero, List.set_cons_succ]
          refine regB_call (i := 9) rfl (by kernel_rfl) (by rfl) fun K hK => ?_
          go_simp
          refine (ih (fun j => T j ∨ (w.heap.size ≤ j ∧ j < _)) base A3 (m - k) c3 B3 d3 A4 (n - k) c4 B4 d4 (a.drop k) (b.drop k) (some ⟨bb, oo, none⟩) p cp q0 true one x' y' w0 _ HT0.out H0.out (HBL.out _ bW) (fun j hj => hj.elim (fun h => ⟨(HTT.out j h).1, Nat.lt_of_lt_of_le (HTT.out j h).2 (Nat.le_trans (Nat.le_add_right _ 2) hsz)⟩) fun h => ⟨Nat.le_trans HBZ.out h.1, h.2⟩) la3 la4 hsq.out HQ0.out hdq0 (by omega) hcp (by omega) (by omega) (by omega) (fun h => by cases h) h32.out HR2.out).mono ?_
          rintro e w8 ⟨v1, v2, v3, rfl, ⟨o, p9, q, fs, gs, hs, co, hO, hP, hQ, lno, lnp, lnq⟩, hb8⟩
          have hrc := hr.lt
          have hgc := hg.lt
          have hgr2 := hgr
          have hsy := hsz
          have hsz := Nat.le_trans hsz hb8.size
          have bW := bW.trans (hb8.mono hsy)
          have hr := hr.below hb8 hr.lt
          have hg := hg.below hb8 hg.lt
          have co := co.re (T' := (fun k => T k ∨ k = w.heap.size + 2 ∨ k = w1.drew.heap.size)) (base' := w.heap.size + 2 + 1) (Nat.succ_le_of_lt hrc) (Below.refl _ _) (fun k hk => .inl (hk.elim .inl fun h => h.elim (fun h => .inr (by rw [h]; exact ⟨Nat.le_add_right _ 2, hrc⟩)) fun h => .inr (by rw [h]; exact ⟨Nat.le_trans (Nat.le_add_right _ 2) (Nat.le_of_lt hgr2), hgc⟩)))
          refine hK.out _ _ (hb8.mono hsy) ?_
          clear hK K
          try simp only [List.setIfInBounds_toArray, List.set_cons_zero, List.set_cons_succ]
          refine regB_call (i := 11) rfl (by kernel_rfl) (by rfl) fun K hK => ?_
          refine oper_storeB rfl 77 (.tmp 14) (.tmp 85) rfl courseTy (w1.drew.heap.size) (by rfl) [.string x', .string y', v1, v2, v3] rfl 77 _ hg rfl rfl (five_one (own_val co.a1).1 (own_val co.a2).1 (own_val co.a3).1) ?_
          intro x10 hg10 o10
          have hr := o10.at_ hr (Nat.ne_of_lt hgr)
          have co := co.only o10 (.inr (.inr rfl)) hg course_ne
          have bW := o10.below _ _ bW (Nat.le_of_lt hgr)
          refine hK.out _ _ (o10.below _ _ (Below.refl _ _) (Nat.le_of_lt hgr)) ?_
          clear hK K
          try simp only [List.setIfInBounds_toArray, List.set_cons_zero, List.set_cons_succ]
          refine wpAnyH_done (by kernel_rfl) ?_ _
          go_wp2_with fail
          go_meet
          exact ⟨_, rfl, v1, v2, v3, o, p9, q, fs, gs, hs, hg10, hr, co, Lib.hid (hO.trans HOO.out), Lib.hid (hP.trans HPP.out), Lib.hid (hQ.trans HQQ.out), lno, lnp, lnq, hgr, bW⟩
      case rest =>
        obtain ⟨g, rfl, hcs⟩ := hcut
        clear bW hr
        go_upto_region 14 with fail
        go_cut [] (fun wc => CS (fun k => T k ∨ k = w.heap.size + 2 ∨ k = g) (w.heap.size + 2) g x' y' (orE (btw sha (nb dd x') ta) O1) (P1) (Q1) (3 * (n - k) + 1) Wz wc)
        case first =>
          obtain ⟨u, v, x, o, p, q, fs, gs, hs, hg, hr, co, hO, hP, hQ, lno, lnp, lnq, hrg, bW⟩ := hcs
          have HS := Lib.hid (co.into2 HBZ.out HTT.out hr.lt hrg hg.lt)
          have hz := Nat.le_refl wc.heap.size
          have hsz : w.heap.size + 2 ≤ wc.heap.size := Nat.le_of_lt hr.lt
          have hb0 : Below wc.heap.size wc wc.drew := (Below.refl _ _).drew
          have hg := hg.drew
          have hr := hr.drew
          have co := co.below hb0
          have bW := bW.drew
          clear hb0
          refine regB_begin (w.heap.size + 2) (by kernel_rfl) ?_
          change wpAnyH _ _ _ _ _ 13 #[false, false, false, false, false, false, false, false, false, false, false, false, false] _ _
          refine regB_take (i := 0) (d := some 86) (v := (.pointer (some ⟨g, 2, none⟩))) rfl rfl (by kernel_rfl) (by kernel_rfl) (by kernel_rfl) (fun _ _ _ h => h) (by rfl) (by intro w' hSw; go_simp) ?_
          try simp only [Act.put, List.setIfInBounds_toArray, List.set_cons_zero, List.set_cons_succ]
          refine regB_take (i := 2) (d := some 88) (v := (.string dd)) rfl rfl (by kernel_rfl) (by kernel_rfl) (by kernel_rfl) (fun _ _ _ h => h) (by rfl) (by intro w' hSw; go_simp) ?_
          try simp only [Act.put, List.setIfInBounds_toArray, List.set_cons_zero, List.set_cons_succ]
          refine regB_take (i := 3) (d := some 89) (v := (.pointer (some ⟨g, 0, none⟩))) rfl rfl (by kernel_rfl) (by kernel_rfl) (by kernel_rfl) (fun _ _ _ h => h) (by rfl) (by intro w' hSw; go_simp) ?_
          try simp only [Act.put, List.setIfInBounds_toArray, List.set_cons_zero, List.set_cons_succ]
          refine regB_take (i := 6) (d := some 92) (v := (.agg #[.slice A m c, .slice B m d])) rfl rfl (by kernel_rfl) (by kernel_rfl) (by kernel_rfl) (fun _ _ _ h => h) (by rfl) (by intro w' hSw; have f0 := HA0.out w' (bW.trans hSw); have f1 := HA1.out w' (bW.trans hSw); go_simp) ?_
          try simp only [Act.put, List.setIfInBounds_toArray, List.set_cons_zero, List.set_cons_succ]
          refine regB_two (i := 1) (j := 4) rfl rfl (by kernel_rfl) (by rfl) (by rfl) (fun K hK => ?_) (fun K hK => ?_)
          · have f9 := hg.cell 2
            simp only [List.getElem?_cons_zero, List.getElem?_cons_succ] at f9
            refine oper_yields (d := some 87) (v := u) rfl (by go_simp) ?_
            refine hK.out _ _ (Below.refl _ _) ?_
            clear hK K
            try simp only [Act.put, List.setIfInBounds_toArray, List.set_cons_zero, List.set_cons_succ]
            refine regB_call (i := 4) rfl (by kernel_rfl) (by rfl) fun K hK => ?_
            have f9 := hg.cell 0
            simp only [List.getElem?_cons_zero] at f9
            refine oper_yields (d := some 90) (v := (.string x')) rfl (by go_simp) ?_
            refine hK.out _ _ (Below.refl _ _) ?_
            clear hK K
            try simp only [Act.put, List.setIfInBounds_toArray, List.set_cons_zero, List.set_cons_succ]
            refine regB_call (i := 5) rfl (by kernel_rfl) (by rfl) fun K hK => ?_
            go_simp
            refine (SealW.nodeBytes_new dd x' _ (by rw [HD32.out]; omega) (by rw [HX32.out]; omega)).mono ?_
            rintro e w5 ⟨A5, c5, rfl, s5, k5, m5, n5, hb5⟩
            rw [HD32.out, HX32.out] at k5 ⊢
            have n5 := fun b o s e => Nat.le_trans hz (n5 b o s e)
            have hsy := hsz
            have hsz := Nat.le_trans hsz hb5.size
            have hz := Nat.le_trans hz hb5.size
            have bW := bW.trans (hb5.mono hsy)
            have hg := hg.below hb5 hg.lt
            have hr := hr.below hb5 hr.lt
            have co := co.below hb5
            refine hK.out _ _ (hb5.mono hsy) ?_
            clear hK K
            try simp only [List.setIfInBounds_toArray, List.set_cons_zero, List.set_cons_succ]
            refine regB_call (i := 7) rfl (by kernel_rfl) (by rfl) fun K hK => ?_
            go_simp
            refine (nodeL_any A m c B d a _ (HT.out _ bW) (HLA.out _ bW) HM2.out).mono ?_
            rintro e w7 ⟨A7, c7, rfl, s7, k7, m7, n7, hb7⟩
            rw [HTA.out] at s7
            have n7 := fun b o s e => Nat.le_trans hz (n7 b o s e)
            have s5 := s5.below hb7
            have hsy := hsz
            have hsz := Nat.le_trans hsz hb7.size
            have hz := Nat.le_trans hz hb7.size
            have bW := bW.trans (hb7.mono hsy)
            have hg := hg.below hb7 hg.lt
            have hr := hr.below hb7 hr.lt
            have co := co.below hb7
            refine hK.out _ _ (hb7.mono hsy) ?_
            clear hK K
            try simp only [List.setIfInBounds_toArray, List.set_cons_zero, List.set_cons_succ]
            refine regB_call (i := 8) rfl (by kernel_rfl) (by rfl) fun K hK => ?_
            go_simp
            refine (fv_of (pair_any (S3 (fun k => T k ∨ k = w.heap.size + 2 ∨ k = g) u v x) base A5 (32 + 32 + 1) c5 (1 :: (dd.data.toList ++ x'.data.toList)) A7 65 c7 ta w0 _ HT0.out H0.out (HBL.out _ bW) (fun k hk => ⟨(HS.out k hk).1, Nat.lt_of_lt_of_le (HS.out k hk).2 hz⟩) (by rw [List.length_cons, List.length_append, bsize, bsize, HD32.out, HX32.out]) s5 HTLA.out s7 (by omega) (by omega) k5 m5 k7 m7 (fun b o s h hk => Nat.not_le_of_lt (HS.out _ hk).2 (n5 b o s h)) (fun b o s h hk => Nat.not_le_of_lt (HS.out _ hk).2 (n7 b o s h)))).mono ?_
            rintro e w8 ⟨N8, p8, q8, rfl, f8, hb8⟩
            have hsy := hsz
            have hsz := Nat.le_trans hsz hb8.size
            have hz := Nat.le_trans hz hb8.size
            have bW := bW.trans (hb8.mono hsy)
            have hg := hg.below hb8 hg.lt
            have hr := hr.below hb8 hr.lt
            have co := co.below hb8
            refine hK.out _ _ (hb8.mono hsy) ?_
            clear hK K
            try simp only [List.setIfInBounds_toArray, List.set_cons_zero, List.set_cons_succ]
            refine regB_call (i := 9) rfl (by kernel_rfl) (by rfl) fun K hK => ?_
            go_simp
            have hb9 : Below w8.heap.size w8 (w8.alloc (.cells #[(.func (.func N8) #[] #[.pointer (some ⟨p8, 0, none⟩), .pointer (some ⟨q8, 0, none⟩)])] 70)) := (Below.refl _ _).alloc (Nat.le_refl _) _
            have ka : At (w8.alloc (.cells #[(.func (.func N8) #[] #[.pointer (some ⟨p8, 0, none⟩), .pointer (some ⟨q8, 0, none⟩)])] 70)) w8.heap.size 70 [(.func (.func N8) #[] #[.pointer (some ⟨p8, 0, none⟩), .pointer (some ⟨q8, 0, none⟩)])] := At.new_ w8 _ 70 [(.func (.func N8) #[] #[.pointer (some ⟨p8, 0, none⟩), .pointer (some ⟨q8, 0, none⟩)])] rfl
            have hno : u.ownBlock ≠ some w8.heap.size := fun e => Nat.lt_irrefl _ (co.a1.lt _ e).2
            have hsy := hsz
            have hsz := Nat.le_trans hsz hb9.size
            have hz := Nat.le_trans hz hb9.size
            have bW := bW.trans (hb9.mono hsy)
            have hg := hg.below hb9 hg.lt
            have hr := hr.below hb9 hr.lt
            have co := co.below hb9
            have f8 := f8.below hb9
            refine hK.out _ _ (hb9.mono hsy) ?_
            clear hK K
            try simp only [List.setIfInBounds_toArray, List.set_cons_zero, List.set_cons_succ]
            refine regB_call (i := 10) rfl (by kernel_rfl) (by rfl) fun K hK => ?_
            go_simp
            refine (insert_any (w.heap.size + 2 + 1) o.length u w8.heap.size (.func (.func N8) #[] #[.pointer (some ⟨p8, 0, none⟩), .pointer (some ⟨q8, 0, none⟩)]) fs _ co.a1 (Nat.le_trans (Nat.succ_le_of_lt hrg) (Nat.le_of_lt hg.lt)) ka hno rfl co.f1.one (by omega)).mono ?_
            rintro e w10 ⟨z, rfl, hown, hgrw, hblk⟩
            have hg10 := grown_at hgrw co.a1 hg course_ne
            have hr10 := grown_at hgrw co.a1 hr course_ne
            have hb10 : Below (w.heap.size + 2) _ w10 := (Below.refl _ _).grown hgrw hsz (fun k hk => Nat.le_of_succ_le (co.a1.lt k hk).1)
            have co := co.ins1 hown hgrw hblk f8
            have bW := bW.trans hb10
            clear hg hr
            refine hK.out _ _ hb10 ?_
            clear hK K
            try simp only [List.setIfInBounds_toArray, List.set_cons_zero, List.set_cons_succ]
            refine regB_take (i := 11) (d := some 97) (v := (.pointer (some ⟨g, 2, none⟩))) rfl rfl (by kernel_rfl) (by kernel_rfl) (by kernel_rfl) (fun _ _ _ h => h) (by rfl) (by intro w' hSw; go_simp) ?_
            try simp only [Act.put, List.setIfInBounds_toArray, List.set_cons_zero, List.set_cons_succ]
            refine regB_call (i := 12) rfl (by kernel_rfl) (by rfl) fun K hK => ?_
            refine oper_storeC rfl 59 (.tmp 97) (.tmp 96) rfl g 2 rfl z rfl (own_val co.a1).2 77 _ hg10 (by kernel_rfl) (by simp) (own_val co.a1).1 ?_
            intro x12 hg12 o12
            have hr := o12.at_ hr10 (Nat.ne_of_lt hrg)
            have co := co.only o12 (.inr (.inr rfl)) hg10 course_ne
            have bW := o12.below _ _ bW (Nat.le_of_lt hrg)
            simp only [List.set_cons_zero, List.set_cons_succ] at hg12
            refine hK.out _ _ (o12.below _ _ (Below.refl _ _) (Nat.le_of_lt hrg)) ?_
            clear hK K
            try simp only [List.setIfInBounds_toArray, List.set_cons_zero, List.set_cons_succ]
            refine wpAnyH_done (by kernel_rfl) ?_ _
            go_wp2_with fail
            go_meet
            exact ⟨z, v, x, _ :: o, p, q, _ :: fs, gs, hs, hg12, hr, co, Lib.hid (by show orE _ (fo o) = _; rw [hO.out]; rfl), hP, hQ, by simp only [List.length_cons]; omega, by omega, by omega, hrg, bW⟩
          · have f9 := hg.cell 0
            simp only [List.getElem?_cons_zero] at f9
            refine oper_yields (d := some 90) (v := (.string x')) rfl (by go_simp) ?_
            refine hK.out _ _ (Below.refl _ _) ?_
            clear hK K
            try simp only [Act.put, List.setIfInBounds_toArray, List.set_cons_zero, List.set_cons_succ]
            refine regB_two (i := 1) (j := 5) rfl rfl (by kernel_rfl) (by rfl) (by rfl) (fun K hK => ?_) (fun K hK => ?_)
            · have f9 := hg.cell 2
              simp only [List.getElem?_cons_zero, List.getElem?_cons_succ] at f9
              refine oper_yields (d := some 87) (v := u) rfl (by go_simp) ?_
              refine hK.out _ _ (Below.refl _ _) ?_
              clear hK K
              try simp only [Act.put, List.setIfInBounds_toArray, List.set_cons_zero, List.set_cons_succ]
              refine regB_call (i := 5) rfl (by kernel_rfl) (by rfl) fun K hK => ?_
              go_simp
              refine (SealW.nodeBytes_new dd x' _ (by rw [HD32.out]; omega) (by rw [HX32.out]; omega)).mono ?_
              rintro e w5 ⟨A5, c5, rfl, s5, k5, m5, n5, hb5⟩
              rw [HD32.out, HX32.out] at k5 ⊢
              have n5 := fun b o s e => Nat.le_trans hz (n5 b o s e)
              have hsy := hsz
              have hsz := Nat.le_trans hsz hb5.size
              have hz := Nat.le_trans hz hb5.size
              have bW := bW.trans (hb5.mono hsy)
              have hg := hg.below hb5 hg.lt
              have hr := hr.below hb5 hr.lt
              have co := co.below hb5
              refine hK.out _ _ (hb5.mono hsy) ?_
              clear hK K
              try simp only [List.setIfInBounds_toArray, List.set_cons_zero, List.set_cons_succ]
              refine regB_call (i := 7) rfl (by kernel_rfl) (by rfl) fun K hK => ?_
              go_simp
              refine (nodeL_any A m c B d a _ (HT.out _ bW) (HLA.out _ bW) HM2.out).mono ?_
              rintro e w7 ⟨A7, c7, rfl, s7, k7, m7, n7, hb7⟩
              rw [HTA.out] at s7
              have n7 := fun b o s e => Nat.le_trans hz (n7 b o s e)
              have s5 := s5.below hb7
              have hsy := hsz
              have hsz := Nat.le_trans hsz hb7.size
              have hz := Nat.le_trans hz hb7.size
              have bW := bW.trans (hb7.mono hsy)
              have hg := hg.below hb7 hg.lt
              have hr := hr.below hb7 hr.lt
              have co := co.below hb7
              refine hK.out _ _ (hb7.mono hsy) ?_
              clear hK K
              try simp only [List.setIfInBounds_toArray, List.set_cons_zero, List.set_cons_succ]
              refine regB_call (i := 8) rfl (by kernel_rfl) (by rfl) fun K hK => ?_
              go_simp
              refine (fv_of (pair_any (S3 (fun k => T k ∨ k = w.heap.size + 2 ∨ k = g) u v x) base A5 (32 + 32 + 1) c5 (1 :: (dd.data.toList ++ x'.data.toList)) A7 65 c7 ta w0 _ HT0.out H0.out (HBL.out _ bW) (fun k hk => ⟨(HS.out k hk).1, Nat.lt_of_lt_of_le (HS.out k hk).2 hz⟩) (by rw [List.length_cons, List.length_append, bsize, bsize, HD32.out, HX32.out]) s5 HTLA.out s7 (by omega) (by omega) k5 m5 k7 m7 (fun b o s h hk => Nat.not_le_of_lt (HS.out _ hk).2 (n5 b o s h)) (fun b o s h hk => Nat.not_le_of_lt (HS.out _ hk).2 (n7 b o s h)))).mono ?_
              rintro e w8 ⟨N8, p8, q8, rfl, f8, hb8⟩
              have hsy := hsz
              have hsz := Nat.le_trans hsz hb8.size
              have hz := Nat.le_trans hz hb8.size
              have bW := bW.trans (hb8.mono hsy)
              have hg := hg.below hb8 hg.lt
              have hr := hr.below hb8 hr.lt
              have co := co.below hb8
              refine hK.out _ _ (hb8.mono hsy) ?_
              clear hK K
              try simp only [List.setIfInBounds_toArray, List.set_cons_zero, List.set_cons_succ]
              refine regB_call (i := 9) rfl (by kernel_rfl) (by rfl) fun K hK => ?_
              go_simp
              have hb9 : Below w8.heap.size w8 (w8.alloc (.cells #[(.func (.func N8) #[] #[.pointer (some ⟨p8, 0, none⟩), .pointer (some ⟨q8, 0, none⟩)])] 70)) := (Below.refl _ _).alloc (Nat.le_refl _) _
              have ka : At (w8.alloc (.cells #[(.func (.func N8) #[] #[.pointer (some ⟨p8, 0, none⟩), .pointer (some ⟨q8, 0, none⟩)])] 70)) w8.heap.size 70 [(.func (.func N8) #[] #[.pointer (some ⟨p8, 0, none⟩), .pointer (some ⟨q8, 0, none⟩)])] := At.new_ w8 _ 70 [(.func (.func N8) #[] #[.pointer (some ⟨p8, 0, none⟩), .pointer (some ⟨q8, 0, none⟩)])] rfl
              have hno : u.ownBlock ≠ some w8.heap.size := fun e => Nat.lt_irrefl _ (co.a1.lt _ e).2
              have hsy := hsz
              have hsz := Nat.le_trans hsz hb9.size
              have hz := Nat.le_trans hz hb9.size
              have bW := bW.trans (hb9.mono hsy)
              have hg := hg.below hb9 hg.lt
              have hr := hr.below hb9 hr.lt
              have co := co.below hb9
              have f8 := f8.below hb9
              refine hK.out _ _ (hb9.mono hsy) ?_
              clear hK K
              try simp only [List.setIfInBounds_toArray, List.set_cons_zero, List.set_cons_succ]
              refine regB_call (i := 10) rfl (by kernel_rfl) (by rfl) fun K hK => ?_
              go_simp
              refine (insert_any (w.heap.size + 2 + 1) o.length u w8.heap.size (.func (.func N8) #[] #[.pointer (some ⟨p8, 0, none⟩), .pointer (some ⟨q8, 0, none⟩)]) fs _ co.a1 (Nat.le_trans (Nat.succ_le_of_lt hrg) (Nat.le_of_lt hg.lt)) ka hno rfl co.f1.one (by omega)).mono ?_
              rintro e w10 ⟨z, rfl, hown, hgrw, hblk⟩
              have hg10 := grown_at hgrw co.a1 hg course_ne
              have hr10 := grown_at hgrw co.a1 hr course_ne
              have hb10 : Below (w.heap.size + 2) _ w10 := (Below.refl _ _).grown hgrw hsz (fun k hk => Nat.le_of_succ_le (co.a1.lt k hk).1)
              have co := co.ins1 hown hgrw hblk f8
              have bW := bW.trans hb10
              clear hg hr
              refine hK.out _ _ hb10 ?_
              clear hK K
              try simp only [List.setIfInBounds_toArray, List.set_cons_zero, List.set_cons_succ]
              refine regB_take (i := 11) (d := some 97) (v := (.pointer (some ⟨g, 2, none⟩))) rfl rfl (by kernel_rfl) (by kernel_rfl) (by kernel_rfl) (fun _ _ _ h => h) (by rfl) (by intro w' hSw; go_simp) ?_
              try simp only [Act.put, List.setIfInBounds_toArray, List.set_cons_zero, List.set_cons_succ]
              refine regB_call (i := 12) rfl (by kernel_rfl) (by rfl) fun K hK => ?_
              refine oper_storeC rfl 59 (.tmp 97) (.tmp 96) rfl g 2 rfl z rfl (own_val co.a1).2 77 _ hg10 (by kernel_rfl) (by simp) (own_val co.a1).1 ?_
              intro x12 hg12 o12
              have hr := o12.at_ hr10 (Nat.ne_of_lt hrg)
              have co := co.only o12 (.inr (.inr rfl)) hg10 course_ne
              have bW := o12.below _ _ bW (Nat.le_of_lt hrg)
              simp only [List.set_cons_zero, List.set_cons_succ] at hg12
              refine hK.out _ _ (o12.below _ _ (Below.refl _ _) (Nat.le_of_lt hrg)) ?_
              clear hK K
              try simp only [List.setIfInBounds_toArray, List.set_cons_zero, List.set_cons_succ]
              refine wpAnyH_done (by kernel_rfl) ?_ _
              go_wp2_with fail
              go_meet
              exact ⟨z, v, x, _ :: o, p, q, _ :: fs, gs, hs, hg12, hr, co, Lib.hid (by show orE _ (fo o) = _; rw [hO.out]; rfl), hP, hQ, by simp only [List.length_cons]; omega, by omega, by omega, hrg, bW⟩
            · go_simp
              refine (SealW.nodeBytes_new dd x' _ (by rw [HD32.out]; omega) (by rw [HX32.out]; omega)).mono ?_
              rintro e w5 ⟨A5, c5, rfl, s5, k5, m5, n5, hb5⟩
              rw [HD32.out, HX32.out] at k5 ⊢
              have n5 := fun b o s e => Nat.le_trans hz (n5 b o s e)
              have hsy := hsz
              have hsz := Nat.le_trans hsz hb5.size
              have hz := Nat.le_trans hz hb5.size
              have bW := bW.trans (hb5.mono hsy)
              have hg := hg.below hb5 hg.lt
              have hr := hr.below hb5 hr.lt
              have co := co.below hb5
              refine hK.out _ _ (hb5.mono hsy) ?_
              clear hK K
              try simp only [List.setIfInBounds_toArray, List.set_cons_zero, List.set_cons_succ]
              refine regB_two (i := 1) (j := 7) rfl rfl (by kernel_rfl) (by rfl) (by rfl) (fun K hK => ?_) (fun K hK => ?_)
              · have f9 := hg.cell 2
                simp only [List.getElem?_cons_zero, List.getElem?_cons_succ] at f9
                refine oper_yields (d := some 87) (v := u) rfl (by go_simp) ?_
                refine hK.out _ _ (Below.refl _ _) ?_
                clear hK K
                try simp only [Act.put, List.setIfInBounds_toArray, List.set_cons_zero, List.set_cons_succ]
                refine regB_call (i := 7) rfl (by kernel_rfl) (by rfl) fun K hK => ?_
                go_simp
                refine (nodeL_any A m c B d a _ (HT.out _ bW) (HLA.out _ bW) HM2.out).mono ?_
                rintro e w7 ⟨A7, c7, rfl, s7, k7, m7, n7, hb7⟩
                rw [HTA.out] at s7
                have n7 := fun b o s e => Nat.le_trans hz (n7 b o s e)
                have s5 := s5.below hb7
                have hsy := hsz
                have hsz := Nat.le_trans hsz hb7.size
                have hz := Nat.le_trans hz hb7.size
                have bW := bW.trans (hb7.mono hsy)
                have hg := hg.below hb7 hg.lt
                have hr := hr.below hb7 hr.lt
                have co := co.below hb7
                refine hK.out _ _ (hb7.mono hsy) ?_
                clear hK K
                try simp only [List.setIfInBounds_toArray, List.set_cons_zero, List.set_cons_succ]
                refine regB_call (i := 8) rfl (by kernel_rfl) (by rfl) fun K hK => ?_
                go_simp
                refine (fv_of (pair_any (S3 (fun k => T k ∨ k = w.heap.size + 2 ∨ k = g) u v x) base A5 (32 + 32 + 1) c5 (1 :: (dd.data.toList ++ x'.data.toList)) A7 65 c7 ta w0 _ HT0.out H0.out (HBL.out _ bW) (fun k hk => ⟨(HS.out k hk).1, Nat.lt_of_lt_of_le (HS.out k hk).2 hz⟩) (by rw [List.length_cons, List.length_append, bsize, bsize, HD32.out, HX32.out]) s5 HTLA.out s7 (by omega) (by omega) k5 m5 k7 m7 (fun b o s h hk => Nat.not_le_of_lt (HS.out _ hk).2 (n5 b o s h)) (fun b o s h hk => Nat.not_le_of_lt (HS.out _ hk).2 (n7 b o s h)))).mono ?_
                rintro e w8 ⟨N8, p8, q8, rfl, f8, hb8⟩
                have hsy := hsz
                have hsz := Nat.le_trans hsz hb8.size
                have hz := Nat.le_trans hz hb8.size
                have bW := bW.trans (hb8.mono hsy)
                have hg := hg.below hb8 hg.lt
                have hr := hr.below hb8 hr.lt
                have co := co.below hb8
                refine hK.out _ _ (hb8.mono hsy) ?_
                clear hK K
                try simp only [List.setIfInBounds_toArray, List.set_cons_zero, List.set_cons_succ]
                refine regB_call (i := 9) rfl (by kernel_rfl) (by rfl) fun K hK => ?_
                go_simp
                have hb9 : Below w8.heap.size w8 (w8.alloc (.cells #[(.func (.func N8) #[] #[.pointer (some ⟨p8, 0, none⟩), .pointer (some ⟨q8, 0, none⟩)])] 70)) := (Below.refl _ _).alloc (Nat.le_refl _) _
                have ka : At (w8.alloc (.cells #[(.func (.func N8) #[] #[.pointer (some ⟨p8, 0, none⟩), .pointer (some ⟨q8, 0, none⟩)])] 70)) w8.heap.size 70 [(.func (.func N8) #[] #[.pointer (some ⟨p8, 0, none⟩), .pointer (some ⟨q8, 0, none⟩)])] := At.new_ w8 _ 70 [(.func (.func N8) #[] #[.pointer (some ⟨p8, 0, none⟩), .pointer (some ⟨q8, 0, none⟩)])] rfl
                have hno : u.ownBlock ≠ some w8.heap.size := fun e => Nat.lt_irrefl _ (co.a1.lt _ e).2
                have hsy := hsz
                have hsz := Nat.le_trans hsz hb9.size
                have hz := Nat.le_trans hz hb9.size
                have bW := bW.trans (hb9.mono hsy)
                have hg := hg.below hb9 hg.lt
                have hr := hr.below hb9 hr.lt
                have co := co.below hb9
                have f8 := f8.below hb9
                refine hK.out _ _ (hb9.mono hsy) ?_
                clear hK K
                try simp only [List.setIfInBounds_toArray, List.set_cons_zero, List.set_cons_succ]
                refine regB_call (i := 10) rfl (by kernel_rfl) (by rfl) fun K hK => ?_
                go_simp
                refine (insert_any (w.heap.size + 2 + 1) o.length u w8.heap.size (.func (.func N8) #[] #[.pointer (some ⟨p8, 0, none⟩), .pointer (some ⟨q8, 0, none⟩)]) fs _ co.a1 (Nat.le_trans (Nat.succ_le_of_lt hrg) (Nat.le_of_lt hg.lt)) ka hno rfl co.f1.one (by omega)).mono ?_
                rintro e w10 ⟨z, rfl, hown, hgrw, hblk⟩
                have hg10 := grown_at hgrw co.a1 hg course_ne
                have hr10 := grown_at hgrw co.a1 hr course_ne
                have hb10 : Below (w.heap.size + 2) _ w10 := (Below.refl _ _).grown hgrw hsz (fun k hk => Nat.le_of_succ_le (co.a1.lt k hk).1)
                have co := co.ins1 hown hgrw hblk f8
                have bW := bW.trans hb10
                clear hg hr
                refine hK.out _ _ hb10 ?_
                clear hK K
                try simp only [List.setIfInBounds_toArray, List.set_cons_zero, List.set_cons_succ]
                refine regB_take (i := 11) (d := some 97) (v := (.pointer (some ⟨g, 2, none⟩))) rfl rfl (by kernel_rfl) (by kernel_rfl) (by kernel_rfl) (fun _ _ _ h => h) (by rfl) (by intro w' hSw; go_simp) ?_
                try simp only [Act.put, List.setIfInBounds_toArray, List.set_cons_zero, List.set_cons_succ]
                refine regB_call (i := 12) rfl (by kernel_rfl) (by rfl) fun K hK => ?_
                refine oper_storeC rfl 59 (.tmp 97) (.tmp 96) rfl g 2 rfl z rfl (own_val co.a1).2 77 _ hg10 (by kernel_rfl) (by simp) (own_val co.a1).1 ?_
                intro x12 hg12 o12
                have hr := o12.at_ hr10 (Nat.ne_of_lt hrg)
                have co := co.only o12 (.inr (.inr rfl)) hg10 course_ne
                have bW := o12.below _ _ bW (Nat.le_of_lt hrg)
                simp only [List.set_cons_zero, List.set_cons_succ] at hg12
                refine hK.out _ _ (o12.below _ _ (Below.refl _ _) (Nat.le_of_lt hrg)) ?_
                clear hK K
                try simp only [List.setIfInBounds_toArray, List.set_cons_zero, List.set_cons_succ]
                refine wpAnyH_done (by kernel_rfl) ?_ _
                go_wp2_with fail
                go_meet
                exact ⟨z, v, x, _ :: o, p, q, _ :: fs, gs, hs, hg12, hr, co, Lib.hid (by show orE _ (fo o) = _; rw [hO.out]; rfl), hP, hQ, by simp only [List.length_cons]; omega, by omega, by omega, hrg, bW⟩
              · go_simp
                refine (nodeL_any A m c B d a _ (HT.out _ bW) (HLA.out _ bW) HM2.out).mono ?_
                rintro e w7 ⟨A7, c7, rfl, s7, k7, m7, n7, hb7⟩
                rw [HTA.out] at s7
                have n7 := fun b o s e => Nat.le_trans hz (n7 b o s e)
                have s5 := s5.below hb7
                have hsy := hsz
                have hsz := Nat.le_trans hsz hb7.size
                have hz := Nat.le_trans hz hb7.size
                have bW := bW.trans (hb7.mono hsy)
                have hg := hg.below hb7 hg.lt
                have hr := hr.below hb7 hr.lt
                have co := co.below hb7
                refine hK.out _ _ (hb7.mono hsy) ?_
                clear hK K
                try simp only [List.setIfInBounds_toArray, List.set_cons_zero, List.set_cons_succ]
                refine regB_two (i := 1) (j := 8) rfl rfl (by kernel_rfl) (by rfl) (by rfl) (fun K hK => ?_) (fun K hK => ?_)
                · have f9 := hg.cell 2
                  simp only [List.getElem?_cons_zero, List.getElem?_cons_succ] at f9
                  refine oper_yields (d := some 87) (v := u) rfl (by go_simp) ?_
                  refine hK.out _ _ (Below.refl _ _) ?_
                  clear hK K
                  try simp only [Act.put, List.setIfInBounds_toArray, List.set_cons_zero, List.set_cons_succ]
                  refine regB_call (i := 8) rfl (by kernel_rfl) (by rfl) fun K hK => ?_
                  go_simp
                  refine (fv_of (pair_any (S3 (fun k => T k ∨ k = w.heap.size + 2 ∨ k = g) u v x) base A5 (32 + 32 + 1) c5 (1 :: (dd.data.toList ++ x'.data.toList)) A7 65 c7 ta w0 _ HT0.out H0.out (HBL.out _ bW) (fun k hk => ⟨(HS.out k hk).1, Nat.lt_of_lt_of_le (HS.out k hk).2 hz⟩) (by rw [List.length_cons, List.length_append, bsize, bsize, HD32.out, HX32.out]) s5 HTLA.out s7 (by omega) (by omega) k5 m5 k7 m7 (fun b o s h hk => Nat.not_le_of_lt (HS.out _ hk).2 (n5 b o s h)) (fun b o s h hk => Nat.not_le_of_lt (HS.out _ hk).2 (n7 b o s h)))).mono ?_
                  rintro e w8 ⟨N8, p8, q8, rfl, f8, hb8⟩
                  have hsy := hsz
                  have hsz := Nat.le_trans hsz hb8.size
                  have hz := Nat.le_trans hz hb8.size
                  have bW := bW.trans (hb8.mono hsy)
                  have hg := hg.below hb8 hg.lt
                  have hr := hr.below hb8 hr.lt
                  have co := co.below hb8
                  refine hK.out _ _ (hb8.mono hsy) ?_
                  clear hK K
                  try simp only [List.setIfInBounds_toArray, List.set_cons_zero, List.set_cons_succ]
                  refine regB_call (i := 9) rfl (by kernel_rfl) (by rfl) fun K hK => ?_
                  go_simp
                  have hb9 : Below w8.heap.size w8 (w8.alloc (.cells #[(.func (.func N8) #[] #[.pointer (some ⟨p8, 0, none⟩), .pointer (some ⟨q8, 0, none⟩)])] 70)) := (Below.refl _ _).alloc (Nat.le_refl _) _
                  have ka : At (w8.alloc (.cells #[(.func (.func N8) #[] #[.pointer (some ⟨p8, 0, none⟩), .pointer (some ⟨q8, 0, none⟩)])] 70)) w8.heap.size 70 [(.func (.func N8) #[] #[.pointer (some ⟨p8, 0, none⟩), .pointer (some ⟨q8, 0, none⟩)])] := At.new_ w8 _ 70 [(.func (.func N8) #[] #[.pointer (some ⟨p8, 0, none⟩), .pointer (some ⟨q8, 0, none⟩)])] rfl
                  have hno : u.ownBlock ≠ some w8.heap.size := fun e => Nat.lt_irrefl _ (co.a1.lt _ e).2
                  have hsy := hsz
                  have hsz := Nat.le_trans hsz hb9.size
                  have hz := Nat.le_trans hz hb9.size
                  have bW := bW.trans (hb9.mono hsy)
                  have hg := hg.below hb9 hg.lt
                  have hr := hr.below hb9 hr.lt
                  have co := co.below hb9
                  have f8 := f8.below hb9
                  refine hK.out _ _ (hb9.mono hsy) ?_
                  clear hK K
                  try simp only [List.setIfInBounds_toArray, List.set_cons_zero, List.set_cons_succ]
                  refine regB_call (i := 10) rfl (by kernel_rfl) (by rfl) fun K hK => ?_
                  go_simp
                  refine (insert_any (w.heap.size + 2 + 1) o.length u w8.heap.size (.func (.func N8) #[] #[.pointer (some ⟨p8, 0, none⟩), .pointer (some ⟨q8, 0, none⟩)]) fs _ co.a1 (Nat.le_trans (Nat.succ_le_of_lt hrg) (Nat.le_of_lt hg.lt)) ka hno rfl co.f1.one (by omega)).mono ?_
                  rintro e w10 ⟨z, rfl, hown, hgrw, hblk⟩
                  have hg10 := grown_at hgrw co.a1 hg course_ne
                  have hr10 := grown_at hgrw co.a1 hr course_ne
                  have hb10 : Below (w.heap.size + 2) _ w10 := (Below.refl _ _).grown hgrw hsz (fun k hk => Nat.le_of_succ_le (co.a1.lt k hk).1)
                  have co := co.ins1 hown hgrw hblk f8
                  have bW := bW.trans hb10
                  clear hg hr
                  refine hK.out _ _ hb10 ?_
                  clear hK K
                  try simp only [List.setIfInBounds_toArray, List.set_cons_zero, List.set_cons_succ]
                  refine regB_take (i := 11) (d := some 97) (v := (.pointer (some ⟨g, 2, none⟩))) rfl rfl (by kernel_rfl) (by kernel_rfl) (by kernel_rfl) (fun _ _ _ h => h) (by rfl) (by intro w' hSw; go_simp) ?_
                  try simp only [Act.put, List.setIfInBounds_toArray, List.set_cons_zero, List.set_cons_succ]
                  refine regB_call (i := 12) rfl (by kernel_rfl) (by rfl) fun K hK => ?_
                  refine oper_storeC rfl 59 (.tmp 97) (.tmp 96) rfl g 2 rfl z rfl (own_val co.a1).2 77 _ hg10 (by kernel_rfl) (by simp) (own_val co.a1).1 ?_
                  intro x12 hg12 o12
                  have hr := o12.at_ hr10 (Nat.ne_of_lt hrg)
                  have co := co.only o12 (.inr (.inr rfl)) hg10 course_ne
                  have bW := o12.below _ _ bW (Nat.le_of_lt hrg)
                  simp only [List.set_cons_zero, List.set_cons_succ] at hg12
                  refine hK.out _ _ (o12.below _ _ (Below.refl _ _) (Nat.le_of_lt hrg)) ?_
                  clear hK K
                  try simp only [List.setIfInBounds_toArray, List.set_cons_zero, List.set_cons_succ]
                  refine wpAnyH_done (by kernel_rfl) ?_ _
                  go_wp2_with fail
                  go_meet
                  exact ⟨z, v, x, _ :: o, p, q, _ :: fs, gs, hs, hg12, hr, co, Lib.hid (by show orE _ (fo o) = _; rw [hO.out]; rfl), hP, hQ, by simp only [List.length_cons]; omega, by omega, by omega, hrg, bW⟩
                · go_simp
                  refine (fv_of (pair_any (S3 (fun k => T k ∨ k = w.heap.size + 2 ∨ k = g) u v x) base A5 (32 + 32 + 1) c5 (1 :: (dd.data.toList ++ x'.data.toList)) A7 65 c7 ta w0 _ HT0.out H0.out (HBL.out _ bW) (fun k hk => ⟨(HS.out k hk).1, Nat.lt_of_lt_of_le (HS.out k hk).2 hz⟩) (by rw [List.length_cons, List.length_append, bsize, bsize, HD32.out, HX32.out]) s5 HTLA.out s7 (by omega) (by omega) k5 m5 k7 m7 (fun b o s h hk => Nat.not_le_of_lt (HS.out _ hk).2 (n5 b o s h)) (fun b o s h hk => Nat.not_le_of_lt (HS.out _ hk).2 (n7 b o s h)))).mono ?_
                  rintro e w8 ⟨N8, p8, q8, rfl, f8, hb8⟩
                  have hsy := hsz
                  have hsz := Nat.le_trans hsz hb8.size
                  have hz := Nat.le_trans hz hb8.size
                  have bW := bW.trans (hb8.mono hsy)
                  have hg := hg.below hb8 hg.lt
                  have hr := hr.below hb8 hr.lt
                  have co := co.below hb8
                  refine hK.out _ _ (hb8.mono hsy) ?_
                  clear hK K
                  try simp only [List.setIfInBounds_toArray, List.set_cons_zero, List.set_cons_succ]
                  refine regB_two (i := 1) (j := 9) rfl rfl (by kernel_rfl) (by rfl) (by rfl) (fun K hK => ?_) (fun K hK => ?_)
                  · have f9 := hg.cell 2
                    simp only [List.getElem?_cons_zero, List.getElem?_cons_succ] at f9
                    refine oper_yields (d := some 87) (v := u) rfl (by go_simp) ?_
                    refine hK.out _ _ (Below.refl _ _) ?_
                    clear hK K
                    try simp only [Act.put, List.setIfInBounds_toArray, List.set_cons_zero, List.set_cons_succ]
                    refine regB_call (i := 9) rfl (by kernel_rfl) (by rfl) fun K hK => ?_
                    go_simp
                    have hb9 : Below w8.heap.size w8 (w8.alloc (.cells #[(.func (.func N8) #[] #[.pointer (some ⟨p8, 0, none⟩), .pointer (some ⟨q8, 0, none⟩)])] 70)) := (Below.refl _ _).alloc (Nat.le_refl _) _
                    have ka : At (w8.alloc (.cells #[(.func (.func N8) #[] #[.pointer (some ⟨p8, 0, none⟩), .pointer (some ⟨q8, 0, none⟩)])] 70)) w8.heap.size 70 [(.func (.func N8) #[] #[.pointer (some ⟨p8, 0, none⟩), .pointer (some ⟨q8, 0, none⟩)])] := At.new_ w8 _ 70 [(.func (.func N8) #[] #[.pointer (some ⟨p8, 0, none⟩), .pointer (some ⟨q8, 0, none⟩)])] rfl
                    have hno : u.ownBlock ≠ some w8.heap.size := fun e => Nat.lt_irrefl _ (co.a1.lt _ e).2
                    have hsy := hsz
                    have hsz := Nat.le_trans hsz hb9.size
                    have hz := Nat.le_trans hz hb9.size
                    have bW := bW.trans (hb9.mono hsy)
                    have hg := hg.below hb9 hg.lt
                    have hr := hr.below hb9 hr.lt
                    have co := co.below hb9
                    have f8 := f8.below hb9
                    refine hK.out _ _ (hb9.mono hsy) ?_
                    clear hK K
                    try simp only [List.setIfInBounds_toArray, List.set_cons_zero, List.set_cons_succ]
                    refine regB_call (i := 10) rfl (by kernel_rfl) (by rfl) fun K hK => ?_
                    go_simp
                    refine (insert_any (w.heap.size + 2 + 1) o.length u w8.heap.size (.func (.func N8) #[] #[.pointer (some ⟨p8, 0, none⟩), .pointer (some ⟨q8, 0, none⟩)]) fs _ co.a1 (Nat.le_trans (Nat.succ_le_of_lt hrg) (Nat.le_of_lt hg.lt)) ka hno rfl co.f1.one (by omega)).mono ?_
                    rintro e w10 ⟨z, rfl, hown, hgrw, hblk⟩
                    have hg10 := grown_at hgrw co.a1 hg course_ne
                    have hr10 := grown_at hgrw co.a1 hr course_ne
                    have hb10 : Below (w.heap.size + 2) _ w10 := (Below.refl _ _).grown hgrw hsz (fun k hk => Nat.le_of_succ_le (co.a1.lt k hk).1)
                    have co := co.ins1 hown hgrw hblk f8
                    have bW := bW.trans hb10
                    clear hg hr
                    refine hK.out _ _ hb10 ?_
                    clear hK K
                    try simp only [List.setIfInBounds_toArray, List.set_cons_zero, List.set_cons_succ]
                    refine regB_take (i := 11) (d := some 97) (v := (.pointer (some ⟨g, 2, none⟩))) rfl rfl (by kernel_rfl) (by kernel_rfl) (by kernel_rfl) (fun _ _ _ h => h) (by rfl) (by intro w' hSw; go_simp) ?_
                    try simp only [Act.put, List.setIfInBounds_toArray, List.set_cons_zero, List.set_cons_succ]
                    refine regB_call (i := 12) rfl (by kernel_rfl) (by rfl) fun K hK => ?_
                    refine oper_storeC rfl 59 (.tmp 97) (.tmp 96) rfl g 2 rfl z rfl (own_val co.a1).2 77 _ hg10 (by kernel_rfl) (by simp) (own_val co.a1).1 ?_
                    intro x12 hg12 o12
                    have hr := o12.at_ hr10 (Nat.ne_of_lt hrg)
                    have co := co.only o12 (.inr (.inr rfl)) hg10 course_ne
                    have bW := o12.below _ _ bW (Nat.le_of_lt hrg)
                    simp only [List.set_cons_zero, List.set_cons_succ] at hg12
                    refine hK.out _ _ (o12.below _ _ (Below.refl _ _) (Nat.le_of_lt hrg)) ?_
                    clear hK K
                    try simp only [List.setIfInBounds_toArray, List.set_cons_zero, List.set_cons_succ]
                    refine wpAnyH_done (by kernel_rfl) ?_ _
                    go_wp2_with fail
                    go_meet
                    exact ⟨z, v, x, _ :: o, p, q, _ :: fs, gs, hs, hg12, hr, co, Lib.hid (by show orE _ (fo o) = _; rw [hO.out]; rfl), hP, hQ, by simp only [List.length_cons]; omega, by omega, by omega, hrg, bW⟩
                  · go_simp
                    have hb9 : Below w8.heap.size w8 (w8.alloc (.cells #[(.func (.func N8) #[] #[.pointer (some ⟨p8, 0, none⟩), .pointer (some ⟨q8, 0, none⟩)])] 70)) := (Below.refl _ _).alloc (Nat.le_refl _) _
                    have ka : At (w8.alloc (.cells #[(.func (.func N8) #[] #[.pointer (some ⟨p8, 0, none⟩), .pointer (some ⟨q8, 0, none⟩)])] 70)) w8.heap.size 70 [(.func (.func N8) #[] #[.pointer (some ⟨p8, 0, none⟩), .pointer (some ⟨q8, 0, none⟩)])] := At.new_ w8 _ 70 [(.func (.func N8) #[] #[.pointer (some ⟨p8, 0, none⟩), .pointer (some ⟨q8, 0, none⟩)])] rfl
                    have hno : u.ownBlock ≠ some w8.heap.size := fun e => Nat.lt_irrefl _ (co.a1.lt _ e).2
                    have hsy := hsz
                    have hsz := Nat.le_trans hsz hb9.size
                    have hz := Nat.le_trans hz hb9.size
                    have bW := bW.trans (hb9.mono hsy)
                    have hg := hg.below hb9 hg.lt
                    have hr := hr.below hb9 hr.lt
                    have co := co.below hb9
                    have f8 := f8.below hb9
                    refine hK.out _ _ (hb9.mono hsy) ?_
                    clear hK K
                    try simp only [List.setIfInBounds_toArray, List.set_cons_zero, List.set_cons_succ]
                    refine regB_call (i := 1) rfl (by kernel_rfl) (by rfl) fun K hK => ?_
                    have f9 := hg.cell 2
                    simp only [List.getElem?_cons_zero, List.getElem?_cons_succ] at f9
                    refine oper_yields (d := some 87) (v := u) rfl (by go_simp) ?_
                    refine hK.out _ _ (Below.refl _ _) ?_
                    clear hK K
                    try simp only [Act.put, List.setIfInBounds_toArray, List.set_cons_zero, List.set_cons_succ]
                    refine regB_call (i := 10) rfl (by kernel_rfl) (by rfl) fun K hK => ?_
                    go_simp
                    refine (insert_any (w.heap.size + 2 + 1) o.length u w8.heap.size (.func (.func N8) #[] #[.pointer (some ⟨p8, 0, none⟩), .pointer (some ⟨q8, 0, none⟩)]) fs _ co.a1 (Nat.le_trans (Nat.succ_le_of_lt hrg) (Nat.le_of_lt hg.lt)) ka hno rfl co.f1.one (by omega)).mono ?_
                    rintro e w10 ⟨z, rfl, hown, hgrw, hblk⟩
                    have hg10 := grown_at hgrw co.a1 hg course_ne
                    have hr10 := grown_at hgrw co.a1 hr course_ne
                    have hb10 : Below (w.heap.size + 2) _ w10 := (Below.refl _ _).grown hgrw hsz (fun k hk => Nat.le_of_succ_le (co.a1.lt k hk).1)
                    have co := co.ins1 hown hgrw hblk f8
                    have bW := bW.trans hb10
                    clear hg hr
                    refine hK.out _ _ hb10 ?_
                    clear hK K
                    try simp only [List.setIfInBounds_toArray, List.set_cons_zero, List.set_cons_succ]
                    refine regB_take (i := 11) (d := some 97) (v := (.pointer (some ⟨g, 2, none⟩))) rfl rfl (by kernel_rfl) (by kernel_rfl) (by kernel_rfl) (fun _ _ _ h => h) (by rfl) (by intro w' hSw; go_simp) ?_
                    try simp only [Act.put, List.setIfInBounds_toArray, List.set_cons_zero, List.set_cons_succ]
                    refine regB_call (i := 12) rfl (by kernel_rfl) (by rfl) fun K hK => ?_
                    refine oper_storeC rfl 59 (.tmp 97) (.tmp 96) rfl g 2 rfl z rfl (own_val co.a1).2 77 _ hg10 (by kernel_rfl) (by simp) (own_val co.a1).1 ?_
                    intro x12 hg12 o12
                    have hr := o12.at_ hr10 (Nat.ne_of_lt hrg)
                    have co := co.only o12 (.inr (.inr rfl)) hg10 course_ne
                    have bW := o12.below _ _ bW (Nat.le_of_lt hrg)
                    simp only [List.set_cons_zero, List.set_cons_succ] at hg12
                    refine hK.out _ _ (o12.below _ _ (Below.refl _ _) (Nat.le_of_lt hrg)) ?_
                    clear hK K
                    try simp only [List.setIfInBounds_toArray, List.set_cons_zero, List.set_cons_succ]
                    refine wpAnyH_done (by kernel_rfl) ?_ _
                    go_wp2_with fail
                    go_meet
                    exact ⟨z, v, x, _ :: o, p, q, _ :: fs, gs, hs, hg12, hr, co, Lib.hid (by show orE _ (fo o) = _; rw [hO.out]; rfl), hP, hQ, by simp only [List.length_cons]; omega, by omega, by omega, hrg, bW⟩
        case rest =>
          clear hcs
          have hcs := hcut
          clear hcut
          go_upto_region 15 with fail
          go_cut [] (fun wc => CS (fun k => T k ∨ k = w.heap.size + 2 ∨ k = g) (w.heap.size + 2) g x' y' (orE (btw sha (nb dd x') ta) O1) (orE (btw sha (nb dd y') tb) P1) (Q1) (3 * (n - k) + 2) Wz wc)
          case first =>
            obtain ⟨u, v, x, o, p, q, fs, gs, hs, hg, hr, co, hO, hP, hQ, lno, lnp, lnq, hrg, bW⟩ := hcs
            have HS := Lib.hid (co.into2 HBZ.out HTT.out hr.lt hrg hg.lt)
            have hz := Nat.le_refl wc.heap.size
            have hsz : w.heap.size + 2 ≤ wc.heap.size := Nat.le_of_lt hr.lt
            have hb0 : Below wc.heap.size wc wc.drew := (Below.refl _ _).drew
            have hg := hg.drew
            have hr := hr.drew
            have co := co.below hb0
            have bW := bW.drew
            clear hb0
            refine regB_begin (w.heap.size + 2) (by kernel_rfl) ?_
            change wpAnyH _ _ _ _ _ 13 #[false, false, false, false, false, false, false, false, false, false, false, false, false] _ _
            refine regB_take (i := 0) (d := some 98) (v := (.pointer (some ⟨g, 3, none⟩))) rfl rfl (by kernel_rfl) (by kernel_rfl) (by kernel_rfl) (fun _ _ _ h => h) (by rfl) (by intro w' hSw; go_simp) ?_
            try simp only [Act.put, List.setIfInBounds_toArray, List.set_cons_zero, List.set_cons_succ]
            refine regB_take (i := 2) (d := some 100) (v := (.string dd)) rfl rfl (by kernel_rfl) (by kernel_rfl) (by kernel_rfl) (fun _ _ _ h => h) (by rfl) (by intro w' hSw; go_simp) ?_
            try simp only [Act.put, List.setIfInBounds_toArray, List.set_cons_zero, List.set_cons_succ]
            refine regB_take (i := 3) (d := some 101) (v := (.pointer (some ⟨g, 1, none⟩))) rfl rfl (by kernel_rfl) (by kernel_rfl) (by kernel_rfl) (fun _ _ _ h => h) (by rfl) (by intro w' hSw; go_simp) ?_
            try simp only [Act.put, List.setIfInBounds_toArray, List.set_cons_zero, List.set_cons_succ]
            refine regB_take (i := 6) (d := some 104) (v := (.agg #[.slice A' n c', .slice B' n d'])) rfl rfl (by kernel_rfl) (by kernel_rfl) (by kernel_rfl) (fun _ _ _ h => h) (by rfl) (by intro w' hSw; have f0 := HB0.out w' (bW.trans hSw); have f1 := HB1.out w' (bW.trans hSw); go_simp) ?_
            try simp only [Act.put, List.setIfInBounds_toArray, List.set_cons_zero, List.set_cons_succ]
            refine regB_two (i := 1) (j := 4) rfl rfl (by kernel_rfl) (by rfl) (by rfl) (fun K hK => ?_) (fun K hK => ?_)
            · have f9 := hg.cell 3
              simp only [List.getElem?_cons_zero, List.getElem?_cons_succ] at f9
              refine oper_yields (d := some 99) (v := v) rfl (by go_simp) ?_
              refine hK.out _ _ (Below.refl _ _) ?_
              clear hK K
              try simp only [Act.put, List.setIfInBounds_toArray, List.set_cons_zero, List.set_cons_succ]
              refine regB_call (i := 4) rfl (by kernel_rfl) (by rfl) fun K hK => ?_
              have f9 := hg.cell 1
              simp only [List.getElem?_cons_zero, List.getElem?_cons_succ] at f9
              refine oper_yields (d := some 102) (v := (.string y')) rfl (by go_simp) ?_
              refine hK.out _ _ (Below.refl _ _) ?_
              clear hK K
              try simp only [Act.put, List.setIfInBounds_toArray, List.set_cons_zero, List.set_cons_succ]
              refine regB_call (i := 5) rfl (by kernel_rfl) (by rfl) fun K hK => ?_
              go_simp
              refine (SealW.nodeBytes_new dd y' _ (by rw [HD32.out]; omega) (by rw [HY32.out]; omega)).mono ?_
              rintro e w5 ⟨A5, c5, rfl, s5, k5, m5, n5, hb5⟩
              rw [HD32.out, HY32.out] at k5 ⊢
              have n5 := fun b o s e => Nat.le_trans hz (n5 b o s e)
              have hsy := hsz
              have hsz := Nat.le_trans hsz hb5.size
              have hz := Nat.le_trans hz hb5.size
              have bW := bW.trans (hb5.mono hsy)
              have hg := hg.below hb5 hg.lt
              have hr := hr.below hb5 hr.lt
              have co := co.below hb5
              refine hK.out _ _ (hb5.mono hsy) ?_
              clear hK K
              try simp only [List.setIfInBounds_toArray, List.set_cons_zero, List.set_cons_succ]
              refine regB_call (i := 7) rfl (by kernel_rfl) (by rfl) fun K hK => ?_
              go_simp
              refine (nodeL_any A' n c' B' d' b _ (HT.out _ bW) (HLB.out _ bW) HN2.out).mono ?_
              rintro e w7 ⟨A7, c7, rfl, s7, k7, m7, n7, hb7⟩
              rw [HTB.out] at s7
              have n7 := fun b o s e => Nat.le_trans hz (n7 b o s e)
              have s5 := s5.below hb7
              have hsy := hsz
              have hsz := Nat.le_trans hsz hb7.size
              have hz := Nat.le_trans hz hb7.size
              have bW := bW.trans (hb7.mono hsy)
              have hg := hg.below hb7 hg.lt
              have hr := hr.below hb7 hr.lt
              have co := co.below hb7
              refine hK.out _ _ (hb7.mono hsy) ?_
              clear hK K
              try simp only [List.setIfInBounds_toArray, List.set_cons_zero, List.set_cons_succ]
              refine regB_call (i := 8) rfl (by kernel_rfl) (by rfl) fun K hK => ?_
              go_simp
              refine (fv_of (pair_any (S3 (fun k => T k ∨ k = w.heap.size + 2 ∨ k = g) u v x) base A5 (32 + 32 + 1) c5 (1 :: (dd.data.toList ++ y'.data.toList)) A7 65 c7 tb w0 _ HT0.out H0.out (HBL.out _ bW) (fun k hk => ⟨(HS.out k hk).1, Nat.lt_of_lt_of_le (HS.out k hk).2 hz⟩) (by rw [List.length_cons, List.length_append, bsize, bsize, HD32.out, HY32.out]) s5 HTLB.out s7 (by omega) (by omega) k5 m5 k7 m7 (fun b o s h hk => Nat.not_le_of_lt (HS.out _ hk).2 (n5 b o s h)) (fun b o s h hk => Nat.not_le_of_lt (HS.out _ hk).2 (n7 b o s h)))).mono ?_
              rintro e w8 ⟨N8, p8, q8, rfl, f8, hb8⟩
              have hsy := hsz
              have hsz := Nat.le_trans hsz hb8.size
              have hz := Nat.le_trans hz hb8.size
              have bW := bW.trans (hb8.mono hsy)
              have hg := hg.below hb8 hg.lt
              have hr := hr.below hb8 hr.lt
              have co := co.below hb8
              refine hK.out _ _ (hb8.mono hsy) ?_
              clear hK K
              try simp only [List.setIfInBounds_toArray, List.set_cons_zero, List.set_cons_succ]
              refine regB_call (i := 9) rfl (by kernel_rfl) (by rfl) fun K hK => ?_
              go_simp
              have hb9 : Below w8.heap.size w8 (w8.alloc (.cells #[(.func (.func N8) #[] #[.pointer (some ⟨p8, 0, none⟩), .pointer (some ⟨q8, 0, none⟩)])] 70)) := (Below.refl _ _).alloc (Nat.le_refl _) _
              have ka : At (w8.alloc (.cells #[(.func (.func N8) #[] #[.pointer (some ⟨p8, 0, none⟩), .pointer (some ⟨q8, 0, none⟩)])] 70)) w8.heap.size 70 [(.func (.func N8) #[] #[.pointer (some ⟨p8, 0, none⟩), .pointer (some ⟨q8, 0, none⟩)])] := At.new_ w8 _ 70 [(.func (.func N8) #[] #[.pointer (some ⟨p8, 0, none⟩), .pointer (some ⟨q8, 0, none⟩)])] rfl
              have hno : v.ownBlock ≠ some w8.heap.size := fun e => Nat.lt_irrefl _ (co.a2.lt _ e).2
              have hsy := hsz
              have hsz := Nat.le_trans hsz hb9.size
              have hz := Nat.le_trans hz hb9.size
              have bW := bW.trans (hb9.mono hsy)
              have hg := hg.below hb9 hg.lt
              have hr := hr.below hb9 hr.lt
              have co := co.below hb9
              have f8 := f8.below hb9
              refine hK.out _ _ (hb9.mono hsy) ?_
              clear hK K
              try simp only [List.setIfInBounds_toArray, List.set_cons_zero, List.set_cons_succ]
              refine regB_call (i := 10) rfl (by kernel_rfl) (by rfl) fun K hK => ?_
              go_simp
              refine (insert_any (w.heap.size + 2 + 1) p.length v w8.heap.size (.func (.func N8) #[] #[.pointer (some ⟨p8, 0, none⟩), .pointer (some ⟨q8, 0, none⟩)]) gs _ co.a2 (Nat.le_trans (Nat.succ_le_of_lt hrg) (Nat.le_of_lt hg.lt)) ka hno rfl co.f2.one (by omega)).mono ?_
              rintro e w10 ⟨z, rfl, hown, hgrw, hblk⟩
              have hg10 := grown_at hgrw co.a2 hg course_ne
              have hr10 := grown_at hgrw co.a2 hr course_ne
              have hb10 : Below (w.heap.size + 2) _ w10 := (Below.refl _ _).grown hgrw hsz (fun k hk => Nat.le_of_succ_le (co.a2.lt k hk).1)
              have co := co.ins2 hown hgrw hblk f8
              have bW := bW.trans hb10
              clear hg hr
              refine hK.out _ _ hb10 ?_
              clear hK K
              try simp only [List.setIfInBounds_toArray, List.set_cons_zero, List.set_cons_succ]
              refine regB_take (i := 11) (d := some 109) (v := (.pointer (some ⟨g, 3, none⟩))) rfl rfl (by kernel_rfl) (by kernel_rfl) (by kernel_rfl) (fun _ _ _ h => h) (by rfl) (by intro w' hSw; go_simp) ?_
              try simp only [Act.put, List.setIfInBounds_toArray, List.set_cons_zero, List.set_cons_succ]
              refine regB_call (i := 12) rfl (by kernel_rfl) (by rfl) fun K hK => ?_
              refine oper_storeC rfl 59 (.tmp 109) (.tmp 108) rfl g 3 rfl z rfl (own_val co.a2).2 77 _ hg10 (by kernel_rfl) (by simp) (own_val co.a2).1 ?_
              intro x12 hg12 o12
              have hr := o12.at_ hr10 (Nat.ne_of_lt hrg)
              have co := co.only o12 (.inr (.inr rfl)) hg10 course_ne
              have bW := o12.below _ _ bW (Nat.le_of_lt hrg)
              simp only [List.set_cons_zero, List.set_cons_succ] at hg12
              refine hK.out _ _ (o12.below _ _ (Below.refl _ _) (Nat.le_of_lt hrg)) ?_
              clear hK K
              try simp only [List.setIfInBounds_toArray, List.set_cons_zero, List.set_cons_succ]
              refine wpAnyH_done (by kernel_rfl) ?_ _
              go_wp2_with fail
              go_meet
              exact ⟨u, z, x, o, _ :: p, q, fs, _ :: gs, hs, hg12, hr, co, hO, Lib.hid (by show orE _ (fo p) = _; rw [hP.out]; rfl), hQ, by omega, by simp only [List.length_cons]; omega, by omega, hrg, bW⟩
            · have f9 := hg.cell 1
              simp only [List.getElem?_cons_zero, List.getElem?_cons_succ] at f9
              refine oper_yields (d := some 102) (v := (.string y')) rfl (by go_simp) ?_
              refine hK.out _ _ (Below.refl _ _) ?_
              clear hK K
              try simp only [Act.put, List.setIfInBounds_toArray, List.set_cons_zero, List.set_cons_succ]
              refine regB_two (i := 1) (j := 5) rfl rfl (by kernel_rfl) (by rfl) (by rfl) (fun K hK => ?_) (fun K hK => ?_)
              · have f9 := hg.cell 3
                simp only [List.getElem?_cons_zero, List.getElem?_cons_succ] at f9
                refine oper_yields (d := some 99) (v := v) rfl (by go_simp) ?_
                refine hK.out _ _ (Below.refl _ _) ?_
                clear hK K
                try simp only [Act.put, List.setIfInBounds_toArray, List.set_cons_zero, List.set_cons_succ]
                refine regB_call (i := 5) rfl (by kernel_rfl) (by rfl) fun K hK => ?_
                go_simp
                refine (SealW.nodeBytes_new dd y' _ (by rw [HD32.out]; omega) (by rw [HY32.out]; omega)).mono ?_
                rintro e w5 ⟨A5, c5, rfl, s5, k5, m5, n5, hb5⟩
                rw [HD32.out, HY32.out] at k5 ⊢
                have n5 := fun b o s e => Nat.le_trans hz (n5 b o s e)
                have hsy := hsz
                have hsz := Nat.le_trans hsz hb5.size
                have hz := Nat.le_trans hz hb5.size
                have bW := bW.trans (hb5.mono hsy)
                have hg := hg.below hb5 hg.lt
                have hr := hr.below hb5 hr.lt
                have co := co.below hb5
                refine hK.out _ _ (hb5.mono hsy) ?_
                clear hK K
                try simp only [List.setIfInBounds_toArray, List.set_cons_zero, List.set_cons_succ]
                refine regB_call (i := 7) rfl (by kernel_rfl) (by rfl) fun K hK => ?_
                go_simp
                refine (nodeL_any A' n c' B' d' b _ (HT.out _ bW) (HLB.out _ bW) HN2.out).mono ?_
                rintro e w7 ⟨A7, c7, rfl, s7, k7, m7, n7, hb7⟩
                rw [HTB.out] at s7
                have n7 := fun b o s e => Nat.le_trans hz (n7 b o s e)
                have s5 := s5.below hb7
                have hsy := hsz
                have hsz := Nat.le_trans hsz hb7.size
                have hz := Nat.le_trans hz hb7.size
                have bW := bW.trans (hb7.mono hsy)
                have hg := hg.below hb7 hg.lt
                have hr := hr.below hb7 hr.lt
                have co := co.below hb7
                refine hK.out _ _ (hb7.mono hsy) ?_
                clear hK K
                try simp only [List.setIfInBounds_toArray, List.set_cons_zero, List.set_cons_succ]
                refine regB_call (i := 8) rfl (by kernel_rfl) (by rfl) fun K hK => ?_
                go_simp
                refine (fv_of (pair_any (S3 (fun k => T k ∨ k = w.heap.size + 2 ∨ k = g) u v x) base A5 (32 + 32 + 1) c5 (1 :: (dd.data.toList ++ y'.data.toList)) A7 65 c7 tb w0 _ HT0.out H0.out (HBL.out _ bW) (fun k hk => ⟨(HS.out k hk).1, Nat.lt_of_lt_of_le (HS.out k hk).2 hz⟩) (by rw [List.length_cons, List.length_append, bsize, bsize, HD32.out, HY32.out]) s5 HTLB.out s7 (by omega) (by omega) k5 m5 k7 m7 (fun b o s h hk => Nat.not_le_of_lt (HS.out _ hk).2 (n5 b o s h)) (fun b o s h hk => Nat.not_le_of_lt (HS.out _ hk).2 (n7 b o s h)))).mono ?_
                rintro e w8 ⟨N8, p8, q8, rfl, f8, hb8⟩
                have hsy := hsz
                have hsz := Nat.le_trans hsz hb8.size
                have hz := Nat.le_trans hz hb8.size
                have bW := bW.trans (hb8.mono hsy)
                have hg := hg.below hb8 hg.lt
                have hr := hr.below hb8 hr.lt
                have co := co.below hb8
                refine hK.out _ _ (hb8.mono hsy) ?_
                clear hK K
                try simp only [List.setIfInBounds_toArray, List.set_cons_zero, List.set_cons_succ]
                refine regB_call (i := 9) rfl (by kernel_rfl) (by rfl) fun K hK => ?_
                go_simp
                have hb9 : Below w8.heap.size w8 (w8.alloc (.cells #[(.func (.func N8) #[] #[.pointer (some ⟨p8, 0, none⟩), .pointer (some ⟨q8, 0, none⟩)])] 70)) := (Below.refl _ _).alloc (Nat.le_refl _) _
                have ka : At (w8.alloc (.cells #[(.func (.func N8) #[] #[.pointer (some ⟨p8, 0, none⟩), .pointer (some ⟨q8, 0, none⟩)])] 70)) w8.heap.size 70 [(.func (.func N8) #[] #[.pointer (some ⟨p8, 0, none⟩), .pointer (some ⟨q8, 0, none⟩)])] := At.new_ w8 _ 70 [(.func (.func N8) #[] #[.pointer (some ⟨p8, 0, none⟩), .pointer (some ⟨q8, 0, none⟩)])] rfl
                have hno : v.ownBlock ≠ some w8.heap.size := fun e => Nat.lt_irrefl _ (co.a2.lt _ e).2
                have hsy := hsz
                have hsz := Nat.le_trans hsz hb9.size
                have hz := Nat.le_trans hz hb9.size
                have bW := bW.trans (hb9.mono hsy)
                have hg := hg.below hb9 hg.lt
                have hr := hr.below hb9 hr.lt
                have co := co.below hb9
                have f8 := f8.below hb9
                refine hK.out _ _ (hb9.mono hsy) ?_
                clear hK K
                try simp only [List.setIfInBounds_toArray, List.set_cons_zero, List.set_cons_succ]
                refine regB_call (i := 10) rfl (by kernel_rfl) (by rfl) fun K hK => ?_
                go_simp
                refine (insert_any (w.heap.size + 2 + 1) p.length v w8.heap.size (.func (.func N8) #[] #[.pointer (some ⟨p8, 0, none⟩), .pointer (some ⟨q8, 0, none⟩)]) gs _ co.a2 (Nat.le_trans (Nat.succ_le_of_lt hrg) (Nat.le_of_lt hg.lt)) ka hno rfl co.f2.one (by omega)).mono ?_
                rintro e w10 ⟨z, rfl, hown, hgrw, hblk⟩
                have hg10 := grown_at hgrw co.a2 hg course_ne
                have hr10 := grown_at hgrw co.a2 hr course_ne
                have hb10 : Below (w.heap.size + 2) _ w10 := (Below.refl _ _).grown hgrw hsz (fun k hk => Nat.le_of_succ_le (co.a2.lt k hk).1)
                have co := co.ins2 hown hgrw hblk f8
                have bW := bW.trans hb10
                clear hg hr
                refine hK.out _ _ hb10 ?_
                clear hK K
                try simp only [List.setIfInBounds_toArray, List.set_cons_zero, List.set_cons_succ]
                refine regB_take (i := 11) (d := some 109) (v := (.pointer (some ⟨g, 3, none⟩))) rfl rfl (by kernel_rfl) (by kernel_rfl) (by kernel_rfl) (fun _ _ _ h => h) (by rfl) (by intro w' hSw; go_simp) ?_
                try simp only [Act.put, List.setIfInBounds_toArray, List.set_cons_zero, List.set_cons_succ]
                refine regB_call (i := 12) rfl (by kernel_rfl) (by rfl) fun K hK => ?_
                refine oper_storeC rfl 59 (.tmp 109) (.tmp 108) rfl g 3 rfl z rfl (own_val co.a2).2 77 _ hg10 (by kernel_rfl) (by simp) (own_val co.a2).1 ?_
                intro x12 hg12 o12
                have hr := o12.at_ hr10 (Nat.ne_of_lt hrg)
                have co := co.only o12 (.inr (.inr rfl)) hg10 course_ne
                have bW := o12.below _ _ bW (Nat.le_of_lt hrg)
                simp only [List.set_cons_zero, List.set_cons_succ] at hg12
                refine hK.out _ _ (o12.below _ _ (Below.refl _ _) (Nat.le_of_lt hrg)) ?_
                clear hK K
                try simp only [List.setIfInBounds_toArray, List.set_cons_zero, List.set_cons_succ]
                refine wpAnyH_done (by kernel_rfl) ?_ _
                go_wp2_with fail
                go_meet
                exact ⟨u, z, x, o, _ :: p, q, fs, _ :: gs, hs, hg12, hr, co, hO, Lib.hid (by show orE _ (fo p) = _; rw [hP.out]; rfl), hQ, by omega, by simp only [List.length_cons]; omega, by omega, hrg, bW⟩
              · go_simp
                refine (SealW.nodeBytes_new dd y' _ (by rw [HD32.out]; omega) (by rw [HY32.out]; omega)).mono ?_
                rintro e w5 ⟨A5, c5, rfl, s5, k5, m5, n5, hb5⟩
                rw [HD32.out, HY32.out] at k5 ⊢
                have n5 := fun b o s e => Nat.le_trans hz (n5 b o s e)
                have hsy := hsz
                have hsz := Nat.le_trans hsz hb5.size
                have hz := Nat.le_trans hz hb5.size
                have bW := bW.trans (hb5.mono hsy)
                have hg := hg.below hb5 hg.lt
                have hr := hr.below hb5 hr.lt
                have co := co.below hb5
                refine hK.out _ _ (hb5.mono hsy) ?_
                clear hK K
                try simp only [List.setIfInBounds_toArray, List.set_cons_zero, List.set_cons_succ]
                refine regB_two (i := 1) (j := 7) rfl rfl (by kernel_rfl) (by rfl) (by rfl) (fun K hK => ?_) (fun K hK => ?_)
                · have f9 := hg.cell 3
                  simp only [List.getElem?_cons_zero, List.getElem?_cons_succ] at f9
                  refine oper_yields (d := some 99) (v := v) rfl (by go_simp) ?_
                  refine hK.out _ _ (Below.refl _ _) ?_
                  clear hK K
                  try simp only [Act.put, List.setIfInBounds_toArray, List.set_cons_zero, List.set_cons_succ]
                  refine regB_call (i := 7) rfl (by kernel_rfl) (by rfl) fun K hK => ?_
                  go_simp
                  refine (nodeL_any A' n c' B' d' b _ (HT.out _ bW) (HLB.out _ bW) HN2.out).mono ?_
                  rintro e w7 ⟨A7, c7, rfl, s7, k7, m7, n7, hb7⟩
                  rw [HTB.out] at s7
                  have n7 := fun b o s e => Nat.le_trans hz (n7 b o s e)
                  have s5 := s5.below hb7
                  have hsy := hsz
                  have hsz := Nat.le_trans hsz hb7.size
                  have hz := Nat.le_trans hz hb7.size
                  have bW := bW.trans (hb7.mono hsy)
                  have hg := hg.below hb7 hg.lt
                  have hr := hr.below hb7 hr.lt
                  have co := co.below hb7
                  refine hK.out _ _ (hb7.mono hsy) ?_
                  clear hK K
                  try simp only [List.setIfInBounds_toArray, List.set_cons_zero, List.set_cons_succ]
                  refine regB_call (i := 8) rfl (by kernel_rfl) (by rfl) fun K hK => ?_
                  go_simp
                  refine (fv_of (pair_any (S3 (fun k => T k ∨ k = w.heap.size + 2 ∨ k = g) u v x) base A5 (32 + 32 + 1) c5 (1 :: (dd.data.toList ++ y'.data.toList)) A7 65 c7 tb w0 _ HT0.out H0.out (HBL.out _ bW) (fun k hk => ⟨(HS.out k hk).1, Nat.lt_of_lt_of_le (HS.out k hk).2 hz⟩) (by rw [List.length_cons, List.length_append, bsize, bsize, HD32.out, HY32.out]) s5 HTLB.out s7 (by omega) (by omega) k5 m5 k7 m7 (fun b o s h hk => Nat.not_le_of_lt (HS.out _ hk).2 (n5 b o s h)) (fun b o s h hk => Nat.not_le_of_lt (HS.out _ hk).2 (n7 b o s h)))).mono ?_
                  rintro e w8 ⟨N8, p8, q8, rfl, f8, hb8⟩
                  have hsy := hsz
                  have hsz := Nat.le_trans hsz hb8.size
                  have hz := Nat.le_trans hz hb8.size
                  have bW := bW.trans (hb8.mono hsy)
                  have hg := hg.below hb8 hg.lt
                  have hr := hr.below hb8 hr.lt
                  have co := co.below hb8
                  refine hK.out _ _ (hb8.mono hsy) ?_
                  clear hK K
                  try simp only [List.setIfInBounds_toArray, List.set_cons_zero, List.set_cons_succ]
                  refine regB_call (i := 9) rfl (by kernel_rfl) (by rfl) fun K hK => ?_
                  go_simp
                  have hb9 : Below w8.heap.size w8 (w8.alloc (.cells #[(.func (.func N8) #[] #[.pointer (some ⟨p8, 0, none⟩), .pointer (some ⟨q8, 0, none⟩)])] 70)) := (Below.refl _ _).alloc (Nat.le_refl _) _
                  have ka : At (w8.alloc (.cells #[(.func (.func N8) #[] #[.pointer (some ⟨p8, 0, none⟩), .pointer (some ⟨q8, 0, none⟩)])] 70)) w8.heap.size 70 [(.func (.func N8) #[] #[.pointer (some ⟨p8, 0, none⟩), .pointer (some ⟨q8, 0, none⟩)])] := At.new_ w8 _ 70 [(.func (.func N8) #[] #[.pointer (some ⟨p8, 0, none⟩), .pointer (some ⟨q8, 0, none⟩)])] rfl
                  have hno : v.ownBlock ≠ some w8.heap.size := fun e => Nat.lt_irrefl _ (co.a2.lt _ e).2
                  have hsy := hsz
                  have hsz := Nat.le_trans hsz hb9.size
                  have hz := Nat.le_trans hz hb9.size
                  have bW := bW.trans (hb9.mono hsy)
                  have hg := hg.below hb9 hg.lt
                  have hr := hr.below hb9 hr.lt
                  have co := co.below hb9
                  have f8 := f8.below hb9
                  refine hK.out _ _ (hb9.mono hsy) ?_
                  clear hK K
                  try simp only [List.setIfInBounds_toArray, List.set_cons_zero, List.set_cons_succ]
                  refine regB_call (i := 10) rfl (by kernel_rfl) (by rfl) fun K hK => ?_
                  go_simp
                  refine (insert_any (w.heap.size + 2 + 1) p.length v w8.heap.size (.func (.func N8) #[] #[.pointer (some ⟨p8, 0, none⟩), .pointer (some ⟨q8, 0, none⟩)]) gs _ co.a2 (Nat.le_trans (Nat.succ_le_of_lt hrg) (Nat.le_of_lt hg.lt)) ka hno rfl co.f2.one (by omega)).mono ?_
                  rintro e w10 ⟨z, rfl, hown, hgrw, hblk⟩
                  have hg10 := grown_at hgrw co.a2 hg course_ne
                  have hr10 := grown_at hgrw co.a2 hr course_ne
                  have hb10 : Below (w.heap.size + 2) _ w10 := (Below.refl _ _).grown hgrw hsz (fun k hk => Nat.le_of_succ_le (co.a2.lt k hk).1)
                  have co := co.ins2 hown hgrw hblk f8
                  have bW := bW.trans hb10
                  clear hg hr
                  refine hK.out _ _ hb10 ?_
                  clear hK K
                  try simp only [List.setIfInBounds_toArray, List.set_cons_zero, List.set_cons_succ]
                  refine regB_take (i := 11) (d := some 109) (v := (.pointer (some ⟨g, 3, none⟩))) rfl rfl (by kernel_rfl) (by kernel_rfl) (by kernel_rfl) (fun _ _ _ h => h) (by rfl) (by intro w' hSw; go_simp) ?_
                  try simp only [Act.put, List.setIfInBounds_toArray, List.set_cons_zero, List.set_cons_succ]
                  refine regB_call (i := 12) rfl (by kernel_rfl) (by rfl) fun K hK => ?_
                  refine oper_storeC rfl 59 (.tmp 109) (.tmp 108) rfl g 3 rfl z rfl (own_val co.a2).2 77 _ hg10 (by kernel_rfl) (by simp) (own_val co.a2).1 ?_
                  intro x12 hg12 o12
                  have hr := o12.at_ hr10 (Nat.ne_of_lt hrg)
                  have co := co.only o12 (.inr (.inr rfl)) hg10 course_ne
                  have bW := o12.below _ _ bW (Nat.le_of_lt hrg)
                  simp only [List.set_cons_zero, List.set_cons_succ] at hg12
                  refine hK.out _ _ (o12.below _ _ (Below.refl _ _) (Nat.le_of_lt hrg)) ?_
                  clear hK K
                  try simp only [List.setIfInBounds_toArray, List.set_cons_zero, List.set_cons_succ]
                  refine wpAnyH_done (by kernel_rfl) ?_ _
                  go_wp2_with fail
                  go_meet
                  exact ⟨u, z, x, o, _ :: p, q, fs, _ :: gs, hs, hg12, hr, co, hO, Lib.hid (by show orE _ (fo p) = _; rw [hP.out]; rfl), hQ, by omega, by simp only [List.length_cons]; omega, by omega, hrg, bW⟩
                · go_simp
                  refine (nodeL_any A' n c' B' d' b _ (HT.out _ bW) (HLB.out _ bW) HN2.out).mono ?_
                  rintro e w7 ⟨A7, c7, rfl, s7, k7, m7, n7, hb7⟩
                  rw [HTB.out] at s7
                  have n7 := fun b o s e => Nat.le_trans hz (n7 b o s e)
                  have s5 := s5.below hb7
                  have hsy := hsz
                  have hsz := Nat.le_trans hsz hb7.size
                  have hz := Nat.le_trans hz hb7.size
                  have bW := bW.trans (hb7.mono hsy)
                  have hg := hg.below hb7 hg.lt
                  have hr := hr.below hb7 hr.lt
                  have co := co.below hb7
                  refine hK.out _ _ (hb7.mono hsy) ?_
                  clear hK K
                  try simp only [List.setIfInBounds_toArray, List.set_cons_zero, List.set_cons_succ]
                  refine regB_two (i := 1) (j := 8) rfl rfl (by kernel_rfl) (by rfl) (by rfl) (fun K hK => ?_) (fun K hK => ?_)
                  · have f9 := hg.cell 3
                    simp only [List.getElem?_cons_zero, List.getElem?_cons_succ] at f9
                    refine oper_yields (d := some 99) (v := v) rfl (by go_simp) ?_
                    refine hK.out _ _ (Below.refl _ _) ?_
                    clear hK K
                    try simp only [Act.put, List.setIfInBounds_toArray, List.set_cons_zero, List.set_cons_succ]
                    refine regB_call (i := 8) rfl (by kernel_rfl) (by rfl) fun K hK => ?_
                    go_simp
                    refine (fv_of (pair_any (S3 (fun k => T k ∨ k = w.heap.size + 2 ∨ k = g) u v x) base A5 (32 + 32 + 1) c5 (1 :: (dd.data.toList ++ y'.data.toList)) A7 65 c7 tb w0 _ HT0.out H0.out (HBL.out _ bW) (fun k hk => ⟨(HS.out k hk).1, Nat.lt_of_lt_of_le (HS.out k hk).2 hz⟩) (by rw [List.length_cons, List.length_append, bsize, bsize, HD32.out, HY32.out]) s5 HTLB.out s7 (by omega) (by omega) k5 m5 k7 m7 (fun b o s h hk => Nat.not_le_of_lt (HS.out _ hk).2 (n5 b o s h)) (fun b o s h hk => Nat.not_le_of_lt (HS.out _ hk).2 (n7 b o s h)))).mono ?_
                    rintro e w8 ⟨N8, p8, q8, rfl, f8, hb8⟩
                    have hsy := hsz
                    have hsz := Nat.le_trans hsz hb8.size
                    have hz := Nat.le_trans hz hb8.size
                    have bW := bW.trans (hb8.mono hsy)
                    have hg := hg.below hb8 hg.lt
                    have hr := hr.below hb8 hr.lt
                    have co := co.below hb8
                    refine hK.out _ _ (hb8.mono hsy) ?_
                    clear hK K
                    try simp only [List.setIfInBounds_toArray, List.set_cons_zero, List.set_cons_succ]
                    refine regB_call (i := 9) rfl (by kernel_rfl) (by rfl) fun K hK => ?_
                    go_simp
                    have hb9 : Below w8.heap.size w8 (w8.alloc (.cells #[(.func (.func N8) #[] #[.pointer (some ⟨p8, 0, none⟩), .pointer (some ⟨q8, 0, none⟩)])] 70)) := (Below.refl _ _).alloc (Nat.le_refl _) _
                    have ka : At (w8.alloc (.cells #[(.func (.func N8) #[] #[.pointer (some ⟨p8, 0, none⟩), .pointer (some ⟨q8, 0, none⟩)])] 70)) w8.heap.size 70 [(.func (.func N8) #[] #[.pointer (some ⟨p8, 0, none⟩), .pointer (some ⟨q8, 0, none⟩)])] := At.new_ w8 _ 70 [(.func (.func N8) #[] #[.pointer (some ⟨p8, 0, none⟩), .pointer (some ⟨q8, 0, none⟩)])] rfl
                    have hno : v.ownBlock ≠ some w8.heap.size := fun e => Nat.lt_irrefl _ (co.a2.lt _ e).2
                    have hsy := hsz
                    have hsz := Nat.le_trans hsz hb9.size
                    have hz := Nat.le_trans hz hb9.size
                    have bW := bW.trans (hb9.mono hsy)
                    have hg := hg.below hb9 hg.lt
                    have hr := hr.below hb9 hr.lt
                    have co := co.below hb9
                    have f8 := f8.below hb9
                    refine hK.out _ _ (hb9.mono hsy) ?_
                    clear hK K
                    try simp only [List.setIfInBounds_toArray, List.set_cons_zero, List.set_cons_succ]
                    refine regB_call (i := 10) rfl (by kernel_rfl) (by rfl) fun K hK => ?_
                    go_simp
                    refine (insert_any (w.heap.size + 2 + 1) p.length v w8.heap.size (.func (.func N8) #[] #[.pointer (some ⟨p8, 0, none⟩), .pointer (some ⟨q8, 0, none⟩)]) gs _ co.a2 (Nat.le_trans (Nat.succ_le_of_lt hrg) (Nat.le_of_lt hg.lt)) ka hno rfl co.f2.one (by omega)).mono ?_
                    rintro e w10 ⟨z, rfl, hown, hgrw, hblk⟩
                    have hg10 := grown_at hgrw co.a2 hg course_ne
                    have hr10 := grown_at hgrw co.a2 hr course_ne
                    have hb10 : Below (w.heap.size + 2) _ w10 := (Below.refl _ _).grown hgrw hsz (fun k hk => Nat.le_of_succ_le (co.a2.lt k hk).1)
                    have co := co.ins2 hown hgrw hblk f8
                    have bW := bW.trans hb10
                    clear hg hr
                    refine hK.out _ _ hb10 ?_
                    clear hK K
                    try simp only [List.setIfInBounds_toArray, List.set_cons_zero, List.set_cons_succ]
                    refine regB_take (i := 11) (d := some 109) (v := (.pointer (some ⟨g, 3, none⟩))) rfl rfl (by kernel_rfl) (by kernel_rfl) (by kernel_rfl) (fun _ _ _ h => h) (by rfl) (by intro w' hSw; go_simp) ?_
                    try simp only [Act.put, List.setIfInBounds_toArray, List.set_cons_zero, List.set_cons_succ]
                    refine regB_call (i := 12) rfl (by kernel_rfl) (by rfl) fun K hK => ?_
                    refine oper_storeC rfl 59 (.tmp 109) (.tmp 108) rfl g 3 rfl z rfl (own_val co.a2).2 77 _ hg10 (by kernel_rfl) (by simp) (own_val co.a2).1 ?_
                    intro x12 hg12 o12
                    have hr := o12.at_ hr10 (Nat.ne_of_lt hrg)
                    have co := co.only o12 (.inr (.inr rfl)) hg10 course_ne
                    have bW := o12.below _ _ bW (Nat.le_of_lt hrg)
                    simp only [List.set_cons_zero, List.set_cons_succ] at hg12
                    refine hK.out _ _ (o12.below _ _ (Below.refl _ _) (Nat.le_of_lt hrg)) ?_
                    clear hK K
                    try simp only [List.setIfInBounds_toArray, List.set_cons_zero, List.set_cons_succ]
                    refine wpAnyH_done (by kernel_rfl) ?_ _
                    go_wp2_with fail
                    go_meet
                    exact ⟨u, z, x, o, _ :: p, q, fs, _ :: gs, hs, hg12, hr, co, hO, Lib.hid (by show orE _ (fo p) = _; rw [hP.out]; rfl), hQ, by omega, by simp only [List.length_cons]; omega, by omega, hrg, bW⟩
                  · go_simp
                    refine (fv_of (pair_any (S3 (fun k => T k ∨ k = w.heap.size + 2 ∨ k = g) u v x) base A5 (32 + 32 + 1) c5 (1 :: (dd.data.toList ++ y'.data.toList)) A7 65 c7 tb w0 _ HT0.out H0.out (HBL.out _ bW) (fun k hk => ⟨(HS.out k hk).1, Nat.lt_of_lt_of_le (HS.out k hk).2 hz⟩) (by rw [List.length_cons, List.length_append, bsize, bsize, HD32.out, HY32.out]) s5 HTLB.out s7 (by omega) (by omega) k5 m5 k7 m7 (fun b o s h hk => Nat.not_le_of_lt (HS.out _ hk).2 (n5 b o s h)) (fun b o s h hk => Nat.not_le_of_lt (HS.out _ hk).2 (n7 b o s h)))).mono ?_
                    rintro e w8 ⟨N8, p8, q8, rfl, f8, hb8⟩
                    have hsy := hsz
                    have hsz := Nat.le_trans hsz hb8.size
                    have hz := Nat.le_trans hz hb8.size
                    have bW := bW.trans (hb8.mono hsy)
                    have hg := hg.below hb8 hg.lt
                    have hr := hr.below hb8 hr.lt
                    have co := co.below hb8
                    refine hK.out _ _ (hb8.mono hsy) ?_
                    clear hK K
                    try simp only [List.setIfInBounds_toArray, List.set_cons_zero, List.set_cons_succ]
                    refine regB_two (i := 1) (j := 9) rfl rfl (by kernel_rfl) (by rfl) (by rfl) (fun K hK => ?_) (fun K hK => ?_)
                    · have f9 := hg.cell 3
                      simp only [List.getElem?_cons_zero, List.getElem?_cons_succ] at f9
                      refine oper_yields (d := some 99) (v := v) rfl (by go_simp) ?_
                      refine hK.out _ _ (Below.refl _ _) ?_
                      clear hK K
                      try simp only [Act.put, List.setIfInBounds_toArray, List.set_cons_zero, List.set_cons_succ]
                      refine regB_call (i := 9) rfl (by kernel_rfl) (by rfl) fun K hK => ?_
                      go_simp
                      have hb9 : Below w8.heap.size w8 (w8.alloc (.cells #[(.func (.func N8) #[] #[.pointer (some ⟨p8, 0, none⟩), .pointer (some ⟨q8, 0, none⟩)])] 70)) := (Below.refl _ _).alloc (Nat.le_refl _) _
                      have ka : At (w8.alloc (.cells #[(.func (.func N8) #[] #[.pointer (some ⟨p8, 0, none⟩), .pointer (some ⟨q8, 0, none⟩)])] 70)) w8.heap.size 70 [(.func (.func N8) #[] #[.pointer (some ⟨p8, 0, none⟩), .pointer (some ⟨q8, 0, none⟩)])] := At.new_ w8 _ 70 [(.func (.func N8) #[] #[.pointer (some ⟨p8, 0, none⟩), .pointer (some ⟨q8, 0, none⟩)])] rfl
                      have hno : v.ownBlock ≠ some w8.heap.size := fun e => Nat.lt_irrefl _ (co.a2.lt _ e).2
                      have hsy := hsz
                      have hsz := Nat.le_trans hsz hb9.size
                      have hz := Nat.le_trans hz hb9.size
                      have bW := bW.trans (hb9.mono hsy)
                      have hg := hg.below hb9 hg.lt
                      have hr := hr.below hb9 hr.lt
                      have co := co.below hb9
                      have f8 := f8.below hb9
                      refine hK.out _ _ (hb9.mono hsy) ?_
                      clear hK K
                      try simp only [List.setIfInBounds_toArray, List.set_cons_zero, List.set_cons_succ]
                      refine regB_call (i := 10) rfl (by kernel_rfl) (by rfl) fun K hK => ?_
                      go_simp
                      refine (insert_any (w.heap.size + 2 + 1) p.length v w8.heap.size (.func (.func N8) #[] #[.pointer (some ⟨p8, 0, none⟩), .pointer (some ⟨q8, 0, none⟩)]) gs _ co.a2 (Nat.le_trans (Nat.succ_le_of_lt hrg) (Nat.le_of_lt hg.lt)) ka hno rfl co.f2.one (by omega)).mono ?_
                      rintro e w10 ⟨z, rfl, hown, hgrw, hblk⟩
                      have hg10 := grown_at hgrw co.a2 hg course_ne
                      have hr10 := grown_at hgrw co.a2 hr course_ne
                      have hb10 : Below (w.heap.size + 2) _ w10 := (Below.refl _ _).grown hgrw hsz (fun k hk => Nat.le_of_succ_le (co.a2.lt k hk).1)
                      have co := co.ins2 hown hgrw hblk f8
                      have bW := bW.trans hb10
                      clear hg hr
                      refine hK.out _ _ hb10 ?_
                      clear hK K
                      try simp only [List.setIfInBounds_toArray, List.set_cons_zero, List.set_cons_succ]
                      refine regB_take (i := 11) (d := some 109) (v := (.pointer (some ⟨g, 3, none⟩))) rfl rfl (by kernel_rfl) (by kernel_rfl) (by kernel_rfl) (fun _ _ _ h => h) (by rfl) (by intro w' hSw; go_simp) ?_
                      try simp only [Act.put, List.setIfInBounds_toArray, List.set_cons_zero, List.set_cons_succ]
                      refine regB_call (i := 12) rfl (by kernel_rfl) (by rfl) fun K hK => ?_
                      refine oper_storeC rfl 59 (.tmp 109) (.tmp 108) rfl g 3 rfl z rfl (own_val co.a2).2 77 _ hg10 (by kernel_rfl) (by simp) (own_val co.a2).1 ?_
                      intro x12 hg12 o12
                      have hr := o12.at_ hr10 (Nat.ne_of_lt hrg)
                      have co := co.only o12 (.inr (.inr rfl)) hg10 course_ne
                      have bW := o12.below _ _ bW (Nat.le_of_lt hrg)
                      simp only [List.set_cons_zero, List.set_cons_succ] at hg12
                      refine hK.out _ _ (o12.below _ _ (Below.refl _ _) (Nat.le_of_lt hrg)) ?_
                      clear hK K
                      try simp only [List.setIfInBounds_toArray, List.set_cons_zero, List.set_cons_succ]
                      refine wpAnyH_done (by kernel_rfl) ?_ _
                      go_wp2_with fail
                      go_meet
                      exact ⟨u, z, x, o, _ :: p, q, fs, _ :: gs, hs, hg12, hr, co, hO, Lib.hid (by show orE _ (fo p) = _; rw [hP.out]; rfl), hQ, by omega, by simp only [List.length_cons]; omega, by omega, hrg, bW⟩
                    · go_simp
                      have hb9 : Below w8.heap.size w8 (w8.alloc (.cells #[(.func (.func N8) #[] #[.pointer (some ⟨p8, 0, none⟩), .pointer (some ⟨q8, 0, none⟩)])] 70)) := (Below.refl _ _).alloc (Nat.le_refl _) _
                      have ka : At (w8.alloc (.cells #[(.func (.func N8) #[] #[.pointer (some ⟨p8, 0, none⟩), .pointer (some ⟨q8, 0, none⟩)])] 70)) w8.heap.size 70 [(.func (.func N8) #[] #[.pointer (some ⟨p8, 0, none⟩), .pointer (some ⟨q8, 0, none⟩)])] := At.new_ w8 _ 70 [(.func (.func N8) #[] #[.pointer (some ⟨p8, 0, none⟩), .pointer (some ⟨q8, 0, none⟩)])] rfl
                      have hno : v.ownBlock ≠ some w8.heap.size := fun e => Nat.lt_irrefl _ (co.a2.lt _ e).2
                      have hsy := hsz
                      have hsz := Nat.le_trans hsz hb9.size
                      have hz := Nat.le_trans hz hb9.size
                      have bW := bW.trans (hb9.mono hsy)
                      have hg := hg.below hb9 hg.lt
                      have hr := hr.below hb9 hr.lt
                      have co := co.below hb9
                      have f8 := f8.below hb9
                      refine hK.out _ _ (hb9.mono hsy) ?_
                      clear hK K
                      try simp only [List.setIfInBounds_toArray, List.set_cons_zero, List.set_cons_succ]
                      refine regB_call (i := 1) rfl (by kernel_rfl) (by rfl) fun K hK => ?_
                      have f9 := hg.cell 3
                      simp only [List.getElem?_cons_zero, List.getElem?_cons_succ] at f9
                      refine oper_yields (d := some 99) (v := v) rfl (by go_simp) ?_
                      refine hK.out _ _ (Below.refl _ _) ?_
                      clear hK K
                      try simp only [Act.put, List.setIfInBounds_toArray, List.set_cons_zero, List.set_cons_succ]
                      refine regB_call (i := 10) rfl (by kernel_rfl) (by rfl) fun K hK => ?_
                      go_simp
                      refine (insert_any (w.heap.size + 2 + 1) p.length v w8.heap.size (.func (.func N8) #[] #[.pointer (some ⟨p8, 0, none⟩), .pointer (some ⟨q8, 0, none⟩)]) gs _ co.a2 (Nat.le_trans (Nat.succ_le_of_lt hrg) (Nat.le_of_lt hg.lt)) ka hno rfl co.f2.one (by omega)).mono ?_
                      rintro e w10 ⟨z, rfl, hown, hgrw, hblk⟩
                      have hg10 := grown_at hgrw co.a2 hg course_ne
                      have hr10 := grown_at hgrw co.a2 hr course_ne
                      have hb10 : Below (w.heap.size + 2) _ w10 := (Below.refl _ _).grown hgrw hsz (fun k hk => Nat.le_of_succ_le (co.a2.lt k hk).1)
                      have co := co.ins2 hown hgrw hblk f8
                      have bW := bW.trans hb10
                      clear hg hr
                      refine hK.out _ _ hb10 ?_
                      clear hK K
                      try simp only [List.setIfInBounds_toArray, List.set_cons_zero, List.set_cons_succ]
                      refine regB_take (i := 11) (d := some 109) (v := (.pointer (some ⟨g, 3, none⟩))) rfl rfl (by kernel_rfl) (by kernel_rfl) (by kernel_rfl) (fun _ _ _ h => h) (by rfl) (by intro w' hSw; go_simp) ?_
                      try simp only [Act.put, List.setIfInBounds_toArray, List.set_cons_zero, List.set_cons_succ]
                      refine regB_call (i := 12) rfl (by kernel_rfl) (by rfl) fun K hK => ?_
                      refine oper_storeC rfl 59 (.tmp 109) (.tmp 108) rfl g 3 rfl z rfl (own_val co.a2).2 77 _ hg10 (by kernel_rfl) (by simp) (own_val co.a2).1 ?_
                      intro x12 hg12 o12
                      have hr := o12.at_ hr10 (Nat.ne_of_lt hrg)
                      have co := co.only o12 (.inr (.inr rfl)) hg10 course_ne
                      have bW := o12.below _ _ bW (Nat.le_of_lt hrg)
                      simp only [List.set_cons_zero, List.set_cons_succ] at hg12
                      refine hK.out _ _ (o12.below _ _ (Below.refl _ _) (Nat.le_of_lt hrg)) ?_
                      clear hK K
                      try simp only [List.setIfInBounds_toArray, List.set_cons_zero, List.set_cons_succ]
                      refine wpAnyH_done (by kernel_rfl) ?_ _
                      go_wp2_with fail
                      go_meet
                      exact ⟨u, z, x, o, _ :: p, q, fs, _ :: gs, hs, hg12, hr, co, hO, Lib.hid (by show orE _ (fo p) = _; rw [hP.out]; rfl), hQ, by omega, by simp only [List.length_cons]; omega, by omega, hrg, bW⟩
          case rest =>
            clear hcs
            have hcs := hcut
            clear hcut
            go_upto_region 16 with fail
            go_cut [] (fun wc => CS (fun k => T k ∨ k = w.heap.size + 2 ∨ k = g) (w.heap.size + 2) g x' y' (orE (btw sha (nb dd x') ta) O1) (orE (btw sha (nb dd y') tb) P1) (orE (tc (a.take k) (b.take k)) Q1) (3 * (n - k) + 3) Wz wc)
            case first =>
              obtain ⟨u, v, x, o, p, q, fs, gs, hs, hg, hr, co, hO, hP, hQ, lno, lnp, lnq, hrg, bW⟩ := hcs
              have HS := Lib.hid (co.into2 HBZ.out HTT.out hr.lt hrg hg.lt)
              have hz := Nat.le_refl wc.heap.size
              have hsz : w.heap.size + 2 ≤ wc.heap.size := Nat.le_of_lt hr.lt
              have hb0 : Below wc.heap.size wc wc.drew := (Below.refl _ _).drew
              have hg := hg.drew
              have hr := hr.drew
              have co := co.below hb0
              have bW := bW.drew
              clear hb0
              refine regB_begin (w.heap.size + 2) (by kernel_rfl) ?_
              change wpAnyH _ _ _ _ _ 13 #[false, false, false, false, false, false, false, false, false, false, false, false, false] _ _
              refine regB_take (i := 0) (d := some 110) (v := (.pointer (some ⟨g, 4, none⟩))) rfl rfl (by kernel_rfl) (by kernel_rfl) (by kernel_rfl) (fun _ _ _ h => h) (by rfl) (by intro w' hSw; go_simp) ?_
              try simp only [Act.put, List.setIfInBounds_toArray, List.set_cons_zero, List.set_cons_succ]
              refine regB_take (i := 2) (d := some 112) (v := (.agg #[.slice A m c, .slice B m d])) rfl rfl (by kernel_rfl) (by kernel_rfl) (by kernel_rfl) (fun _ _ _ h => h) (by rfl) (by intro w' hSw; have f0 := HA0.out w' (bW.trans hSw); have f1 := HA1.out w' (bW.trans hSw); go_simp) ?_
              try simp only [Act.put, List.setIfInBounds_toArray, List.set_cons_zero, List.set_cons_succ]
              refine regB_take (i := 3) (d := some 113) (v := (.int .i64 (k : Int))) rfl rfl (by kernel_rfl) (by kernel_rfl) (by kernel_rfl) (fun _ _ _ h => h) (by rfl) (by intro w' hSw; go_simp) ?_
              try simp only [Act.put, List.setIfInBounds_toArray, List.set_cons_zero, List.set_cons_succ]
              refine regB_take (i := 5) (d := some 115) (v := (.agg #[.slice A' n c', .slice B' n d'])) rfl rfl (by kernel_rfl) (by kernel_rfl) (by kernel_rfl) (fun _ _ _ h => h) (by rfl) (by intro w' hSw; have f0 := HB0.out w' (bW.trans hSw); have f1 := HB1.out w' (bW.trans hSw); go_simp) ?_
              try simp only [Act.put, List.setIfInBounds_toArray, List.set_cons_zero, List.set_cons_succ]
              refine regB_take (i := 6) (d := some 116) (v := (.int .i64 (k : Int))) rfl rfl (by kernel_rfl) (by kernel_rfl) (by kernel_rfl) (fun _ _ _ h => h) (by rfl) (by intro w' hSw; go_simp) ?_
              try simp only [Act.put, List.setIfInBounds_toArray, List.set_cons_zero, List.set_cons_succ]
              refine regB_two (i := 1) (j := 4) rfl rfl (by kernel_rfl) (by rfl) (by rfl) (fun K hK => ?_) (fun K hK => ?_)
              · have f9 := hg.cell 4
                simp only [List.getElem?_cons_zero, List.getElem?_cons_succ] at f9
                refine oper_yields (d := some 111) (v := x) rfl (by go_simp) ?_
                refine hK.out _ _ (Below.refl _ _) ?_
                clear hK K
                try simp only [Act.put, List.setIfInBounds_toArray, List.set_cons_zero, List.set_cons_succ]
                refine regB_call (i := 4) rfl (by kernel_rfl) (by rfl) fun K hK => ?_
                go_simp
                refine (start_any A m c B d k a w0 _ LA_.out (by omega)).mono ?_
                rintro e w5 ⟨A5, c5, B5, d5, rfl, la5, hb5⟩
                have hsy := hsz
                have hsz := Nat.le_trans hsz hb5.size
                have hz := Nat.le_trans hz hb5.size
                have bW := bW.trans (hb5.mono hsy)
                have hg := hg.below hb5 hg.lt
                have hr := hr.below hb5 hr.lt
                have co := co.below hb5
                refine hK.out _ _ (hb5.mono hsy) ?_
                clear hK K
                try simp only [List.setIfInBounds_toArray, List.set_cons_zero, List.set_cons_succ]
                refine regB_call (i := 7) rfl (by kernel_rfl) (by rfl) fun K hK => ?_
                go_simp
                refine (start_any A' n c' B' d' k b w0 _ LB_.out (by omega)).mono ?_
                rintro e w7 ⟨A7, c7, B7, d7, rfl, la7, hb7⟩
                have hsy := hsz
                have hsz := Nat.le_trans hsz hb7.size
                have hz := Nat.le_trans hz hb7.size
                have bW := bW.trans (hb7.mono hsy)
                have hg := hg.below hb7 hg.lt
                have hr := hr.below hb7 hr.lt
                have co := co.below hb7
                refine hK.out _ _ (hb7.mono hsy) ?_
                clear hK K
                try simp only [List.setIfInBounds_toArray, List.set_cons_zero, List.set_cons_succ]
                refine regB_call (i := 8) rfl (by kernel_rfl) (by rfl) fun K hK => ?_
                go_simp
                refine (fv_of (lists_any k (S3 (fun k => T k ∨ k = w.heap.size + 2 ∨ k = g) u v x) base A5 k c5 B5 d5 A7 c7 B7 d7 (a.take k) (b.take k) w0 _ HT0.out H0.out (HBL.out _ bW) (fun k hk => ⟨(HS.out k hk).1, Nat.lt_of_lt_of_le (HS.out k hk).2 hz⟩) la5 la7 kp (Nat.le_refl _))).mono ?_
                rintro e w8 ⟨N8, p8, q8, rfl, f8, hb8⟩
                have hsy := hsz
                have hsz := Nat.le_trans hsz hb8.size
                have hz := Nat.le_trans hz hb8.size
                have bW := bW.trans (hb8.mono hsy)
                have hg := hg.below hb8 hg.lt
                have hr := hr.below hb8 hr.lt
                have co := co.below hb8
                refine hK.out _ _ (hb8.mono hsy) ?_
                clear hK K
                try simp only [List.setIfInBounds_toArray, List.set_cons_zero, List.set_cons_succ]
                refine regB_call (i := 9) rfl (by kernel_rfl) (by rfl) fun K hK => ?_
                go_simp
                have hb9 : Below w8.heap.size w8 (w8.alloc (.cells #[(.func (.func N8) #[] #[.pointer (some ⟨p8, 0, none⟩), .pointer (some ⟨q8, 0, none⟩)])] 70)) := (Below.refl _ _).alloc (Nat.le_refl _) _
                have ka : At (w8.alloc (.cells #[(.func (.func N8) #[] #[.pointer (some ⟨p8, 0, none⟩), .pointer (some ⟨q8, 0, none⟩)])] 70)) w8.heap.size 70 [(.func (.func N8) #[] #[.pointer (some ⟨p8, 0, none⟩), .pointer (some ⟨q8, 0, none⟩)])] := At.new_ w8 _ 70 [(.func (.func N8) #[] #[.pointer (some ⟨p8, 0, none⟩), .pointer (some ⟨q8, 0, none⟩)])] rfl
                have hno : x.ownBlock ≠ some w8.heap.size := fun e => Nat.lt_irrefl _ (co.a3.lt _ e).2
                have hsy := hsz
                have hsz := Nat.le_trans hsz hb9.size
                have hz := Nat.le_trans hz hb9.size
                have bW := bW.trans (hb9.mono hsy)
                have hg := hg.below hb9 hg.lt
                have hr := hr.below hb9 hr.lt
                have co := co.below hb9
                have f8 := f8.below hb9
                refine hK.out _ _ (hb9.mono hsy) ?_
                clear hK K
                try simp only [List.setIfInBounds_toArray, List.set_cons_zero, List.set_cons_succ]
                refine regB_call (i := 10) rfl (by kernel_rfl) (by rfl) fun K hK => ?_
                go_simp
                refine (insert_any (w.heap.size + 2 + 1) q.length x w8.heap.size (.func (.func N8) #[] #[.pointer (some ⟨p8, 0, none⟩), .pointer (some ⟨q8, 0, none⟩)]) hs _ co.a3 (Nat.le_trans (Nat.succ_le_of_lt hrg) (Nat.le_of_lt hg.lt)) ka hno rfl co.f3.one (by omega)).mono ?_
                rintro e w10 ⟨z, rfl, hown, hgrw, hblk⟩
                have hg10 := grown_at hgrw co.a3 hg course_ne
                have hr10 := grown_at hgrw co.a3 hr course_ne
                have hb10 : Below (w.heap.size + 2) _ w10 := (Below.refl _ _).grown hgrw hsz (fun k hk => Nat.le_of_succ_le (co.a3.lt k hk).1)
                have co := co.ins3 hown hgrw hblk f8
                have bW := bW.trans hb10
                clear hg hr
                refine hK.out _ _ hb10 ?_
                clear hK K
                try simp only [List.setIfInBounds_toArray, List.set_cons_zero, List.set_cons_succ]
                refine regB_take (i := 11) (d := some 121) (v := (.pointer (some ⟨g, 4, none⟩))) rfl rfl (by kernel_rfl) (by kernel_rfl) (by kernel_rfl) (fun _ _ _ h => h) (by rfl) (by intro w' hSw; go_simp) ?_
                try simp only [Act.put, List.setIfInBounds_toArray, List.set_cons_zero, List.set_cons_succ]
                refine regB_call (i := 12) rfl (by kernel_rfl) (by rfl) fun K hK => ?_
                refine oper_storeC rfl 59 (.tmp 121) (.tmp 120) rfl g 4 rfl z rfl (own_val co.a3).2 77 _ hg10 (by kernel_rfl) (by simp) (own_val co.a3).1 ?_
                intro x12 hg12 o12
                have hr := o12.at_ hr10 (Nat.ne_of_lt hrg)
                have co := co.only o12 (.inr (.inr rfl)) hg10 course_ne
                have bW := o12.below _ _ bW (Nat.le_of_lt hrg)
                simp only [List.set_cons_zero, List.set_cons_succ] at hg12
                refine hK.out _ _ (o12.below _ _ (Below.refl _ _) (Nat.le_of_lt hrg)) ?_
                clear hK K
                try simp only [List.setIfInBounds_toArray, List.set_cons_zero, List.set_cons_succ]
                refine wpAnyH_done (by kernel_rfl) ?_ _
                go_wp2_with fail
                go_meet
                exact ⟨u, v, z, o, p, _ :: q, fs, gs, _ :: hs, hg12, hr, co, hO, hP, Lib.hid (by show orE _ (fo q) = _; rw [hQ.out]), by omega, by omega, by simp only [List.length_cons]; omega, hrg, bW⟩
              · go_simp
                refine (start_any A m c B d k a w0 _ LA_.out (by omega)).mono ?_
                rintro e w5 ⟨A5, c5, B5, d5, rfl, la5, hb5⟩
                have hsy := hsz
                have hsz := Nat.le_trans hsz hb5.size
                have hz := Nat.le_trans hz hb5.size
                have bW := bW.trans (hb5.mono hsy)
                have hg := hg.below hb5 hg.lt
                have hr := hr.below hb5 hr.lt
                have co := co.below hb5
                refine hK.out _ _ (hb5.mono hsy) ?_
                clear hK K
                try simp only [List.setIfInBounds_toArray, List.set_cons_zero, List.set_cons_succ]
                refine regB_two (i := 1) (j := 7) rfl rfl (by kernel_rfl) (by rfl) (by rfl) (fun K hK => ?_) (fun K hK => ?_)
                · have f9 := hg.cell 4
                  simp only [List.getElem?_cons_zero, List.getElem?_cons_succ] at f9
                  refine oper_yields (d := some 111) (v := x) rfl (by go_simp) ?_
                  refine hK.out _ _ (Below.refl _ _) ?_
                  clear hK K
                  try simp only [Act.put, List.setIfInBounds_toArray, List.set_cons_zero, List.set_cons_succ]
                  refine regB_call (i := 7) rfl (by kernel_rfl) (by rfl) fun K hK => ?_
                  go_simp
                  refine (start_any A' n c' B' d' k b w0 _ LB_.out (by omega)).mono ?_
                  rintro e w7 ⟨A7, c7, B7, d7, rfl, la7, hb7⟩
                  have hsy := hsz
                  have hsz := Nat.le_trans hsz hb7.size
                  have hz := Nat.le_trans hz hb7.size
                  have bW := bW.trans (hb7.mono hsy)
                  have hg := hg.below hb7 hg.lt
                  have hr := hr.below hb7 hr.lt
                  have co := co.below hb7
                  refine hK.out _ _ (hb7.mono hsy) ?_
                  clear hK K
                  try simp only [List.setIfInBounds_toArray, List.set_cons_zero, List.set_cons_succ]
                  refine regB_call (i := 8) rfl (by kernel_rfl) (by rfl) fun K hK => ?_
                  go_simp
                  refine (fv_of (lists_any k (S3 (fun k => T k ∨ k = w.heap.size + 2 ∨ k = g) u v x) base A5 k c5 B5 d5 A7 c7 B7 d7 (a.take k) (b.take k) w0 _ HT0.out H0.out (HBL.out _ bW) (fun k hk => ⟨(HS.out k hk).1, Nat.lt_of_lt_of_le (HS.out k hk).2 hz⟩) la5 la7 kp (Nat.le_refl _))).mono ?_
                  rintro e w8 ⟨N8, p8, q8, rfl, f8, hb8⟩
                  have hsy := hsz
                  have hsz := Nat.le_trans hsz hb8.size
                  have hz := Nat.le_trans hz hb8.size
                  have bW := bW.trans (hb8.mono hsy)
                  have hg := hg.below hb8 hg.lt
                  have hr := hr.below hb8 hr.lt
                  have co := co.below hb8
                  refine hK.out _ _ (hb8.mono hsy) ?_
                  clear hK K
                  try simp only [List.setIfInBounds_toArray, List.set_cons_zero, List.set_cons_succ]
                  refine regB_call (i := 9) rfl (by kernel_rfl) (by rfl) fun K hK => ?_
                  go_simp
                  have hb9 : Below w8.heap.size w8 (w8.alloc (.cells #[(.func (.func N8) #[] #[.pointer (some ⟨p8, 0, none⟩), .pointer (some ⟨q8, 0, none⟩)])] 70)) := (Below.refl _ _).alloc (Nat.le_refl _) _
                  have ka : At (w8.alloc (.cells #[(.func (.func N8) #[] #[.pointer (some ⟨p8, 0, none⟩), .pointer (some ⟨q8, 0, none⟩)])] 70)) w8.heap.size 70 [(.func (.func N8) #[] #[.pointer (some ⟨p8, 0, none⟩), .pointer (some ⟨q8, 0, none⟩)])] := At.new_ w8 _ 70 [(.func (.func N8) #[] #[.pointer (some ⟨p8, 0, none⟩), .pointer (some ⟨q8, 0, none⟩)])] rfl
                  have hno : x.ownBlock ≠ some w8.heap.size := fun e => Nat.lt_irrefl _ (co.a3.lt _ e).2
                  have hsy := hsz
                  have hsz := Nat.le_trans hsz hb9.size
                  have hz := Nat.le_trans hz hb9.size
                  have bW := bW.trans (hb9.mono hsy)
                  have hg := hg.below hb9 hg.lt
                  have hr := hr.below hb9 hr.lt
                  have co := co.below hb9
                  have f8 := f8.below hb9
                  refine hK.out _ _ (hb9.mono hsy) ?_
                  clear hK K
                  try simp only [List.setIfInBounds_toArray, List.set_cons_zero, List.set_cons_succ]
                  refine regB_call (i := 10) rfl (by kernel_rfl) (by rfl) fun K hK => ?_
                  go_simp
                  refine (insert_any (w.heap.size + 2 + 1) q.length x w8.heap.size (.func (.func N8) #[] #[.pointer (some ⟨p8, 0, none⟩), .pointer (some ⟨q8, 0, none⟩)]) hs _ co.a3 (Nat.le_trans (Nat.succ_le_of_lt hrg) (Nat.le_of_lt hg.lt)) ka hno rfl co.f3.one (by omega)).mono ?_
                  rintro e w10 ⟨z, rfl, hown, hgrw, hblk⟩
                  have hg10 := grown_at hgrw co.a3 hg course_ne
                  have hr10 := grown_at hgrw co.a3 hr course_ne
                  have hb10 : Below (w.heap.size + 2) _ w10 := (Below.refl _ _).grown hgrw hsz (fun k hk => Nat.le_of_succ_le (co.a3.lt k hk).1)
                  have co := co.ins3 hown hgrw hblk f8
                  have bW := bW.trans hb10
                  clear hg hr
                  refine hK.out _ _ hb10 ?_
                  clear hK K
                  try simp only [List.setIfInBounds_toArray, List.set_cons_zero, List.set_cons_succ]
                  refine regB_take (i := 11) (d := some 121) (v := (.pointer (some ⟨g, 4, none⟩))) rfl rfl (by kernel_rfl) (by kernel_rfl) (by kernel_rfl) (fun _ _ _ h => h) (by rfl) (by intro w' hSw; go_simp) ?_
                  try simp only [Act.put, List.setIfInBounds_toArray, List.set_cons_zero, List.set_cons_succ]
                  refine regB_call (i := 12) rfl (by kernel_rfl) (by rfl) fun K hK => ?_
                  refine oper_storeC rfl 59 (.tmp 121) (.tmp 120) rfl g 4 rfl z rfl (own_val co.a3).2 77 _ hg10 (by kernel_rfl) (by simp) (own_val co.a3).1 ?_
                  intro x12 hg12 o12
                  have hr := o12.at_ hr10 (Nat.ne_of_lt hrg)
                  have co := co.only o12 (.inr (.inr rfl)) hg10 course_ne
                  have bW := o12.below _ _ bW (Nat.le_of_lt hrg)
                  simp only [List.set_cons_zero, List.set_cons_succ] at hg12
                  refine hK.out _ _ (o12.below _ _ (Below.refl _ _) (Nat.le_of_lt hrg)) ?_
                  clear hK K
                  try simp only [List.setIfInBounds_toArray, List.set_cons_zero, List.set_cons_succ]
                  refine wpAnyH_done (by kernel_rfl) ?_ _
                  go_wp2_with fail
                  go_meet
                  exact ⟨u, v, z, o, p, _ :: q, fs, gs, _ :: hs, hg12, hr, co, hO, hP, Lib.hid (by show orE _ (fo q) = _; rw [hQ.out]), by omega, by omega, by simp only [List.length_cons]; omega, hrg, bW⟩
                · go_simp
                  refine (start_any A' n c' B' d' k b w0 _ LB_.out (by omega)).mono ?_
                  rintro e w7 ⟨A7, c7, B7, d7, rfl, la7, hb7⟩
                  have hsy := hsz
                  have hsz := Nat.le_trans hsz hb7.size
                  have hz := Nat.le_trans hz hb7.size
                  have bW := bW.trans (hb7.mono hsy)
                  have hg := hg.below hb7 hg.lt
                  have hr := hr.below hb7 hr.lt
                  have co := co.below hb7
                  refine hK.out _ _ (hb7.mono hsy) ?_
                  clear hK K
                  try simp only [List.setIfInBounds_toArray, List.set_cons_zero, List.set_cons_succ]
                  refine regB_two (i := 1) (j := 8) rfl rfl (by kernel_rfl) (by rfl) (by rfl) (fun K hK => ?_) (fun K hK => ?_)
                  · have f9 := hg.cell 4
                    simp only [List.getElem?_cons_zero, List.getElem?_cons_succ] at f9
                    refine oper_yields (d := some 111) (v := x) rfl (by go_simp) ?_
                    refine hK.out _ _ (Below.refl _ _) ?_
                    clear hK K
                    try simp only [Act.put, List.setIfInBounds_toArray, List.set_cons_zero, List.set_cons_succ]
                    refine regB_call (i := 8) rfl (by kernel_rfl) (by rfl) fun K hK => ?_
                    go_simp
                    refine (fv_of (lists_any k (S3 (fun k => T k ∨ k = w.heap.size + 2 ∨ k = g) u v x) base A5 k c5 B5 d5 A7 c7 B7 d7 (a.take k) (b.take k) w0 _ HT0.out H0.out (HBL.out _ bW) (fun k hk => ⟨(HS.out k hk).1, Nat.lt_of_lt_of_le (HS.out k hk).2 hz⟩) la5 la7 kp (Nat.le_refl _))).mono ?_
                    rintro e w8 ⟨N8, p8, q8, rfl, f8, hb8⟩
                    have hsy := hsz
                    have hsz := Nat.le_trans hsz hb8.size
                    have hz := Nat.le_trans hz hb8.size
                    have bW := bW.trans (hb8.mono hsy)
                    have hg := hg.below hb8 hg.lt
                    have hr := hr.below hb8 hr.lt
                    have co := co.below hb8
                    refine hK.out _ _ (hb8.mono hsy) ?_
                    clear hK K
                    try simp only [List.setIfInBounds_toArray, List.set_cons_zero, List.set_cons_succ]
                    refine regB_call (i := 9) rfl (by kernel_rfl) (by rfl) fun K hK => ?_
                    go_simp
                    have hb9 : Below w8.heap.size w8 (w8.alloc (.cells #[(.func (.func N8) #[] #[.pointer (some ⟨p8, 0, none⟩), .pointer (some ⟨q8, 0, none⟩)])] 70)) := (Below.refl _ _).alloc (Nat.le_refl _) _
                    have ka : At (w8.alloc (.cells #[(.func (.func N8) #[] #[.pointer (some ⟨p8, 0, none⟩), .pointer (some ⟨q8, 0, none⟩)])] 70)) w8.heap.size 70 [(.func (.func N8) #[] #[.pointer (some ⟨p8, 0, none⟩), .pointer (some ⟨q8, 0, none⟩)])] := At.new_ w8 _ 70 [(.func (.func N8) #[] #[.pointer (some ⟨p8, 0, none⟩), .pointer (some ⟨q8, 0, none⟩)])] rfl
                    have hno : x.ownBlock ≠ some w8.heap.size := fun e => Nat.lt_irrefl _ (co.a3.lt _ e).2
                    have hsy := hsz
                    have hsz := Nat.le_trans hsz hb9.size
                    have hz := Nat.le_trans hz hb9.size
                    have bW := bW.trans (hb9.mono hsy)
                    have hg := hg.below hb9 hg.lt
                    have hr := hr.below hb9 hr.lt
                    have co := co.below hb9
                    have f8 := f8.below hb9
                    refine hK.out _ _ (hb9.mono hsy) ?_
                    clear hK K
                    try simp only [List.setIfInBounds_toArray, List.set_cons_zero, List.set_cons_succ]
                    refine regB_call (i := 10) rfl (by kernel_rfl) (by rfl) fun K hK => ?_
                    go_simp
                    refine (insert_any (w.heap.size + 2 + 1) q.length x w8.heap.size (.func (.func N8) #[] #[.pointer (some ⟨p8, 0, none⟩), .pointer (some ⟨q8, 0, none⟩)]) hs _ co.a3 (Nat.le_trans (Nat.succ_le_of_lt hrg) (Nat.le_of_lt hg.lt)) ka hno rfl co.f3.one (by omega)).mono ?_
                    rintro e w10 ⟨z, rfl, hown, hgrw, hblk⟩
                    have hg10 := grown_at hgrw co.a3 hg course_ne
                    have hr10 := grown_at hgrw co.a3 hr course_ne
                    have hb10 : Below (w.heap.size + 2) _ w10 := (Below.refl _ _).grown hgrw hsz (fun k hk => Nat.le_of_succ_le (co.a3.lt k hk).1)
                    have co := co.ins3 hown hgrw hblk f8
                    have bW := bW.trans hb10
                    clear hg hr
                    refine hK.out _ _ hb10 ?_
                    clear hK K
                    try simp only [List.setIfInBounds_toArray, List.set_cons_zero, List.set_cons_succ]
                    refine regB_take (i := 11) (d := some 121) (v := (.pointer (some ⟨g, 4, none⟩))) rfl rfl (by kernel_rfl) (by kernel_rfl) (by kernel_rfl) (fun _ _ _ h => h) (by rfl) (by intro w' hSw; go_simp) ?_
                    try simp only [Act.put, List.setIfInBounds_toArray, List.set_cons_zero, List.set_cons_succ]
                    refine regB_call (i := 12) rfl (by kernel_rfl) (by rfl) fun K hK => ?_
                    refine oper_storeC rfl 59 (.tmp 121) (.tmp 120) rfl g 4 rfl z rfl (own_val co.a3).2 77 _ hg10 (by kernel_rfl) (by simp) (own_val co.a3).1 ?_
                    intro x12 hg12 o12
                    have hr := o12.at_ hr10 (Nat.ne_of_lt hrg)
                    have co := co.only o12 (.inr (.inr rfl)) hg10 course_ne
                    have bW := o12.below _ _ bW (Nat.le_of_lt hrg)
                    simp only [List.set_cons_zero, List.set_cons_succ] at hg12
                    refine hK.out _ _ (o12.below _ _ (Below.refl _ _) (Nat.le_of_lt hrg)) ?_
                    clear hK K
                    try simp only [List.setIfInBounds_toArray, List.set_cons_zero, List.set_cons_succ]
                    refine wpAnyH_done (by kernel_rfl) ?_ _
                    go_wp2_with fail
                    go_meet
                    exact ⟨u, v, z, o, p, _ :: q, fs, gs, _ :: hs, hg12, hr, co, hO, hP, Lib.hid (by show orE _ (fo q) = _; rw [hQ.out]), by omega, by omega, by simp only [List.length_cons]; omega, hrg, bW⟩
                  · go_simp
                    refine (fv_of (lists_any k (S3 (fun k => T k ∨ k = w.heap.size + 2 ∨ k = g) u v x) base A5 k c5 B5 d5 A7 c7 B7 d7 (a.take k) (b.take k) w0 _ HT0.out H0.out (HBL.out _ bW) (fun k hk => ⟨(HS.out k hk).1, Nat.lt_of_lt_of_le (HS.out k hk).2 hz⟩) la5 la7 kp (Nat.le_refl _))).mono ?_
                    rintro e w8 ⟨N8, p8, q8, rfl, f8, hb8⟩
                    have hsy := hsz
                    have hsz := Nat.le_trans hsz hb8.size
                    have hz := Nat.le_trans hz hb8.size
                    have bW := bW.trans (hb8.mono hsy)
                    have hg := hg.below hb8 hg.lt
                    have hr := hr.below hb8 hr.lt
                    have co := co.below hb8
                    refine hK.out _ _ (hb8.mono hsy) ?_
                    clear hK K
                    try simp only [List.setIfInBounds_toArray, List.set_cons_zero, List.set_cons_succ]
                    refine regB_two (i := 1) (j := 9) rfl rfl (by kernel_rfl) (by rfl) (by rfl) (fun K hK => ?_) (fun K hK => ?_)
                    · have f9 := hg.cell 4
                      simp only [List.getElem?_cons_zero, List.getElem?_cons_succ] at f9
                      refine oper_yields (d := some 111) (v := x) rfl (by go_simp) ?_
                      refine hK.out _ _ (Below.refl _ _) ?_
                      clear hK K
                      try simp only [Act.put, List.setIfInBounds_toArray, List.set_cons_zero, List.set_cons_succ]
                      refine regB_call (i := 9) rfl (by kernel_rfl) (by rfl) fun K hK => ?_
                      go_simp
                      have hb9 : Below w8.heap.size w8 (w8.alloc (.cells #[(.func (.func N8) #[] #[.pointer (some ⟨p8, 0, none⟩), .pointer (some ⟨q8, 0, none⟩)])] 70)) := (Below.refl _ _).alloc (Nat.le_refl _) _
                      have ka : At (w8.alloc (.cells #[(.func (.func N8) #[] #[.pointer (some ⟨p8, 0, none⟩), .pointer (some ⟨q8, 0, none⟩)])] 70)) w8.heap.size 70 [(.func (.func N8) #[] #[.pointer (some ⟨p8, 0, none⟩), .pointer (some ⟨q8, 0, none⟩)])] := At.new_ w8 _ 70 [(.func (.func N8) #[] #[.pointer (some ⟨p8, 0, none⟩), .pointer (some ⟨q8, 0, none⟩)])] rfl
                      have hno : x.ownBlock ≠ some w8.heap.size := fun e => Nat.lt_irrefl _ (co.a3.lt _ e).2
                      have hsy := hsz
                      have hsz := Nat.le_trans hsz hb9.size
                      have hz := Nat.le_trans hz hb9.size
                      have bW := bW.trans (hb9.mono hsy)
                      have hg := hg.below hb9 hg.lt
                      have hr := hr.below hb9 hr.lt
                      have co := co.below hb9
                      have f8 := f8.below hb9
                      refine hK.out _ _ (hb9.mono hsy) ?_
                      clear hK K
                      try simp only [List.setIfInBounds_toArray, List.set_cons_zero, List.set_cons_succ]
                      refine regB_call (i := 10) rfl (by kernel_rfl) (by rfl) fun K hK => ?_
                      go_simp
                      refine (insert_any (w.heap.size + 2 + 1) q.length x w8.heap.size (.func (.func N8) #[] #[.pointer (some ⟨p8, 0, none⟩), .pointer (some ⟨q8, 0, none⟩)]) hs _ co.a3 (Nat.le_trans (Nat.succ_le_of_lt hrg) (Nat.le_of_lt hg.lt)) ka hno rfl co.f3.one (by omega)).mono ?_
                      rintro e w10 ⟨z, rfl, hown, hgrw, hblk⟩
                      have hg10 := grown_at hgrw co.a3 hg course_ne
                      have hr10 := grown_at hgrw co.a3 hr course_ne
                      have hb10 : Below (w.heap.size + 2) _ w10 := (Below.refl _ _).grown hgrw hsz (fun k hk => Nat.le_of_succ_le (co.a3.lt k hk).1)
                      have co := co.ins3 hown hgrw hblk f8
                      have bW := bW.trans hb10
                      clear hg hr
                      refine hK.out _ _ hb10 ?_
                      clear hK K
                      try simp only [List.setIfInBounds_toArray, List.set_cons_zero, List.set_cons_succ]
                      refine regB_take (i := 11) (d := some 121) (v := (.pointer (some ⟨g, 4, none⟩))) rfl rfl (by kernel_rfl) (by kernel_rfl) (by kernel_rfl) (fun _ _ _ h => h) (by rfl) (by intro w' hSw; go_simp) ?_
                      try simp only [Act.put, List.setIfInBounds_toArray, List.set_cons_zero, List.set_cons_succ]
                      refine regB_call (i := 12) rfl (by kernel_rfl) (by rfl) fun K hK => ?_
                      refine oper_storeC rfl 59 (.tmp 121) (.tmp 120) rfl g 4 rfl z rfl (own_val co.a3).2 77 _ hg10 (by kernel_rfl) (by simp) (own_val co.a3).1 ?_
                      intro x12 hg12 o12
                      have hr := o12.at_ hr10 (Nat.ne_of_lt hrg)
                      have co := co.only o12 (.inr (.inr rfl)) hg10 course_ne
                      have bW := o12.below _ _ bW (Nat.le_of_lt hrg)
                      simp only [List.set_cons_zero, List.set_cons_succ] at hg12
                      refine hK.out _ _ (o12.below _ _ (Below.refl _ _) (Nat.le_of_lt hrg)) ?_
                      clear hK K
                      try simp only [List.setIfInBounds_toArray, List.set_cons_zero, List.set_cons_succ]
                      refine wpAnyH_done (by kernel_rfl) ?_ _
                      go_wp2_with fail
                      go_meet
                      exact ⟨u, v, z, o, p, _ :: q, fs, gs, _ :: hs, hg12, hr, co, hO, hP, Lib.hid (by show orE _ (fo q) = _; rw [hQ.out]), by omega, by omega, by simp only [List.length_cons]; omega, hrg, bW⟩
                    · go_simp
                      have hb9 : Below w8.heap.size w8 (w8.alloc (.cells #[(.func (.func N8) #[] #[.pointer (some ⟨p8, 0, none⟩), .pointer (some ⟨q8, 0, none⟩)])] 70)) := (Below.refl _ _).alloc (Nat.le_refl _) _
                      have ka : At (w8.alloc (.cells #[(.func (.func N8) #[] #[.pointer (some ⟨p8, 0, none⟩), .pointer (some ⟨q8, 0, none⟩)])] 70)) w8.heap.size 70 [(.func (.func N8) #[] #[.pointer (some ⟨p8, 0, none⟩), .pointer (some ⟨q8, 0, none⟩)])] := At.new_ w8 _ 70 [(.func (.func N8) #[] #[.pointer (some ⟨p8, 0, none⟩), .pointer (some ⟨q8, 0, none⟩)])] rfl
                      have hno : x.ownBlock ≠ some w8.heap.size := fun e => Nat.lt_irrefl _ (co.a3.lt _ e).2
                      have hsy := hsz
                      have hsz := Nat.le_trans hsz hb9.size
                      have hz := Nat.le_trans hz hb9.size
                      have bW := bW.trans (hb9.mono hsy)
                      have hg := hg.below hb9 hg.lt
                      have hr := hr.below hb9 hr.lt
                      have co := co.below hb9
                      have f8 := f8.below hb9
                      refine hK.out _ _ (hb9.mono hsy) ?_
                      clear hK K
                      try simp only [List.setIfInBounds_toArray, List.set_cons_zero, List.set_cons_succ]
                      refine regB_call (i := 1) rfl (by kernel_rfl) (by rfl) fun K hK => ?_
                      have f9 := hg.cell 4
                      simp only [List.getElem?_cons_zero, List.getElem?_cons_succ] at f9
                      refine oper_yields (d := some 111) (v := x) rfl (by go_simp) ?_
                      refine hK.out _ _ (Below.refl _ _) ?_
                      clear hK K
                      try simp only [Act.put, List.setIfInBounds_toArray, List.set_cons_zero, List.set_cons_succ]
                      refine regB_call (i := 10) rfl (by kernel_rfl) (by rfl) fun K hK => ?_
                      go_simp
                      refine (insert_any (w.heap.size + 2 + 1) q.length x w8.heap.size (.func (.func N8) #[] #[.pointer (some ⟨p8, 0, none⟩), .pointer (some ⟨q8, 0, none⟩)]) hs _ co.a3 (Nat.le_trans (Nat.succ_le_of_lt hrg) (Nat.le_of_lt hg.lt)) ka hno rfl co.f3.one (by omega)).mono ?_
                      rintro e w10 ⟨z, rfl, hown, hgrw, hblk⟩
                      have hg10 := grown_at hgrw co.a3 hg course_ne
                      have hr10 := grown_at hgrw co.a3 hr course_ne
                      have hb10 : Below (w.heap.size + 2) _ w10 := (Below.refl _ _).grown hgrw hsz (fun k hk => Nat.le_of_succ_le (co.a3.lt k hk).1)
                      have co := co.ins3 hown hgrw hblk f8
                      have bW := bW.trans hb10
                      clear hg hr
                      refine hK.out _ _ hb10 ?_
                      clear hK K
                      try simp only [List.setIfInBounds_toArray, List.set_cons_zero, List.set_cons_succ]
                      refine regB_take (i := 11) (d := some 121) (v := (.pointer (some ⟨g, 4, none⟩))) rfl rfl (by kernel_rfl) (by kernel_rfl) (by kernel_rfl) (fun _ _ _ h => h) (by rfl) (by intro w' hSw; go_simp) ?_
                      try simp only [Act.put, List.setIfInBounds_toArray, List.set_cons_zero, List.set_cons_succ]
                      refine regB_call (i := 12) rfl (by kernel_rfl) (by rfl) fun K hK => ?_
                      refine oper_storeC rfl 59 (.tmp 121) (.tmp 120) rfl g 4 rfl z rfl (own_val co.a3).2 77 _ hg10 (by kernel_rfl) (by simp) (own_val co.a3).1 ?_
                      intro x12 hg12 o12
                      have hr := o12.at_ hr10 (Nat.ne_of_lt hrg)
                      have co := co.only o12 (.inr (.inr rfl)) hg10 course_ne
                      have bW := o12.below _ _ bW (Nat.le_of_lt hrg)
                      simp only [List.set_cons_zero, List.set_cons_succ] at hg12
                      refine hK.out _ _ (o12.below _ _ (Below.refl _ _) (Nat.le_of_lt hrg)) ?_
                      clear hK K
                      try simp only [List.setIfInBounds_toArray, List.set_cons_zero, List.set_cons_succ]
                      refine wpAnyH_done (by kernel_rfl) ?_ _
                      go_wp2_with fail
                      go_meet
                      exact ⟨u, v, z, o, p, _ :: q, fs, gs, _ :: hs, hg12, hr, co, hO, hP, Lib.hid (by show orE _ (fo q) = _; rw [hQ.out]), by omega, by omega, by simp only [List.length_cons]; omega, hrg, bW⟩
            case rest =>
              clear hcs
              have hcs := hcut
              clear hcut
              go_upto_region 17 with fail
              go_cut [] (fun wc => CS (fun k => T k ∨ k = w.heap.size + 2 ∨ k = g) (w.heap.size + 2) g (nd dd x') (nd dd y') (orE (btw sha (nb dd x') ta) O1) (orE (btw sha (nb dd y') tb) P1) (orE (tc (a.take k) (b.take k)) Q1) (3 * (n - k) + 3) Wz wc)
              case first =>
                obtain ⟨u, v, x, o, p, q, fs, gs, hs, hg, hr, co, hO, hP, hQ, lno, lnp, lnq, hrg, bW⟩ := hcs
                have HS := Lib.hid (co.into2 HBZ.out HTT.out hr.lt hrg hg.lt)
                have hz := Nat.le_refl wc.heap.size
                have hsz : w.heap.size + 2 ≤ wc.heap.size := Nat.le_of_lt hr.lt
                have hb0 : Below wc.heap.size wc wc.drew := (Below.refl _ _).drew
                have hg := hg.drew
                have hr := hr.drew
                have co := co.below hb0
                have bW := bW.drew
                clear hb0
                refine regB_begin (w.heap.size + 2) (by kernel_rfl) ?_
                change wpAnyH _ _ _ _ _ 12 #[false, false, false, false, false, false, false, false, false, false, false, false] _ _
                refine regB_take (i := 0) (d := some 122) (v := (.string dd)) rfl rfl (by kernel_rfl) (by kernel_rfl) (by kernel_rfl) (fun _ _ _ h => h) (by rfl) (by intro w' hSw; go_simp) ?_
                try simp only [Act.put, List.setIfInBounds_toArray, List.set_cons_zero, List.set_cons_succ]
                refine regB_take (i := 1) (d := some 123) (v := (.pointer (some ⟨g, 0, none⟩))) rfl rfl (by kernel_rfl) (by kernel_rfl) (by kernel_rfl) (fun _ _ _ h => h) (by rfl) (by intro w' hSw; go_simp) ?_
                try simp only [Act.put, List.setIfInBounds_toArray, List.set_cons_zero, List.set_cons_succ]
                refine regB_take (i := 4) (d := some 126) (v := (.string dd)) rfl rfl (by kernel_rfl) (by kernel_rfl) (by kernel_rfl) (fun _ _ _ h => h) (by rfl) (by intro w' hSw; go_simp) ?_
                try simp only [Act.put, List.setIfInBounds_toArray, List.set_cons_zero, List.set_cons_succ]
                refine regB_take (i := 5) (d := some 127) (v := (.pointer (some ⟨g, 1, none⟩))) rfl rfl (by kernel_rfl) (by kernel_rfl) (by kernel_rfl) (fun _ _ _ h => h) (by rfl) (by intro w' hSw; go_simp) ?_
                try simp only [Act.put, List.setIfInBounds_toArray, List.set_cons_zero, List.set_cons_succ]
                refine regB_two (i := 2) (j := 6) rfl rfl (by kernel_rfl) (by rfl) (by rfl) (fun K hK => ?_) (fun K hK => ?_)
                · have f9 := hg.cell 0
                  simp only [List.getElem?_cons_zero] at f9
                  refine oper_yields (d := some 124) (v := (.string x')) rfl (by go_simp) ?_
                  refine hK.out _ _ (Below.refl _ _) ?_
                  clear hK K
                  try simp only [Act.put, List.setIfInBounds_toArray, List.set_cons_zero, List.set_cons_succ]
                  refine regB_two (i := 3) (j := 6) rfl rfl (by kernel_rfl) (by rfl) (by rfl) (fun K hK => ?_) (fun K hK => ?_)
                  · go_simp
                    refine (nodeC_any dd x' _ (HT.out _ bW) HD32.out HX32.out).mono ?_
                    rintro e w3 ⟨rfl, hb3⟩
                    have hsy := hsz
                    have hsz := Nat.le_trans hsz hb3.size
                    have hz := Nat.le_trans hz hb3.size
                    have bW := bW.trans (hb3.mono hsy)
                    have hg := hg.below hb3 hg.lt
                    have hr := hr.below hb3 hr.lt
                    have co := co.below hb3
                    refine hK.out _ _ (hb3.mono hsy) ?_
                    clear hK K
                    try simp only [List.setIfInBounds_toArray, List.set_cons_zero, List.set_cons_succ]
                    refine regB_call (i := 6) rfl (by kernel_rfl) (by rfl) fun K hK => ?_
                    have f9 := hg.cell 1
                    simp only [List.getElem?_cons_zero, List.getElem?_cons_succ] at f9
                    refine oper_yields (d := some 128) (v := (.string y')) rfl (by go_simp) ?_
                    refine hK.out _ _ (Below.refl _ _) ?_
                    clear hK K
                    try simp only [Act.put, List.setIfInBounds_toArray, List.set_cons_zero, List.set_cons_succ]
                    refine regB_take (i := 8) (d := some 130) (v := (.pointer (some ⟨g, 0, none⟩))) rfl rfl (by kernel_rfl) (by kernel_rfl) (by kernel_rfl) (fun _ _ _ h => h) (by rfl) (by intro w' hSw; go_simp) ?_
                    try simp only [Act.put, List.setIfInBounds_toArray, List.set_cons_zero, List.set_cons_succ]
                    refine regB_call (i := 7) rfl (by kernel_rfl) (by rfl) fun K hK => ?_
                    go_simp
                    refine (nodeC_any dd y' _ (HT.out _ bW) HD32.out HY32.out).mono ?_
                    rintro e w7 ⟨rfl, hb7⟩
                    have hsy := hsz
                    have hsz := Nat.le_trans hsz hb7.size
                    have hz := Nat.le_trans hz hb7.size
                    have bW := bW.trans (hb7.mono hsy)
                    have hg := hg.below hb7 hg.lt
                    have hr := hr.below hb7 hr.lt
                    have co := co.below hb7
                    refine hK.out _ _ (hb7.mono hsy) ?_
                    clear hK K
                    try simp only [List.setIfInBounds_toArray, List.set_cons_zero, List.set_cons_succ]
                    refine regB_call (i := 9) rfl (by kernel_rfl) (by rfl) fun K hK => ?_
                    refine oper_storeC rfl 9 (.tmp 130) (.tmp 125) rfl g 0 rfl (.string (nd dd x')) rfl rfl 77 _ hg (by kernel_rfl) (by simp) rfl ?_
                    intro x9 hg9 o9
                    simp only [List.set_cons_zero] at hg9
                    have hr := o9.at_ hr (Nat.ne_of_lt hrg)
                    have co := co.only o9 (.inr (.inr rfl)) hg course_ne
                    have bW := o9.below _ _ bW (Nat.le_of_lt hrg)
                    refine hK.out _ _ (o9.below _ _ (Below.refl _ _) (Nat.le_of_lt hrg)) ?_
                    clear hK K
                    try simp only [List.setIfInBounds_toArray, List.set_cons_zero, List.set_cons_succ]
                    refine regB_take (i := 10) (d := some 131) (v := (.pointer (some ⟨g, 1, none⟩))) rfl rfl (by kernel_rfl) (by kernel_rfl) (by kernel_rfl) (fun _ _ _ h => h) (by rfl) (by intro w' hSw; go_simp) ?_
                    try simp only [Act.put, List.setIfInBounds_toArray, List.set_cons_zero, List.set_cons_succ]
                    refine regB_call (i := 11) rfl (by kernel_rfl) (by rfl) fun K hK => ?_
                    refine oper_storeC rfl 9 (.tmp 131) (.tmp 129) rfl g 1 rfl (.string (nd dd y')) rfl rfl 77 _ hg9 (by kernel_rfl) (by simp) rfl ?_
                    intro x11 hg11 o11
                    simp only [List.set_cons_zero, List.set_cons_succ] at hg11
                    have hr := o11.at_ hr (Nat.ne_of_lt hrg)
                    have co := co.only o11 (.inr (.inr rfl)) hg9 course_ne
                    have bW := o11.below _ _ bW (Nat.le_of_lt hrg)
                    refine hK.out _ _ (o11.below _ _ (Below.refl _ _) (Nat.le_of_lt hrg)) ?_
                    clear hK K
                    try simp only [List.setIfInBounds_toArray, List.set_cons_zero, List.set_cons_succ]
                    refine wpAnyH_done (by kernel_rfl) ?_ _
                    go_wp2_with fail
                    go_meet
                    exact ⟨u, v, x, o, p, q, fs, gs, hs, hg11, hr, co, hO, hP, hQ, lno, lnp, lnq, hrg, bW⟩
                  · have f9 := hg.cell 1
                    simp only [List.getElem?_cons_zero, List.getElem?_cons_succ] at f9
                    refine oper_yields (d := some 128) (v := (.string y')) rfl (by go_simp) ?_
                    refine hK.out _ _ (Below.refl _ _) ?_
                    clear hK K
                    try simp only [Act.put, List.setIfInBounds_toArray, List.set_cons_zero, List.set_cons_succ]
                    refine regB_call (i := 3) rfl (by kernel_rfl) (by rfl) fun K hK => ?_
                    go_simp
                    refine (nodeC_any dd x' _ (HT.out _ bW) HD32.out HX32.out).mono ?_
                    rintro e w3 ⟨rfl, hb3⟩
                    have hsy := hsz
                    have hsz := Nat.le_trans hsz hb3.size
                    have hz := Nat.le_trans hz hb3.size
                    have bW := bW.trans (hb3.mono hsy)
                    have hg := hg.below hb3 hg.lt
                    have hr := hr.below hb3 hr.lt
                    have co := co.below hb3
                    refine hK.out _ _ (hb3.mono hsy) ?_
                    clear hK K
                    try simp only [List.setIfInBounds_toArray, List.set_cons_zero, List.set_cons_succ]
                    refine regB_take (i := 8) (d := some 130) (v := (.pointer (some ⟨g, 0, none⟩))) rfl rfl (by kernel_rfl) (by kernel_rfl) (by kernel_rfl) (fun _ _ _ h => h) (by rfl) (by intro w' hSw; go_simp) ?_
                    try simp only [Act.put, List.setIfInBounds_toArray, List.set_cons_zero, List.set_cons_succ]
                    refine regB_call (i := 7) rfl (by kernel_rfl) (by rfl) fun K hK => ?_
                    go_simp
                    refine (nodeC_any dd y' _ (HT.out _ bW) HD32.out HY32.out).mono ?_
                    rintro e w7 ⟨rfl, hb7⟩
                    have hsy := hsz
                    have hsz := Nat.le_trans hsz hb7.size
                    have hz := Nat.le_trans hz hb7.size
                    have bW := bW.trans (hb7.mono hsy)
                    have hg := hg.below hb7 hg.lt
                    have hr := hr.below hb7 hr.lt
                    have co := co.below hb7
                    refine hK.out _ _ (hb7.mono hsy) ?_
                    clear hK K
                    try simp only [List.setIfInBounds_toArray, List.set_cons_zero, List.set_cons_succ]
                    refine regB_call (i := 9) rfl (by kernel_rfl) (by rfl) fun K hK => ?_
                    refine oper_storeC rfl 9 (.tmp 130) (.tmp 125) rfl g 0 rfl (.string (nd dd x')) rfl rfl 77 _ hg (by kernel_rfl) (by simp) rfl ?_
                    intro x9 hg9 o9
                    simp only [List.set_cons_zero] at hg9
                    have hr := o9.at_ hr (Nat.ne_of_lt hrg)
                    have co := co.only o9 (.inr (.inr rfl)) hg course_ne
                    have bW := o9.below _ _ bW (Nat.le_of_lt hrg)
                    refine hK.out _ _ (o9.below _ _ (Below.refl _ _) (Nat.le_of_lt hrg)) ?_
                    clear hK K
                    try simp only [List.setIfInBounds_toArray, List.set_cons_zero, List.set_cons_succ]
                    refine regB_take (i := 10) (d := some 131) (v := (.pointer (some ⟨g, 1, none⟩))) rfl rfl (by kernel_rfl) (by kernel_rfl) (by kernel_rfl) (fun _ _ _ h => h) (by rfl) (by intro w' hSw; go_simp) ?_
                    try simp only [Act.put, List.setIfInBounds_toArray, List.set_cons_zero, List.set_cons_succ]
                    refine regB_call (i := 11) rfl (by kernel_rfl) (by rfl) fun K hK => ?_
                    refine oper_storeC rfl 9 (.tmp 131) (.tmp 129) rfl g 1 rfl (.string (nd dd y')) rfl rfl 77 _ hg9 (by kernel_rfl) (by simp) rfl ?_
                    intro x11 hg11 o11
                    simp only [List.set_cons_zero, List.set_cons_succ] at hg11
                    have hr := o11.at_ hr (Nat.ne_of_lt hrg)
                    have co := co.only o11 (.inr (.inr rfl)) hg9 course_ne
                    have bW := o11.below _ _ bW (Nat.le_of_lt hrg)
                    refine hK.out _ _ (o11.below _ _ (Below.refl _ _) (Nat.le_of_lt hrg)) ?_
                    clear hK K
                    try simp only [List.setIfInBounds_toArray, List.set_cons_zero, List.set_cons_succ]
                    refine wpAnyH_done (by kernel_rfl) ?_ _
                    go_wp2_with fail
                    go_meet
                    exact ⟨u, v, x, o, p, q, fs, gs, hs, hg11, hr, co, hO, hP, hQ, lno, lnp, lnq, hrg, bW⟩
                · have f9 := hg.cell 1
                  simp only [List.getElem?_cons_zero, List.getElem?_cons_succ] at f9
                  refine oper_yields (d := some 128) (v := (.string y')) rfl (by go_simp) ?_
                  refine hK.out _ _ (Below.refl _ _) ?_
                  clear hK K
                  try simp only [Act.put, List.setIfInBounds_toArray, List.set_cons_zero, List.set_cons_succ]
                  refine regB_call (i := 2) rfl (by kernel_rfl) (by rfl) fun K hK => ?_
                  have f9 := hg.cell 0
                  simp only [List.getElem?_cons_zero] at f9
                  refine oper_yields (d := some 124) (v := (.string x')) rfl (by go_simp) ?_
                  refine hK.out _ _ (Below.refl _ _) ?_
                  clear hK K
                  try simp only [Act.put, List.setIfInBounds_toArray, List.set_cons_zero, List.set_cons_succ]
                  refine regB_call (i := 3) rfl (by kernel_rfl) (by rfl) fun K hK => ?_
                  go_simp
                  refine (nodeC_any dd x' _ (HT.out _ bW) HD32.out HX32.out).mono ?_
                  rintro e w3 ⟨rfl, hb3⟩
                  have hsy := hsz
                  have hsz := Nat.le_trans hsz hb3.size
                  have hz := Nat.le_trans hz hb3.size
                  have bW := bW.trans (hb3.mono hsy)
                  have hg := hg.below hb3 hg.lt
                  have hr := hr.below hb3 hr.lt
                  have co := co.below hb3
                  refine hK.out _ _ (hb3.mono hsy) ?_
                  clear hK K
                  try simp only [List.setIfInBounds_toArray, List.set_cons_zero, List.set_cons_succ]
                  refine regB_take (i := 8) (d := some 130) (v := (.pointer (some ⟨g, 0, none⟩))) rfl rfl (by kernel_rfl) (by kernel_rfl) (by kernel_rfl) (fun _ _ _ h => h) (by rfl) (by intro w' hSw; go_simp) ?_
                  try simp only [Act.put, List.setIfInBounds_toArray, List.set_cons_zero, List.set_cons_succ]
                  refine regB_call (i := 7) rfl (by kernel_rfl) (by rfl) fun K hK => ?_
                  go_simp
                  refine (nodeC_any dd y' _ (HT.out _ bW) HD32.out HY32.out).mono ?_
                  rintro e w7 ⟨rfl, hb7⟩
                  have hsy := hsz
                  have hsz := Nat.le_trans hsz hb7.size
                  have hz := Nat.le_trans hz hb7.size
                  have bW := bW.trans (hb7.mono hsy)
                  have hg := hg.below hb7 hg.lt
                  have hr := hr.below hb7 hr.lt
                  have co := co.below hb7
                  refine hK.out _ _ (hb7.mono hsy) ?_
                  clear hK K
                  try simp only [List.setIfInBounds_toArray, List.set_cons_zero, List.set_cons_succ]
                  refine regB_call (i := 9) rfl (by kernel_rfl) (by rfl) fun K hK => ?_
                  refine oper_storeC rfl 9 (.tmp 130) (.tmp 125) rfl g 0 rfl (.string (nd dd x')) rfl rfl 77 _ hg (by kernel_rfl) (by simp) rfl ?_
                  intro x9 hg9 o9
                  simp only [List.set_cons_zero] at hg9
                  have hr := o9.at_ hr (Nat.ne_of_lt hrg)
                  have co := co.only o9 (.inr (.inr rfl)) hg course_ne
                  have bW := o9.below _ _ bW (Nat.le_of_lt hrg)
                  refine hK.out _ _ (o9.below _ _ (Below.refl _ _) (Nat.le_of_lt hrg)) ?_
                  clear hK K
                  try simp only [List.setIfInBounds_toArray, List.set_cons_zero, List.set_cons_succ]
                  refine regB_take (i := 10) (d := some 131) (v := (.pointer (some ⟨g, 1, none⟩))) rfl rfl (by kernel_rfl) (by kernel_rfl) (by kernel_rfl) (fun _ _ _ h => h) (by rfl) (by intro w' hSw; go_simp) ?_
                  try simp only [Act.put, List.setIfInBounds_toArray, List.set_cons_zero, List.set_cons_succ]
                  refine regB_call (i := 11) rfl (by kernel_rfl) (by rfl) fun K hK => ?_
                  refine oper_storeC rfl 9 (.tmp 131) (.tmp 129) rfl g 1 rfl (.string (nd dd y')) rfl rfl 77 _ hg9 (by kernel_rfl) (by simp) rfl ?_
                  intro x11 hg11 o11
                  simp only [List.set_cons_zero, List.set_cons_succ] at hg11
                  have hr := o11.at_ hr (Nat.ne_of_lt hrg)
                  have co := co.only o11 (.inr (.inr rfl)) hg9 course_ne
                  have bW := o11.below _ _ bW (Nat.le_of_lt hrg)
                  refine hK.out _ _ (o11.below _ _ (Below.refl _ _) (Nat.le_of_lt hrg)) ?_
                  clear hK K
                  try simp only [List.setIfInBounds_toArray, List.set_cons_zero, List.set_cons_succ]
                  refine wpAnyH_done (by kernel_rfl) ?_ _
                  go_wp2_with fail
                  go_meet
                  exact ⟨u, v, x, o, p, q, fs, gs, hs, hg11, hr, co, hO, hP, hQ, lno, lnp, lnq, hrg, bW⟩
              case rest =>
                clear hcs
                have hcs := hcut
                clear hcut
                obtain ⟨u, v, x, o, p, q, fs, gs, hs, hg, hr, co, hO, hP, hQ, lno, lnp, lnq, hrg, bW⟩ := hcs
                have g0 := hg.cell 0
                have g1 := hg.cell 1
                have g2 := hg.cell 2
                have g3 := hg.cell 3
                have g4 := hg.cell 4
                simp only [List.getElem?_cons_zero, List.getElem?_cons_succ] at g0 g1 g2 g3 g4
                go_wp2_with (refine wpList_storeB rfl rfl 77 (.tmp 8) (.tmp 132) rfl courseTy (w.heap.size + 2) rfl [.string (nd dd x'), .string (nd dd y'), u, v, x] rfl 77 _ hr rfl rfl (five_one (own_val co.a1).1 (own_val co.a2).1 (own_val co.a3).1) ?_; intro x4 hr4 o4)
                have co4 := co.only o4 (.inr (.inl rfl)) hr course_ne
                have bW4 := o4.below _ _ bW (Nat.le_refl _)
                exact bodyPost_ret (v := .agg #[.string (nd dd x'), .string (nd dd y'), u, v, x]) (results_cellL rfl courseTy _ _ (w.heap.size + 2) 77 [.string (nd dd x'), .string (nd dd y'), u, v, x] rfl hr4 rfl) rfl
                  ⟨u, v, x, rfl, ⟨o, p, q, fs, gs, hs, co4.re (Nat.le_trans (Nat.le_add_right _ 2) (Nat.le_succ _)) (Below.refl _ _) (fun k hk => .inl (.inl hk)), hO.out.trans HOL.out.symm, hP.out.trans HFR.out.symm, hQ.out.trans HPR.out.symm, by omega, by omega, by omega⟩, HBW.out _ bW4⟩
end Go.Proofs.YtihkfomldbjpoaaDoor.ClW

/- clash: a course of all. -/
namespace Go.Proofs.YtihkfomldbjpoaaDoor.ClW
open Go.RowKit TreeW ConsW TrW ClashW
open ShaW Sha
open CoW
set_option maxRecDepth 1000000 in
set_option maxHeartbeats 20000000 in
theorem computed_equal (f : Nat) (_ih : CP f) : CPw (fun m n => m = n) (f + 1) := by
  intro T base A m c B d A' n c' B' d' a b D lp cp ps pa one X Y w0 w hT0 h0 hbel hTT la lb hD hlp hdg hlc hcp h1 hmn hf hone h32 hro hC
  have k0 : At (((w.alloc (.cells #[.slice A m c, .slice B m d] 62)).alloc (.cells #[.slice A' n c', .slice B' n d'] 62)).alloc (.cells #[.string ⟨#[]⟩, .string ⟨#[]⟩, .slice none 0 0, .slice none 0 0, .slice none 0 0] 77)) w.heap.size 62 [.slice A m c, .slice B m d] := ((At.new_ w _ 62 [.slice A m c, .slice B m d] rfl).alloc _).alloc _
  have k1 : At (((w.alloc (.cells #[.slice A m c, .slice B m d] 62)).alloc (.cells #[.slice A' n c', .slice B' n d'] 62)).alloc (.cells #[.string ⟨#[]⟩, .string ⟨#[]⟩, .slice none 0 0, .slice none 0 0, .slice none 0 0] 77)) (w.heap.size + 1) 62 [.slice A' n c', .slice B' n d'] := (At.new_ _ _ 62 [.slice A' n c', .slice B' n d'] (by simp)).alloc _
  have hr0 : At (((w.alloc (.cells #[.slice A m c, .slice B m d] 62)).alloc (.cells #[.slice A' n c', .slice B' n d'] 62)).alloc (.cells #[.string ⟨#[]⟩, .string ⟨#[]⟩, .slice none 0 0, .slice none 0 0, .slice none 0 0] 77)) (w.heap.size + 2) 77 [.string ⟨#[]⟩, .string ⟨#[]⟩, .slice none 0 0, .slice none 0 0, .slice none 0 0] := At.new_ _ _ 77 _ (by simp)
  have b0 : Below w.heap.size w (((w.alloc (.cells #[.slice A m c, .slice B m d] 62)).alloc (.cells #[.slice A' n c', .slice B' n d'] 62)).alloc (.cells #[.string ⟨#[]⟩, .string ⟨#[]⟩, .slice none 0 0, .slice none 0 0, .slice none 0 0] 77)) := (((Below.refl _ _).alloc (Nat.le_refl _) _).alloc (by simp) _).alloc (by simp; omega) _
  have hbz : base ≤ w.heap.size := by rw [← h0]; exact hbel.size
  have HBZ := Lib.hid hbz
  have HBL := Lib.hid (fun W (hb : Below (w.heap.size + 2) (((w.alloc (.cells #[.slice A m c, .slice B m d] 62)).alloc (.cells #[.slice A' n c', .slice B' n d'] 62)).alloc (.cells #[.string ⟨#[]⟩, .string ⟨#[]⟩, .slice none 0 0, .slice none 0 0, .slice none 0 0] 77)) W) => hbel.trans ((b0.trans (hb.mono (Nat.le_add_right _ 2))).mono hbz))
  have HBW := Lib.hid (fun W (hb : Below (w.heap.size + 2) (((w.alloc (.cells #[.slice A m c, .slice B m d] 62)).alloc (.cells #[.slice A' n c', .slice B' n d'] 62)).alloc (.cells #[.string ⟨#[]⟩, .string ⟨#[]⟩, .slice none 0 0, .slice none 0 0, .slice none 0 0] 77)) W) => b0.trans (hb.mono (Nat.le_add_right _ 2)))
  have H0 := Lib.hid h0
  have HT0 := Lib.hid hT0
  have HTT := Lib.hid hTT
  have HT := Lib.hid (fun W (hb : Below (w.heap.size + 2) (((w.alloc (.cells #[.slice A m c, .slice B m d] 62)).alloc (.cells #[.slice A' n c', .slice B' n d'] 62)).alloc (.cells #[.string ⟨#[]⟩, .string ⟨#[]⟩, .slice none 0 0, .slice none 0 0, .slice none 0 0] 77)) W) => hT0.below (HBL.out W hb) (by rw [← h0]; exact hT0.pos))
  have HLA := Lib.hid (fun W (hb : Below (w.heap.size + 2) (((w.alloc (.cells #[.slice A m c, .slice B m d] 62)).alloc (.cells #[.slice A' n c', .slice B' n d'] 62)).alloc (.cells #[.string ⟨#[]⟩, .string ⟨#[]⟩, .slice none 0 0, .slice none 0 0, .slice none 0 0] 77)) W) => la.below (by rw [h0]; exact HBL.out W hb))
  have HLB := Lib.hid (fun W (hb : Below (w.heap.size + 2) (((w.alloc (.cells #[.slice A m c, .slice B m d] 62)).alloc (.cells #[.slice A' n c', .slice B' n d'] 62)).alloc (.cells #[.string ⟨#[]⟩, .string ⟨#[]⟩, .slice none 0 0, .slice none 0 0, .slice none 0 0] 77)) W) => lb.below (by rw [h0]; exact HBL.out W hb))
  have LA_ := Lib.hid la
  have LB_ := Lib.hid lb
  have hm40 := la.l40
  have hn40 := lb.l40
  have HA0 : Hid (∀ W, Below (w.heap.size + 2) (((w.alloc (.cells #[.slice A m c, .slice B m d] 62)).alloc (.cells #[.slice A' n c', .slice B' n d'] 62)).alloc (.cells #[.string ⟨#[]⟩, .string ⟨#[]⟩, .slice none 0 0, .slice none 0 0, .slice none 0 0] 77)) W → W.cell? ⟨w.heap.size, 0, none⟩ = some (.slice A m c)) := fun W hb => (k0.below hb (by omega)).cell 0
  have HA1 : Hid (∀ W, Below (w.heap.size + 2) (((w.alloc (.cells #[.slice A m c, .slice B m d] 62)).alloc (.cells #[.slice A' n c', .slice B' n d'] 62)).alloc (.cells #[.string ⟨#[]⟩, .string ⟨#[]⟩, .slice none 0 0, .slice none 0 0, .slice none 0 0] 77)) W → W.cell? ⟨w.heap.size, 1, none⟩ = some (.slice B m d)) := fun W hb => (k0.below hb (by omega)).cell 1
  have HB0 : Hid (∀ W, Below (w.heap.size + 2) (((w.alloc (.cells #[.slice A m c, .slice B m d] 62)).alloc (.cells #[.slice A' n c', .slice B' n d'] 62)).alloc (.cells #[.string ⟨#[]⟩, .string ⟨#[]⟩, .slice none 0 0, .slice none 0 0, .slice none 0 0] 77)) W → W.cell? ⟨w.heap.size + 1, 0, none⟩ = some (.slice A' n c')) := fun W hb => (k1.below hb (by omega)).cell 0
  have HB1 : Hid (∀ W, Below (w.heap.size + 2) (((w.alloc (.cells #[.slice A m c, .slice B m d] 62)).alloc (.cells #[.slice A' n c', .slice B' n d'] 62)).alloc (.cells #[.string ⟨#[]⟩, .string ⟨#[]⟩, .slice none 0 0, .slice none 0 0, .slice none 0 0] 77)) W → W.cell? ⟨w.heap.size + 1, 1, none⟩ = some (.slice B' n d')) := fun W hb => (k1.below hb (by omega)).cell 1
  have ca0 := HA0.out _ (Below.refl _ _)
  have ca1 := HA1.out _ (Below.refl _ _)
  have cb0 := HB0.out _ (Below.refl _ _)
  have cb1 := HB1.out _ (Below.refl _ _)
  have HONE := Lib.hid hone
  have HR := Lib.hid hro
  have h32 := Lib.hid h32
  have HLP := Lib.hid hlp
  clear k0 k1 b0 hbz hbel hTT hT0 h0 la lb hone hro hlp
  subst hC
  have HTK : Hid (b.take m = b) := List.take_of_length_le (by rw [LB_.out.len]; exact Nat.le_refl _)
  have HPR := Lib.hid (pr_all (b := b) LA_.out.len)
  rw [HTK.out] at HPR
  obtain ⟨S, hS⟩ : ∃ S : Nat → Prop, S = (fun k => T k ∨ k = w.heap.size + 2) := ⟨_, rfl⟩
  have hS0 : ∀ W, Below (w.heap.size + 2) (((w.alloc (.cells #[.slice A m c, .slice B m d] 62)).alloc (.cells #[.slice A' m c', .slice B' m d'] 62)).alloc (.cells #[.string ⟨#[]⟩, .string ⟨#[]⟩, .slice none 0 0, .slice none 0 0, .slice none 0 0] 77)) W → w.heap.size + 2 < W.heap.size → ∀ k, S k → base ≤ k ∧ k < W.heap.size := fun W hb hlt k hk => by
    subst hS
    rcases hk with h | rfl
    · have := HTT.out k h; omega
    · have := HBZ.out; omega
  have HS0 := Lib.hid hS0
  have HST : Hid (∀ k, T k → S k) := fun k hk => by subst hS; exact .inl hk
  have HSR : Hid (S (w.heap.size + 2)) := by subst hS; exact .inr rfl
  have HSB : Hid (∀ k, S k → k ≤ w.heap.size + 2) := fun k hk => by
    subst hS
    rcases hk with h | rfl
    · have := HTT.out k h; omega
    · exact Nat.le_refl _
  clear hS hS0
  cases pa with
  | false =>
    have HR : Hid (ro m m true one ps = some (X, Y)) := HR
    obtain ⟨hX, hY⟩ := ro_all_t HR.out
    subst hX hY
    have HO := Lib.hid (HONE.out rfl)
    clear hD hdg hlc
    go_enter Tryd.func50, Tryd.ntmps50
    go_wp2_with fail
    refine (rootL_any A m c B d a _ (HT.out _ (Below.refl _ _)) (HLA.out _ (Below.refl _ _))).mono ?_
    rintro e w1 ⟨rfl, hb1⟩
    rw [← HO.out]
    have bW : Below (w.heap.size + 2) (((w.alloc (.cells #[.slice A m c, .slice B m d] 62)).alloc (.cells #[.slice A' m c', .slice B' m d'] 62)).alloc (.cells #[.string ⟨#[]⟩, .string ⟨#[]⟩, .slice none 0 0, .slice none 0 0, .slice none 0 0] 77)) w1 := hb1.mono (by simp)
    have hr := hr0.below hb1 hr0.lt
    clear hr0 hb1 ca0 ca1 cb0 cb1
    have ca0 := HA0.out _ bW
    have ca1 := HA1.out _ bW
    have cb0 := HB0.out _ bW
    have cb1 := HB1.out _ bW
    go_wp2_with fail
    refine (fv_of (lists_any m S base A m c B d A' c' B' d' a b w0 _ HT0.out H0.out (HBL.out _ bW) (HS0.out _ bW hr.lt) LA_.out LB_.out h1 (Nat.le_refl _))).mono ?_
    rintro e w8 ⟨N8, p8, q8, rfl, f8, hb8⟩
    have bW := bW.trans (hb8.mono (Nat.le_of_lt hr.lt))
    have hr := hr.below hb8 hr.lt
    have hlt8 : w.heap.size + 2 + 1 ≤ w8.heap.size := hr.lt
    have hb9 : Below w8.heap.size w8 (w8.alloc (.cells #[(.func (.func N8) #[] #[.pointer (some ⟨p8, 0, none⟩), .pointer (some ⟨q8, 0, none⟩)])] 70)) := (Below.refl _ _).alloc (Nat.le_refl _) _
    have own9 := SealW.own_lit w8 (w.heap.size + 2 + 1) 70 [(.func (.func N8) #[] #[.pointer (some ⟨p8, 0, none⟩), .pointer (some ⟨q8, 0, none⟩)])] 1 rfl hlt8 (by omega)
    have bW := bW.trans (hb9.mono (Nat.le_of_lt hr.lt))
    have hr := hr.below hb9 hr.lt
    clear hb8 ca0 ca1 cb0 cb1
    go_wp2_with (refine wpList_storeB rfl rfl 77 (.tmp 8) (.tmp 34) rfl courseTy (w.heap.size + 2) rfl [.string one, .string one, .slice none 0 0, .slice none 0 0, .slice (some ⟨w8.heap.size, 0, none⟩) 1 1] rfl 77 _ hr rfl rfl (five_one rfl rfl rfl) ?_; intro x4 hr4 o4)
    have own10 := own_only own9 o4 (Nat.lt_succ_self _)
    have bW4 := o4.below _ _ bW (Nat.le_refl _)
    have ne : ∀ k, ¬ Own (.slice none 0 0) k := fun k h => by cases h
    have nk : ∀ k, S3 T (.slice none 0 0) (.slice none 0 0) (.slice (some ⟨w8.heap.size, 0, none⟩) 1 1) k → S k ∨ w8.heap.size ≤ k := fun k hk => by
      rcases hk with h | h | h | h
      · exact .inl (HST.out k h)
      · exact absurd h (ne k)
      · exact absurd h (ne k)
      · exact .inr (Nat.le_of_eq (Option.some.inj h))
    have last := f8.frm ((Frm.of_below hb9).trans (Frm.only o4 HSR.out)) nk
    exact bodyPost_ret (v := .agg #[.string one, .string one, .slice none 0 0, .slice none 0 0, .slice (some ⟨w8.heap.size, 0, none⟩) 1 1]) (results_cellL rfl courseTy _ _ (w.heap.size + 2) 77 [.string one, .string one, .slice none 0 0, .slice none 0 0, .slice (some ⟨w8.heap.size, 0, none⟩) 1 1] rfl hr4 rfl) rfl
      ⟨_, _, _, rfl, ⟨[], [], [tc a b], [], [], [(.func (.func N8) #[] #[.pointer (some ⟨p8, 0, none⟩), .pointer (some ⟨q8, 0, none⟩)])], ⟨World.ownsRow_nil _ _ _ _, World.ownsRow_nil _ _ _ _, own_base own10 (Nat.le_trans (Nat.le_add_right _ 2) (Nat.le_succ _)), Fds.nil _ _, Fds.nil _ _, Fds.sole last, fun k h => absurd h (ne k), fun k h => absurd h (ne k), fun k h => absurd h (ne k)⟩,
        (ol_all _ _ _ _ _).symm, (fr_all _ _ _ _ _).symm, (fo_one _).trans HPR.out.symm, Nat.zero_le _, Nat.zero_le _, (show 1 ≤ 3 * m by omega)⟩, HBW.out _ bW4⟩
  | true =>
    have HR : Hid (ro m m false one ps = some (X, Y)) := HR
    obtain ⟨s, rfl, hX, hY⟩ := ro_all_f HR.out
    subst hX hY
    obtain ⟨bb, oo, rfl, hblt, hcell⟩ := hD.get (j := 0) (by simp [scells])
    have HCELL : Hid (∀ W, Below base w0 W → W.cell? ⟨bb, oo, none⟩ = some (.string s)) := fun W hb => (hb.cell (p := ⟨bb, oo, none⟩) (by rw [← H0.out]; exact hblt)).trans (hcell 0 _ (by simp [scells]))
    obtain rfl : 1 = lp := HLP.out
    clear hD hdg hcell
    go_enter Tryd.func50, Tryd.ntmps50
    go_wp2_with fail
    refine (rootL_any A m c B d a _ (HT.out _ (Below.refl _ _)) (HLA.out _ (Below.refl _ _))).mono ?_
    rintro e w1 ⟨rfl, hb1⟩
    obtain ⟨R, hR⟩ : ∃ R, rt (a.map lf) = R := ⟨_, rfl⟩
    rw [hR]
    clear hR
    have bW : Below (w.heap.size + 2) (((w.alloc (.cells #[.slice A m c, .slice B m d] 62)).alloc (.cells #[.slice A' m c', .slice B' m d'] 62)).alloc (.cells #[.string ⟨#[]⟩, .string ⟨#[]⟩, .slice none 0 0, .slice none 0 0, .slice none 0 0] 77)) w1 := hb1.mono (by simp)
    have hr := hr0.below hb1 hr0.lt
    clear hr0 hb1 ca0 ca1 cb0 cb1
    have ca0 := HA0.out _ bW
    have ca1 := HA1.out _ bW
    have cb0 := HB0.out _ bW
    have cb1 := HB1.out _ bW
    have hcd := HCELL.out _ (HBL.out _ bW)
    go_wp2_with fail
    refine (fv_of (lists_any m S base A m c B d A' c' B' d' a b w0 _ HT0.out H0.out (HBL.out _ bW) (HS0.out _ bW hr.lt) LA_.out LB_.out h1 (Nat.le_refl _))).mono ?_
    rintro e w8 ⟨N8, p8, q8, rfl, f8, hb8⟩
    have bW := bW.trans (hb8.mono (Nat.le_of_lt hr.lt))
    have hr := hr.below hb8 hr.lt
    have hlt8 : w.heap.size + 2 + 1 ≤ w8.heap.size := hr.lt
    have hb9 : Below w8.heap.size w8 (w8.alloc (.cells #[(.func (.func N8) #[] #[.pointer (some ⟨p8, 0, none⟩), .pointer (some ⟨q8, 0, none⟩)])] 70)) := (Below.refl _ _).alloc (Nat.le_refl _) _
    have own9 := SealW.own_lit w8 (w.heap.size + 2 + 1) 70 [(.func (.func N8) #[] #[.pointer (some ⟨p8, 0, none⟩), .pointer (some ⟨q8, 0, none⟩)])] 1 rfl hlt8 (by omega)
    have bW := bW.trans (hb9.mono (Nat.le_of_lt hr.lt))
    have hr := hr.below hb9 hr.lt
    clear hb8 ca0 ca1 cb0 cb1
    go_wp2_with (refine wpList_storeB rfl rfl 77 (.tmp 8) (.tmp 34) rfl courseTy (w.heap.size + 2) rfl [.string s, .string s, .slice none 0 0, .slice none 0 0, .slice (some ⟨w8.heap.size, 0, none⟩) 1 1] rfl 77 _ hr rfl rfl (five_one rfl rfl rfl) ?_; intro x4 hr4 o4)
    have own10 := own_only own9 o4 (Nat.lt_succ_self _)
    have bW4 := o4.below _ _ bW (Nat.le_refl _)
    have ne : ∀ k, ¬ Own (.slice none 0 0) k := fun k h => by cases h
    have nk : ∀ k, S3 T (.slice none 0 0) (.slice none 0 0) (.slice (some ⟨w8.heap.size, 0, none⟩) 1 1) k → S k ∨ w8.heap.size ≤ k := fun k hk => by
      rcases hk with h | h | h | h
      · exact .inl (HST.out k h)
      · exact absurd h (ne k)
      · exact absurd h (ne k)
      · exact .inr (Nat.le_of_eq (Option.some.inj h))
    have last := f8.frm ((Frm.of_below hb9).trans (Frm.only o4 HSR.out)) nk
    exact bodyPost_ret (v := .agg #[.string s, .string s, .slice none 0 0, .slice none 0 0, .slice (some ⟨w8.heap.size, 0, none⟩) 1 1]) (results_cellL rfl courseTy _ _ (w.heap.size + 2) 77 [.string s, .string s, .slice none 0 0, .slice none 0 0, .slice (some ⟨w8.heap.size, 0, none⟩) 1 1] rfl hr4 rfl) rfl
      ⟨_, _, _, rfl, ⟨[], [], [tc a b], [], [], [(.func (.func N8) #[] #[.pointer (some ⟨p8, 0, none⟩), .pointer (some ⟨q8, 0, none⟩)])], ⟨World.ownsRow_nil _ _ _ _, World.ownsRow_nil _ _ _ _, own_base own10 (Nat.le_trans (Nat.le_add_right _ 2) (Nat.le_succ _)), Fds.nil _ _, Fds.nil _ _, Fds.sole last, fun k h => absurd h (ne k), fun k h => absurd h (ne k), fun k h => absurd h (ne k)⟩,
        (ol_all _ _ _ _ _).symm, (fr_all _ _ _ _ _).symm, (fo_one _).trans HPR.out.symm, Nat.zero_le _, Nat.zero_le _, (show 1 ≤ 3 * m by omega)⟩, HBW.out _ bW4⟩
end Go.Proofs.YtihkfomldbjpoaaDoor.ClW

/- cons: digests. -/
namespace Go.Proofs.YtihkfomldbjpoaaDoor.CoW
open Go.RowKit TreeW TrW
open ShaW Sha
set_option maxHeartbeats 1000000 in
theorem cdigests_any (A : Option Addr) (l c : Nat) (ss : List ByteArray) (w : World) (hl : ss.length = l) (hs : Sl w A (scells ss)) (hl63 : l ≤ 9223372036854775807) :
    Calls Tryd.prog 65 #[.slice A l c] w fun e w' => e = .returned (.bool (decide (Digs ss))) ∧ w = w' := by
  have HL := Lib.hid hl
  clear hl
  go_enter Tryd.func65, Tryd.ntmps65
  go_wp2_with fail
  go_loop [4, 7] (fun _ i => ∃ j : Nat, j ≤ l ∧ i = .int .i64 (j : Int) ∧ Hid (Digs (ss.take j))) (fun _ i => l - (intOf i).toNat)
  case atStart => exact ⟨0, by omega, rfl, fun x hx => by simp at hx⟩
  case round =>
    obtain ⟨j, hj, rfl, HK⟩ := hrel
    by_cases hlt : j < l
    · obtain ⟨b, o, rfl, hblt, hcell⟩ := hs.get (j := j) (by rw [scells_len, HL.out]; exact hlt)
      have hc0 := hcell j _ (scells_get ss j (by rw [HL.out]; exact hlt))
      have hget := get_of (ss := ss) (j := j) (by rw [HL.out]; exact hlt)
      obtain ⟨s, hsj⟩ : ∃ s, ss.getD j ⟨#[]⟩ = s := ⟨_, rfl⟩
      rw [hsj] at hc0 hget
      have HG := Lib.hid hget
      clear hcell hget hsj
      by_cases h32 : s.size = 32
      · have h1 : (s.size : Int) = 32 := by omega
        have HN := Lib.hid (digs_take_succ HG.out HK.out h32)
        clear h32
        go_wp2_with fail
        go_round
        case rel => exact ⟨j + 1, by omega, by go_num, HN⟩
        case measure => simp [intOf]; omega
      · have h1 : ¬ (s.size : Int) = 32 := by omega
        have HF : Hid (decide (Digs ss) = false) := decide_eq_false (fun h => h32 (h s (List.mem_of_getElem? HG.out)))
        clear h32
        go_wp2_with fail
        go_ret
        exact ⟨by rw [HF.out]; rfl, rfl⟩
    · have HF : Hid (decide (Digs ss) = true) := decide_eq_true (by
        have := HK.out
        rwa [List.take_of_length_le (by rw [HL.out]; omega)] at this)
      go_wp2_with fail
      go_ret
      exact ⟨by rw [HF.out]; rfl, rfl⟩
end Go.Proofs.YtihkfomldbjpoaaDoor.CoW

/- cons: node. -/
namespace Go.Proofs.YtihkfomldbjpoaaDoor.CoW
open Go.RowKit TreeW TrW
open ShaW Sha
theorem cnode_any (l r : ByteArray) (w : World) (hT : Tab w) (h1 : l.size = 32) (h2 : r.size = 32) :
    Calls Tryd.prog 106 #[.string l, .string r] w fun e w' => e = .returned (.string (nd l r)) ∧ Below w.heap.size w w' := by
  have H1 := Lib.hid h1
  have H2 := Lib.hid h2
  clear h1 h2
  go_enter Tryd.func106, Tryd.ntmps106
  go_wp2_with fail
  refine (SealW.node_any l r _ hT H1.out H2.out).mono ?_
  rintro e w1 ⟨rfl, hb1⟩
  go_wp2_with fail
  go_ret
  exact ⟨rfl, hb1⟩
end Go.Proofs.YtihkfomldbjpoaaDoor.CoW

/- A proof's roots from the leaves upwards: which steps, and that they lead where the definition does. Nothing of the dump. -/
namespace Go.Proofs.YtihkfomldbjpoaaDoor.ConsW
open TreeW
/-- The steps from node i of a row whose last is j (true: a node on the left of both; false: one on the right of the second). -/
def steps2 : Nat → Nat → Nat → List Bool
  | 0, _, _ => []
  | b + 1, i, j => (if i % 2 = 1 then [true] else if i < j then [false] else []) ++ steps2 b (i / 2) (j / 2)
theorem steps2_zero : ∀ b : Nat, steps2 b 0 0 = []
  | 0 => rfl
  | b + 1 => by unfold steps2; simp [steps2_zero b]
theorem steps2_more : ∀ (b i j : Nat), i ≤ j → j < 2 ^ b → steps2 (b + 1) i j = steps2 b i j
  | 0, i, j, h, hj => by
    have h1 : j = 0 := by simp at hj; exact hj
    have h2 : i = 0 := by omega
    subst h1 h2
    rw [steps2_zero]; rfl
  | b + 1, i, j, h, hj => by
    have e : 2 ^ (b + 1) = 2 * 2 ^ b := by rw [Nat.pow_succ]; omega
    have := steps2_more b (i / 2) (j / 2) (by omega) (by omega)
    unfold steps2
    rw [this]
theorem steps2_fuel {b i j : Nat} (h : i ≤ j) (hj : j < 2 ^ b) : ∀ c : Nat, steps2 (b + c) i j = steps2 b i j
  | 0 => rfl
  | c + 1 => by
    rw [← Nat.add_assoc, steps2_more (b + c) i j h (Nat.lt_of_lt_of_le hj (Nat.pow_le_pow_right (by omega) (by omega))), steps2_fuel h hj c]
theorem steps2_any {b c i j : Nat} (h : i ≤ j) (hb : j < 2 ^ b) (hc : j < 2 ^ c) : steps2 b i j = steps2 c i j := by
  rcases Nat.le_total b c with hbc | hbc
  · obtain ⟨d, rfl⟩ := Nat.exists_eq_add_of_le hbc
    exact (steps2_fuel h hb d).symm
  · obtain ⟨d, rfl⟩ := Nat.exists_eq_add_of_le hbc
    exact steps2_fuel h hc d
/-- Below the top: on the left. -/
theorem steps2_low : ∀ (b i j : Nat), i < 2 ^ b → 2 ^ b ≤ j → j < 2 ^ (b + 1) → steps2 (b + 1) i j = steps2 b i (2 ^ b - 1) ++ [false]
  | 0, i, j, h1, h2, h3 => by
    have e1 : i = 0 := by simp at h1; exact h1
    have e2 : j = 1 := by simp at h2 h3; omega
    subst e1 e2
    rfl
  | b + 1, i, j, h1, h2, h3 => by
    have e : 2 ^ (b + 1) = 2 * 2 ^ b := by rw [Nat.pow_succ]; omega
    have e' : 2 ^ (b + 1 + 1) = 2 * 2 ^ (b + 1) := by rw [Nat.pow_succ]; omega
    have hp : 0 < 2 ^ b := Nat.two_pow_pos b
    have ih := steps2_low b (i / 2) (j / 2) (by omega) (by omega) (by omega)
    have eh : (2 ^ (b + 1) - 1) / 2 = 2 ^ b - 1 := by omega
    rw [show steps2 (b + 1 + 1) i j = (if i % 2 = 1 then [true] else if i < j then [false] else []) ++ steps2 (b + 1) (i / 2) (j / 2) from rfl, ih,
      show steps2 (b + 1) i (2 ^ (b + 1) - 1) = (if i % 2 = 1 then [true] else if i < 2 ^ (b + 1) - 1 then [false] else []) ++ steps2 b (i / 2) ((2 ^ (b + 1) - 1) / 2) from rfl, eh, List.append_assoc]
    by_cases ho : i % 2 = 1
    · rw [if_pos ho, if_pos ho]
    · rw [if_neg ho, if_neg ho, if_pos (by omega), if_pos (by omega)]
/-- Below the top: on the right. -/
theorem steps2_high : ∀ (b i j : Nat), i ≤ j → j < 2 ^ b → steps2 (b + 1) (2 ^ b + i) (2 ^ b + j) = steps2 b i j ++ [true]
  | 0, i, j, h1, h2 => by
    have e1 : j = 0 := by simp at h2; exact h2
    have e2 : i = 0 := by omega
    subst e1 e2
    rfl
  | b + 1, i, j, h1, h2 => by
    have e : 2 ^ (b + 1) = 2 * 2 ^ b := by rw [Nat.pow_succ]; omega
    have ih := steps2_high b (i / 2) (j / 2) (by omega) (by omega)
    have e1 : (2 ^ (b + 1) + i) / 2 = 2 ^ b + i / 2 := by omega
    have e2 : (2 ^ (b + 1) + j) / 2 = 2 ^ b + j / 2 := by omega
    rw [show steps2 (b + 1 + 1) (2 ^ (b + 1) + i) (2 ^ (b + 1) + j) = (if (2 ^ (b + 1) + i) % 2 = 1 then [true] else if (2 ^ (b + 1) + i) < (2 ^ (b + 1) + j) then [false] else []) ++ steps2 (b + 1) ((2 ^ (b + 1) + i) / 2) ((2 ^ (b + 1) + j) / 2) from rfl, e1, e2, ih,
      show steps2 (b + 1) i j = (if i % 2 = 1 then [true] else if i < j then [false] else []) ++ steps2 b (i / 2) (j / 2) from rfl, List.append_assoc]
    have e3 : (2 ^ (b + 1) + i) % 2 = i % 2 := by omega
    rw [e3]
    by_cases ho : i % 2 = 1
    · rw [if_pos ho, if_pos ho]
    · rw [if_neg ho, if_neg ho]
      by_cases hl : i < j
      · rw [if_pos hl, if_pos (by omega)]
      · rw [if_neg hl, if_neg (by omega)]
section
variable {D : Type} (N : D → D → D) (E : D)
/-- Both roots by such steps. -/
def run2 : List Bool → D → D → List D → Option (D × D)
  | [], f, s, [] => some (f, s)
  | [], _, _, _ :: _ => none
  | _ :: _, _, _, [] => none
  | true :: ts, f, s, d :: q => run2 ts (N d f) (N d s) q
  | false :: ts, f, s, d :: q => run2 ts f (N s d) q
theorem run2_nil (f s : D) : run2 N [] f s [] = some (f, s) := rfl
theorem run2_over (f s d : D) (q : List D) : run2 N [] f s (d :: q) = none := rfl
theorem run2_short (t : Bool) (ts : List Bool) (f s : D) : run2 N (t :: ts) f s [] = none := by cases t <;> rfl
theorem run2_left (ts : List Bool) (f s d : D) (q : List D) : run2 N (true :: ts) f s (d :: q) = run2 N ts (N d f) (N d s) q := rfl
theorem run2_right (ts : List Bool) (f s d : D) (q : List D) : run2 N (false :: ts) f s (d :: q) = run2 N ts f (N s d) q := rfl
theorem run2_snoc_left (d : D) : ∀ (ts : List Bool) (f s : D) (q : List D), run2 N (ts ++ [true]) f s (q ++ [d]) = (run2 N ts f s q).map fun x => (N d x.1, N d x.2)
  | [], f, s, [] => rfl
  | [], f, s, e :: q => by
    rw [List.nil_append, List.cons_append, run2_left, run2_over]
    cases q <;> rfl
  | t :: ts, f, s, [] => by
    rw [run2_short]
    cases t <;> (cases ts <;> rfl)
  | true :: ts, f, s, e :: q => by
    rw [List.cons_append, List.cons_append, run2_left, run2_left, run2_snoc_left d ts]
  | false :: ts, f, s, e :: q => by
    rw [List.cons_append, List.cons_append, run2_right, run2_right, run2_snoc_left d ts]
theorem run2_snoc_right (d : D) : ∀ (ts : List Bool) (f s : D) (q : List D), run2 N (ts ++ [false]) f s (q ++ [d]) = (run2 N ts f s q).map fun x => (x.1, N x.2 d)
  | [], f, s, [] => rfl
  | [], f, s, e :: q => by
    rw [List.nil_append, List.cons_append, run2_right, run2_over]
    cases q <;> rfl
  | t :: ts, f, s, [] => by
    rw [run2_short]
    cases t <;> (cases ts <;> rfl)
  | true :: ts, f, s, e :: q => by
    rw [List.cons_append, List.cons_append, run2_left, run2_left, run2_snoc_right d ts]
  | false :: ts, f, s, e :: q => by
    rw [List.cons_append, List.cons_append, run2_right, run2_right, run2_snoc_right d ts]
theorem run2_snoc_nil (k : Bool) (ts : List Bool) (f s : D) : run2 N (ts ++ [k]) f s [] = none := by
  cases ts with
  | nil => exact run2_short N _ _ _ _
  | cons t ts => exact run2_short N _ _ _ _
/-- With the first node out of the proof, or not. -/
def first2 (i : Nat) (wh : Bool) (ts : List Bool) (one : D) (p : List D) : Option (D × D) :=
  if i = 0 ∧ wh = true then run2 N ts one one p else match p with
    | [] => none
    | x :: q => run2 N ts x x q
theorem begun_wh {i : Nat} {wh : Bool} (ts : List Bool) (one : D) (p : List D) (h : i = 0 ∧ wh = true) : first2 N i wh ts one p = run2 N ts one one p := if_pos h
theorem begun_nil {i : Nat} {wh : Bool} (ts : List Bool) (one : D) (h : ¬ (i = 0 ∧ wh = true)) : first2 N i wh ts one [] = none := if_neg h
theorem begun_cons {i : Nat} {wh : Bool} (ts : List Bool) (one x : D) (q : List D) (h : ¬ (i = 0 ∧ wh = true)) : first2 N i wh ts one (x :: q) = run2 N ts x x q := if_neg h
theorem begun_snoc_right (d : D) (i : Nat) (wh : Bool) (ts : List Bool) (one : D) (q : List D) : first2 N i wh (ts ++ [false]) one (q ++ [d]) = (first2 N i wh ts one q).map fun x => (x.1, N x.2 d) := by
  by_cases h : i = 0 ∧ wh = true
  · rw [begun_wh N _ _ _ h, begun_wh N _ _ _ h, run2_snoc_right]
  · cases q with
    | nil => rw [List.nil_append, begun_nil N _ _ h, begun_cons N _ _ _ _ h, run2_snoc_nil]; rfl
    | cons x q => rw [List.cons_append, begun_cons N _ _ _ _ h, begun_cons N _ _ _ _ h, run2_snoc_right]
theorem begun_snoc_left (d : D) (i i' : Nat) (wh wh' : Bool) (ts : List Bool) (one : D) (q : List D) (h : ¬ (i = 0 ∧ wh = true)) (h' : ¬ (i' = 0 ∧ wh' = true)) : first2 N i wh (ts ++ [true]) one (q ++ [d]) = (first2 N i' wh' ts one q).map fun x => (N d x.1, N d x.2) := by
  cases q with
  | nil => rw [List.nil_append, begun_nil N _ _ h', begun_cons N _ _ _ _ h, run2_snoc_nil]; rfl
  | cons x q => rw [List.cons_append, begun_cons N _ _ _ _ h, begun_cons N _ _ _ _ h', run2_snoc_left]
theorem begun_snoc_nil (i : Nat) (wh k : Bool) (ts : List Bool) (one : D) : first2 N i wh (ts ++ [k]) one [] = none := by
  by_cases h : i = 0 ∧ wh = true
  · rw [begun_wh N _ _ _ h, run2_snoc_nil]
  · exact begun_nil N _ _ h
/-- The steps lead where the definition does. -/
theorem roots_begun : ∀ (g m n t i b : Nat) (wh : Bool) (one : D) (p : List D), n ≤ g → 1 ≤ m → m < n ∨ m = n ∧ i = 0 → m = 2 ^ t * (i + 1) → i % 2 = 0 → (n - 1) / 2 ^ t < 2 ^ b →
    roots N m n wh one p = first2 N i wh (steps2 b i ((n - 1) / 2 ^ t)) one p := by
  intro g
  induction g with
  | zero => intro m n t i b wh one p hg h1 h2 hm hi hb; omega
  | succ g ih =>
    intro m n t i b wh one p hg h1 h2 hm hi hb
    have hpt : 0 < 2 ^ t := Nat.two_pow_pos t
    by_cases hmn : m = n
    · have hi0 : i = 0 := by omega
      subst hi0
      have ej : (n - 1) / 2 ^ t = 0 := Nat.div_eq_of_lt (by rw [← hmn, hm]; omega)
      rw [ej, steps2_zero]
      subst hmn
      rw [roots_all]
      cases wh with
      | true =>
        rw [begun_wh N _ _ _ ⟨rfl, rfl⟩]
        cases p with
        | nil => rfl
        | cons x q => rfl
      | false =>
        match p with
        | [] => rfl
        | [x] => rfl
        | x :: y :: q => rfl
    · have hlt : m < n := by omega
      obtain ⟨a1, a2, a3, B, hB⟩ := split_spec (n := n) (by omega)
      obtain ⟨k, hk⟩ : ∃ k, k = split n := ⟨_, rfl⟩
      rw [← hk] at a1 a2 a3 hB
      have hmp : 2 ^ t ≤ m := by rw [hm]; exact Nat.le_mul_of_pos_right _ (by omega)
      have htB : t ≤ B := by
        have : 2 ^ t < 2 ^ (B + 1) := by rw [Nat.pow_succ]; omega
        have := (Nat.pow_lt_pow_iff_right (a := 2) (by omega)).1 this
        omega
      obtain ⟨c, hc⟩ := Nat.exists_eq_add_of_le htB
      have hkc : k = 2 ^ t * 2 ^ c := by rw [hB, hc, Nat.pow_add]
      have hc1 : 0 < 2 ^ c := Nat.two_pow_pos c
      have e2 : 2 ^ (c + 1) = 2 * 2 ^ c := by rw [Nat.pow_succ]; omega
      have hJ1 : 2 ^ c ≤ (n - 1) / 2 ^ t := (Nat.le_div_iff_mul_le hpt).2 (by rw [Nat.mul_comm, ← hkc]; omega)
      have hJ2 : (n - 1) / 2 ^ t < 2 ^ (c + 1) := (Nat.div_lt_iff_lt_mul hpt).2 (by rw [e2, Nat.mul_assoc, Nat.mul_comm (2 ^ c), ← hkc]; omega)
      by_cases hmk : m ≤ k
      · have hic : i + 1 ≤ 2 ^ c := Nat.le_of_mul_le_mul_left (by rw [← hm, ← hkc]; exact hmk) hpt
        rw [steps2_any (b := b) (c := c + 1) (by omega) hb hJ2, steps2_low c i _ (by omega) hJ1 hJ2]
        rcases List.eq_nil_or_concat p with rfl | ⟨q, d, rfl⟩
        · rw [roots_nil N h1 hlt, begun_snoc_nil]
        · rw [List.concat_eq_append, roots_left N hk h1 hlt hmk, begun_snoc_right]
          have ek : (k - 1) / 2 ^ t = 2 ^ c - 1 := by
            rw [hkc]
            exact Nat.div_eq_of_lt_le (by rw [Nat.sub_mul, Nat.mul_comm (2 ^ c)]; omega) (by rw [Nat.sub_add_cancel hc1, Nat.mul_comm (2 ^ c)]; have := Nat.mul_pos hpt hc1; omega)
          have hor : m < k ∨ m = k ∧ i = 0 := by
            rcases Nat.lt_or_eq_of_le hmk with h | h
            · exact Or.inl h
            · refine Or.inr ⟨h, ?_⟩
              have e1 : i + 1 = 2 ^ c := Nat.eq_of_mul_eq_mul_left hpt (by rw [← hm, ← hkc]; exact h)
              cases c with
              | zero => simp at e1; exact e1
              | succ c => rw [Nat.pow_succ] at e1; omega
          rw [ih m k t i c wh one q (by omega) h1 hor hm hi (by rw [ek]; omega), ek]
      · have hcp : 0 < c := by
          rcases Nat.eq_zero_or_pos c with h0 | h0
          · subst h0
            exfalso
            simp only [Nat.pow_zero, Nat.mul_one] at hkc
            cases i with
            | zero => omega
            | succ i => rw [Nat.mul_succ, Nat.mul_succ] at hm; omega
          · exact h0
        obtain ⟨c', rfl⟩ : ∃ c', c = c' + 1 := ⟨c - 1, by omega⟩
        have e3 : 2 ^ (c' + 1) = 2 * 2 ^ c' := by rw [Nat.pow_succ]; omega
        have hic : 2 ^ (c' + 1) < i + 1 := Nat.lt_of_mul_lt_mul_left (a := 2 ^ t) (by rw [← hm, ← hkc]; omega)
        obtain ⟨i', hi'⟩ : ∃ i', i = 2 ^ (c' + 1) + i' := ⟨i - 2 ^ (c' + 1), by omega⟩
        have hm' : m - k = 2 ^ t * (i' + 1) := by rw [hm, hkc, hi', Nat.add_assoc, Nat.mul_add]; omega
        have ej : (n - 1) / 2 ^ t = 2 ^ (c' + 1) + (n - k - 1) / 2 ^ t := by
          rw [show n - 1 = 2 ^ t * 2 ^ (c' + 1) + (n - k - 1) by rw [← hkc]; omega, Nat.mul_add_div hpt]
        have hj' : (n - k - 1) / 2 ^ t < 2 ^ (c' + 1) := by omega
        have hij : i' ≤ (n - k - 1) / 2 ^ t := (Nat.le_div_iff_mul_le hpt).2 (by rw [Nat.mul_comm]; rw [Nat.mul_succ] at hm'; omega)
        rw [steps2_any (b := b) (c := c' + 1 + 1) (by omega) hb hJ2, ej, hi', steps2_high (c' + 1) i' _ hij hj']
        have hni : ¬ (2 ^ (c' + 1) + i' = 0 ∧ wh = true) := fun h => by omega
        have hnf : ¬ (i' = 0 ∧ false = true) := fun h => by cases h.2
        rcases List.eq_nil_or_concat p with rfl | ⟨q, d, rfl⟩
        · rw [roots_nil N h1 hlt, begun_snoc_nil]
        · rw [List.concat_eq_append, roots_right N hk h1 hlt hmk, begun_snoc_left N d _ i' wh false _ _ _ hni hnf,
            ih (m - k) (n - k) t i' (c' + 1) false one q (by omega) (by omega) (Or.inl (by omega)) hm' (by omega) hj']
end
/-- The nodes that the code climbs from. -/
def At2 (m n i j : Nat) : Prop := ∃ t, m = 2 ^ t * (i + 1) ∧ j = (n - 1) / 2 ^ t
theorem At2.start {m n : Nat} (h : 1 ≤ m) : At2 m n (m - 1) (n - 1) := ⟨0, by simp; omega, by simp⟩
theorem At2.up {m n i j : Nat} (h : At2 m n i j) (ho : i % 2 = 1) : At2 m n (i / 2) (j / 2) := by
  obtain ⟨t, h1, h2⟩ := h
  refine ⟨t + 1, ?_, ?_⟩
  · rw [h1, Nat.pow_succ, Nat.mul_assoc]; congr 1; omega
  · rw [h2, Nat.pow_succ, Nat.div_div_eq_div_mul]
theorem At2.le {m n i j : Nat} (h : At2 m n i j) (hmn : m ≤ n) : i ≤ j ∧ j < n ∨ n = 0 := by
  obtain ⟨t, h1, h2⟩ := h
  have hpt : 0 < 2 ^ t := Nat.two_pow_pos t
  rcases Nat.eq_zero_or_pos n with h0 | h0
  · exact Or.inr h0
  · refine Or.inl ⟨?_, ?_⟩
    · rw [h2]
      refine (Nat.le_div_iff_mul_le hpt).2 ?_
      rw [Nat.mul_comm]; rw [Nat.mul_succ] at h1; omega
    · rw [h2]; have := Nat.div_le_self (n - 1) (2 ^ t); omega
theorem At2.roots {D : Type} (N : D → D → D) {m n i j : Nat} (h : At2 m n i j) (he : i % 2 = 0) (h1 : 1 ≤ m) (h2 : m < n) (b : Nat) (hb : j < 2 ^ b) (wh : Bool) (one : D) (p : List D) :
    roots N m n wh one p = first2 N i wh (steps2 b i j) one p := by
  obtain ⟨t, e1, e2⟩ := h
  subst e2
  exact roots_begun N n m n t i b wh one p (Nat.le_refl _) h1 (Or.inl h2) e1 he hb
/-- One step of the steps from nodes below 2^40. -/
theorem st_step {i j : Nat} (h : i ≤ j) (hj : j < 1099511627776) : steps2 40 i j = (if i % 2 = 1 then [true] else if i < j then [false] else []) ++ steps2 40 (i / 2) (j / 2) := by
  have e : (2 : Nat) ^ 40 = 1099511627776 := by decide
  rw [← steps2_more 40 i j h (by rw [e]; exact hj)]
  rfl
theorem st_left {i j : Nat} (h : i ≤ j) (hj : j < 1099511627776) (ho : i % 2 = 1) : steps2 40 i j = true :: steps2 40 (i / 2) (j / 2) := by rw [st_step h hj, if_pos ho]; rfl
theorem st_right {i j : Nat} (h : i ≤ j) (hj : j < 1099511627776) (ho : i % 2 = 0) (hl : i < j) : steps2 40 i j = false :: steps2 40 (i / 2) (j / 2) := by rw [st_step h hj, if_neg (by omega), if_pos hl]; rfl
theorem st_skip {i j : Nat} (h : i ≤ j) (hj : j < 1099511627776) (ho : i % 2 = 0) (hl : ¬ i < j) : steps2 40 i j = steps2 40 (i / 2) (j / 2) := by rw [st_step h hj, if_neg (by omega), if_neg hl]; rfl
theorem steps2_pos : ∀ (b i j : Nat), i ≤ j → 0 < j → j < 2 ^ b → steps2 b i j ≠ []
  | 0, i, j, _, h0, hb => by simp at hb; omega
  | b + 1, i, j, h, h0, hb => by
    have e : 2 ^ (b + 1) = 2 * 2 ^ b := by rw [Nat.pow_succ]; omega
    unfold steps2
    by_cases ho : i % 2 = 1
    · rw [if_pos ho]; simp
    · rw [if_neg ho]
      by_cases hl : i < j
      · rw [if_pos hl]; simp
      · rw [if_neg hl, List.nil_append]
        exact steps2_pos b (i / 2) (j / 2) (by omega) (by omega) (by omega)
theorem st_short {D : Type} (N : D → D → D) {i j : Nat} (h : i ≤ j) (h0 : 0 < j) (hj : j < 1099511627776) (f s : D) : run2 N (steps2 40 i j) f s [] = none := by
  have e : (2 : Nat) ^ 40 = 1099511627776 := by decide
  have := steps2_pos 40 i j h h0 (by rw [e]; exact hj)
  match hs : steps2 40 i j with
  | [] => exact absurd hs this
  | t :: ts => exact run2_short N _ _ _ _
theorem drop_get {D : Type} {l : List D} {k : Nat} {x : D} (h : l[k]? = some x) : l.drop k = x :: l.drop (k + 1) := by
  obtain ⟨h1, h2⟩ := List.getElem?_eq_some_iff.1 h
  rw [List.drop_eq_getElem_cons h1, h2]
end Go.Proofs.YtihkfomldbjpoaaDoor.ConsW
