/- The laws TokenCuts, TokenRows. -/
import Derived.Test.YtpnnebnjkinndaaDoorVj
import Derived.Test.YtpnnebnjkinndaaDoorGrd
namespace Go.Proofs.YtpnnebnjkinndaaDoor.TokW
open Go.RowKit UtfW Go.Sort Go.Shelf
set_option maxRecDepth 1000000 in
set_option maxHeartbeats 2000000 in
theorem lawCuts (A : Option Addr) (n c : Nat) (bs : List UInt8) (w : World) (hT : Tabs w) (hn : bs.length = n) (hA : Sl w A (bcells bs)) (hnc : n ≤ c) (hc : c ≤ 9223372036854775807) :
    Calls Tryd.prog 3 #[.slice A n c] w fun e w' => e = .returned (.bool true) ∧ Below w.heap.size w w' := by
  have HT := Lib.hid (fun W (hb : Below w.heap.size w W) => hT.below hb hT.pos)
  have HM := Lib.hid hn
  clear hn
  by_cases hg : 2000 < n
  · go_enter Tryd.func3, Tryd.ntmps3
    go_wp2_with fail
    refine (great_yes A n c _ hg).mono ?_
    rintro e w1 ⟨rfl, rfl⟩
    go_wp2_with fail
    refine (knows_any _ hT).mono ?_
    rintro e w1 ⟨rfl, b1⟩
    go_wp2_with fail
    go_ret
    exact ⟨rfl, b1⟩
  · clear hT
    have o0 : (w.alloc (.cells #[] 5)).ownsRow w.heap.size 5 1 (.slice (some ⟨w.heap.size, 0, none⟩) 0 0) 0 [] := own_lit w w.heap.size 5 [] 0 rfl (Nat.le_refl _) (by omega)
    have b0 : Below w.heap.size w (w.alloc (.cells #[] 5)) := (Below.refl _ _).alloc (Nat.le_refl _) _
    go_enter Tryd.func3, Tryd.ntmps3
    go_wp2_with fail
    refine (great_no A n c _ hg).mono ?_
    rintro e w1 ⟨rfl, rfl⟩
    go_wp2_with (refine wpList_app rfl (.tmp 6) (.tmp 7) 22 rfl bytesTy w.heap.size (.slice (some ⟨w.heap.size, 0, none⟩) 0 0) 0 [] rfl o0 A n c (bcells bs) rfl (by rw [bcells_len]; exact HM.out) (hA.below b0) (bcells_one _) (by omega) (by simp) ?_; intro v1 w1 hown1 hgr1 hbl1)
    have b1 := below_app b0 hgr1 o0 (Nat.le_refl _) (by simp)
    obtain ⟨A1, c1, rfl, hs1, hc1, _, hm1, _⟩ := own_slice hown1
    rw [List.nil_append] at hs1
    rw [Nat.zero_add] at hc1 ⊢
    unfold maxLen at hm1
    clear o0 b0 hown1 hgr1 hbl1
    refine (terms_any A1 n c1 bs _ (HT.out _ b1) HM.out hs1 hc1 (by omega) (by omega)).mono ?_
    rintro e w2 ⟨v2, s2, rfl, hss2, hown2, hb2⟩
    have b2 := b1.trans (hb2.mono b1.size)
    have hlen2 := terms_len bs
    clear hs1 hb2 b1
    go_wp2_with fail
    refine (refTerms A n c bs _ HM.out (hA.below b2) hnc hc (by omega)).mono ?_
    rintro e w3 ⟨v3, s3, rfl, hss3, hown3, hb3⟩
    obtain rfl : s2 = s3 := sbytes_inj (by rw [hss2, hss3])
    have hsl : s2.length ≤ n := by rw [← hss2, sbytes_len, HM.out] at hlen2; exact hlen2
    have b3 := b2.trans (hb3.mono b2.size)
    have hown2' := hown2.below hb3
    obtain ⟨A2, c2, rfl, t2, _, _, _⟩ := hown2'.slice
    obtain ⟨A3, c3, rfl, t3, _, _, _⟩ := hown3.slice
    clear hown2 hown3 hown2' b2 hb3 hss2 hss3 hlen2
    go_wp2_with fail
    refine (same_any A2 A3 s2.length c2 c3 s2 _ rfl t2 t3 (by omega)).mono ?_
    rintro e w4 ⟨rfl, hb4⟩
    have b4 := b3.trans (hb4.mono b3.size)
    have hz4 := b4.size
    have o4 : (w4.alloc (.cells #[] 5)).ownsRow w4.heap.size 5 1 (.slice (some ⟨w4.heap.size, 0, none⟩) 0 0) 0 [] := own_lit w4 w4.heap.size 5 [] 0 rfl (Nat.le_refl _) (by omega)
    have b4' := b4.alloc hz4 (.cells #[] 5)
    clear t2 t3 hb4 b3
    go_wp2_with (refine wpList_appG rfl (.tmp 14) (.tmp 15) 22 rfl bytesTy w4.heap.size (.slice (some ⟨w4.heap.size, 0, none⟩) 0 0) 0 [] rfl o4 A n c (bcells bs) rfl (by rw [bcells_len]; exact HM.out) (hA.below b4') (bcells_one _) (by omega) (by simp) ?_; intro v5 w5 hown5 hgr5 hbl5)
    have b5 := below_app b4' hgr5 o4 hz4 (by simp; omega)
    obtain ⟨A5, c5, rfl, hs5, hc5, _, hm5, _⟩ := own_slice hown5
    rw [List.nil_append] at hs5
    rw [Nat.zero_add] at hc5 ⊢
    unfold maxLen at hm5
    clear o4 b4 b4' hown5 hgr5 hbl5
    refine (set_any A5 n c5 bs _ (HT.out _ b5) HM.out hs5 hc5 (by omega) (by omega)).mono ?_
    rintro e w6 ⟨v6, s6, rfl, hss6, hown6, hb6⟩
    have b6 := b5.trans (hb6.mono b5.size)
    clear hs5 hb6 b5
    go_wp2_with fail
    refine (refSet A n c bs _ HM.out (hA.below b6) hnc hc (by omega)).mono ?_
    rintro e w7 ⟨v7, s7, rfl, hss7, hown7, hb7⟩
    obtain rfl : s6 = s7 := sbytes_inj (by rw [hss6, hss7])
    have b7 := b6.trans (hb7.mono b6.size)
    have hown6' := hown6.below hb7
    obtain ⟨A6, c6, rfl, t6, hl6, hm6, _⟩ := hown6'.slice
    obtain ⟨A7, c7, rfl, t7, _, _, _⟩ := hown7.slice
    unfold maxLen at hm6
    clear hown6 hown7 hown6' b6 hb7 hss6 hss7
    go_wp2_with fail
    refine (same_any A6 A7 s6.length c6 c7 s6 _ rfl t6 t7 (by omega)).mono ?_
    rintro e w8 ⟨rfl, hb8⟩
    have b8 := b7.trans (hb8.mono b7.size)
    clear t6 t7 hb8 b7
    go_wp2_with fail
    refine (knows_any _ (HT.out _ b8)).mono ?_
    rintro e w9 ⟨rfl, hb9⟩
    have b9 := b8.trans (hb9.mono b8.size)
    clear hb9 b8
    go_wp2_with fail
    go_ret
    exact ⟨rfl, b9⟩
set_option maxRecDepth 1000000 in
set_option maxHeartbeats 2000000 in
theorem rows_knows (A : Option Addr) (n c : Nat) (m : Nat) (B : Option Addr) (l d : Nat) (w : World) (hT : Tabs w) (hm : m < 256) (h : 2000 < n ∨ 2000 < l ∨ 128 ≤ m ∨ inU m = true) :
    Calls Tryd.prog 6 #[.slice A n c, .int .u8 (m : Int), .slice B l d] w fun e w' => e = .returned (.bool true) ∧ Below w.heap.size w w' := by
  by_cases h1 : 2000 < n
  · go_enter Tryd.func6, Tryd.ntmps6
    go_wp2_with fail
    refine (great_yes A n c _ h1).mono ?_
    rintro e w1 ⟨rfl, rfl⟩
    go_wp2_with fail
    refine (knows_any _ hT).mono ?_
    rintro e w1 ⟨rfl, b1⟩
    go_wp2_with fail
    go_ret
    exact ⟨rfl, b1⟩
  · by_cases h2 : 2000 < l
    · go_enter Tryd.func6, Tryd.ntmps6
      go_wp2_with fail
      refine (great_no A n c _ h1).mono ?_
      rintro e w1 ⟨rfl, rfl⟩
      go_wp2_with fail
      refine (great_yes B l d _ h2).mono ?_
      rintro e w1 ⟨rfl, rfl⟩
      go_wp2_with fail
      refine (knows_any _ hT).mono ?_
      rintro e w1 ⟨rfl, b1⟩
      go_wp2_with fail
      go_ret
      exact ⟨rfl, b1⟩
    · by_cases h3 : 128 ≤ m
      · have hd : decide ((128 : Int) ≤ (m : Int)) = true := decide_eq_true (by omega)
        go_enter Tryd.func6, Tryd.ntmps6
        go_wp2_with fail
        refine (great_no A n c _ h1).mono ?_
        rintro e w1 ⟨rfl, rfl⟩
        go_wp2_with fail
        refine (great_no B l d _ h2).mono ?_
        rintro e w1 ⟨rfl, rfl⟩
        go_wp2_with fail
        refine (knows_any _ hT).mono ?_
        rintro e w1 ⟨rfl, b1⟩
        go_wp2_with fail
        go_ret
        exact ⟨rfl, b1⟩
      · have hd : decide ((128 : Int) ≤ (m : Int)) = false := decide_eq_false (by omega)
        have hi : inU m = true := by
          rcases h with h | h | h | h
          · exact absurd h h1
          · exact absurd h h2
          · exact absurd h h3
          · exact h
        have HI := Lib.hid (fun W => in_yes m W hi)
        clear hi h
        go_enter Tryd.func6, Tryd.ntmps6
        go_wp2_with fail
        refine (great_no A n c _ h1).mono ?_
        rintro e w1 ⟨rfl, rfl⟩
        go_wp2_with fail
        refine (great_no B l d _ h2).mono ?_
        rintro e w1 ⟨rfl, rfl⟩
        go_wp2_with fail
        refine (HI.out _).mono ?_
        rintro e w1 ⟨rfl, rfl⟩
        go_wp2_with fail
        refine (knows_any _ hT).mono ?_
        rintro e w1 ⟨rfl, b1⟩
        go_wp2_with fail
        go_ret
        exact ⟨rfl, b1⟩
set_option maxRecDepth 1000000 in
set_option maxHeartbeats 4000000 in
theorem rows_same (A : Option Addr) (n c : Nat) (xs : List UInt8) (m : UInt8) (B : Option Addr) (l d : Nat) (bs : List UInt8) (w : World) (hT : Tabs w) (hn : xs.length = n) (hA : Sl w A (bcells xs)) (hnc : n ≤ c) (hc : c ≤ 9223372036854775807)
    (hl : bs.length = l) (hB : Sl w B (bcells bs)) (hld : l ≤ d) (hd : d ≤ 9223372036854775807) (h1 : ¬ 2000 < n) (h2 : ¬ 2000 < l) (h3 : m.toNat < 128) (h4 : inU m.toNat = false) :
    Calls Tryd.prog 6 #[.slice A n c, .int .u8 (ub m), .slice B l d] w fun e w' => e = .returned (.bool true) ∧ Below w.heap.size w w' := by
  have HT := Lib.hid (fun W (hb : Below w.heap.size w W) => hT.below hb hT.pos)
  have HM := Lib.hid hn
  have HL := Lib.hid hl
  have HR : Hid (termsU (xs ++ m :: bs) = termsU xs ++ termsU bs) := terms_rows xs m bs h3 h4
  have HI := Lib.hid (fun W => in_no m.toNat W h4)
  have hub : ub m < 128 := by unfold ub; omega
  have hub0 := ub_nn m
  have hdd : decide ((128 : Int) ≤ ub m) = false := decide_eq_false (by omega)
  have HUB : Hid (ub m = (m.toNat : Int)) := rfl
  have hlA := terms_len xs
  have hlB := terms_len bs
  rw [hn] at hlA
  rw [hl] at hlB
  clear hn hl hT h3 h4
  have o0 : (w.alloc (.cells #[] 5)).ownsRow w.heap.size 5 1 (.slice (some ⟨w.heap.size, 0, none⟩) 0 0) 0 [] := own_lit w w.heap.size 5 [] 0 rfl (Nat.le_refl _) (by omega)
  have b0 : Below w.heap.size w (w.alloc (.cells #[] 5)) := (Below.refl _ _).alloc (Nat.le_refl _) _
  obtain ⟨y, hy⟩ : ∃ y, y = ub m := ⟨_, rfl⟩
  have HY := Lib.hid hy
  have HN1 := Lib.hid (fun (W : World) => new_bytes W [m] [.int .u8 y] (by rw [hy]; rfl))
  rw [← hy] at hub hub0 hdd HUB ⊢
  clear hy
  go_enter Tryd.func6, Tryd.ntmps6
  go_wp2_with fail
  refine (great_no A n c _ h1).mono ?_
  rintro e w1 ⟨rfl, rfl⟩
  go_wp2_with fail
  refine (great_no B l d _ h2).mono ?_
  rintro e w1 ⟨rfl, rfl⟩
  go_wp2_with fail
  rw [HUB.out]
  refine (HI.out _).mono ?_
  rintro e w1 ⟨rfl, rfl⟩
  rw [← HUB.out]
  go_wp2_with (first
    | (refine wpList_app rfl (.tmp 24) (.tmp 25) 22 rfl bytesTy w.heap.size (.slice (some ⟨w.heap.size, 0, none⟩) 0 0) 0 [] rfl o0 A n c (bcells xs) rfl (by rw [bcells_len]; exact HM.out) (hA.below b0) (bcells_one _) (by omega) (by simp) ?_; intro v1 w1 hown1 hgr1 hbl1; have b1 := below_app b0 hgr1 o0 (Nat.le_refl _) (by simp); have z1 := b1.size; rw [Nat.zero_add, List.nil_append] at hown1; clear o0 b0 hgr1 hbl1)
    | (refine wpList_app rfl (.tmp 26) (.tmp 28) 22 rfl bytesTy w.heap.size v1 n (bcells xs) rfl (hown1.alloc _) _ 1 1 (bcells [m]) rfl rfl (HN1.out _) (bcells_one _) (by omega) (by simp; omega) ?_; intro v2 w2 hown2 hgr2 hbl2; have b2 := below_app (b1.alloc z1 (.cells #[.int .u8 y] 5)) hgr2 (hown1.alloc _) (Nat.le_refl _) (by simp; omega); have z2 := b2.size; rw [bcells_app] at hown2; clear hown1 hgr2 hbl2 b1)
    | (refine wpList_app rfl (.tmp 29) (.tmp 30) 22 rfl bytesTy w.heap.size v2 (n + 1) (bcells (xs ++ [m])) rfl hown2 B l d (bcells bs) rfl (by rw [bcells_len]; exact HL.out) (hB.below b2) (bcells_one _) (by omega) z2 ?_; intro v3 w3 hown3 hgr3 hbl3; have b3 := below_app b2 hgr3 hown2 (Nat.le_refl _) z2; have z3 := b3.size; rw [bcells_app] at hown3; clear hown2 hgr3 hbl3 b2))
  obtain ⟨A3, c3, rfl, hs3, hc3, hl3, hm3, _⟩ := own_slice hown3
  unfold maxLen at hm3
  have HAL : Hid ((xs ++ [m] ++ bs).length = n + 1 + l) := by show _ = _; rw [List.length_append, List.length_append, HM.out, HL.out]; rfl
  have HAE : Hid (xs ++ [m] ++ bs = xs ++ m :: bs) := by show _ = _; simp
  clear hown3 hl3
  go_wp2_with fail
  refine (terms_any A3 (n + 1 + l) c3 (xs ++ [m] ++ bs) _ (HT.out _ b3) HAL.out hs3 hc3 (by omega) (by omega)).mono ?_
  rintro e w4 ⟨v4, s4, rfl, hss4, hown4, hb4⟩
  rw [HAE.out, HR.out] at hss4
  have b4 := b3.trans (hb4.mono b3.size)
  have z4 := b4.size
  have o4 : (w4.alloc (.cells #[] 9)).ownsRow w4.heap.size 9 1 (.slice (some ⟨w4.heap.size, 0, none⟩) 0 0) 0 [] := own_lit w4 w4.heap.size 9 [] 0 rfl (Nat.le_refl _) (by omega)
  have b4' := b4.alloc z4 (.cells #[] 9)
  have b44 : Below w4.heap.size w4 (w4.alloc (.cells #[] 9)) := (Below.refl _ _).alloc (Nat.le_refl _) _
  have hown4' := hown4.below b44
  have HLT4 : Hid (∀ k, v4.ownBlock = some k → k < w4.heap.size) := fun k hk => (hown4.lt k hk).2
  clear hs3 hb4 b3 b4 hown4
  go_wp2_with fail
  refine (terms_any A n c xs _ (HT.out _ b4') HM.out (hA.below b4') hnc hc (by omega)).mono ?_
  rintro e w5 ⟨v5, s5, rfl, hss5, hown5, hb5⟩
  have hsl5 : s5.length ≤ n := by rw [← hss5, sbytes_len] at hlA; exact hlA
  have b5 := b4'.trans (hb5.mono b4'.size)
  have z5 := b5.size
  have b45 := b44.trans (hb5.mono b44.size)
  have z45 := b45.size
  have hown4 := hown4'.below hb5
  have o5 : w5.ownsRow w4.heap.size 9 1 (.slice (some ⟨w4.heap.size, 0, none⟩) 0 0) 0 [] := own_below o4 hb5
  obtain ⟨A5, c5, rfl, t5, _, _, hg5⟩ := hown5.slice
  clear hown5 o4 hb5 b4' b44 hown4'
  go_wp2_with (refine wpList_app rfl (.tmp 34) (.tmp 36) 26 rfl strsTy w4.heap.size (.slice (some ⟨w4.heap.size, 0, none⟩) 0 0) 0 [] rfl o5 A5 s5.length c5 (scells s5) rfl (scells_len _) t5 (scells_one _) (by omega) z45 ?_; intro v6 w6 hown6 hgr6 hbl6)
  rw [Nat.zero_add, List.nil_append] at hown6
  have b46 := below_app b45 hgr6 o5 (Nat.le_refl _) z45
  have b6 := b5.grown hgr6 z5 (fun k hk => by have := (o5.lt k hk).1; omega)
  have z6 := b6.size
  have z46 := b46.size
  have hne4 : v4.ownBlock = none ∨ v4.ownBlock ≠ (Value.slice (some ⟨w4.heap.size, 0, none⟩) 0 0).ownBlock := by
    right
    intro h
    have h1 := HLT4.out w4.heap.size (h.trans rfl)
    omega
  have hown4b : OwS w3.heap.size w6 v4 s4 := hown4.kept hgr6 hne4
  obtain ⟨A4, c4, rfl, t4, _, hm4, _⟩ := hown4b.slice
  have hblk6 : ∀ k, v6.ownBlock = some k → k < w6.heap.size := fun k hk => (hown6.lt k hk).2
  clear hown4 hown4b hne4 hgr6 hbl6 o5 b5 b45 t5 hg5
  go_wp2_with fail
  refine (terms_any B l d bs _ (HT.out _ b6) HL.out (hB.below b6) hld hd (by omega)).mono ?_
  rintro e w7 ⟨v7, s7, rfl, hss7, hown7, hb7⟩
  have hsl7 : s7.length ≤ l := by rw [← hss7, sbytes_len] at hlB; exact hlB
  have b7 := b6.trans (hb7.mono z6)
  have z7 := b7.size
  have z67 := hb7.size
  have hown6' := own_below hown6 hb7
  have t4' := t4.below hb7
  obtain ⟨A7, c7, rfl, t7, _, _, hg7⟩ := hown7.slice
  have hlt4 : ∀ b o s, A4 = some ⟨b, o, s⟩ → some b ≠ v6.ownBlock := by
    intro b o s hA4 hb'
    have h1 := (hown6'.lt b hb'.symm).1
    have h2 := HLT4.out b (by rw [hA4]; rfl)
    omega
  clear hown7 hown6 hb7 b6 t4 hblk6
  go_wp2_with (refine wpList_app rfl (.tmp 37) (.tmp 39) 26 rfl strsTy w4.heap.size v6 s5.length (scells s5) rfl hown6' A7 s7.length c7 (scells s7) rfl (scells_len _) t7 (scells_one _) (by omega) (by omega) ?_; intro v8 w8 hown8 hgr8 hbl8)
  have t48 := Sl.grown t4' hgr8 hlt4
  have b8 := b7.grown hgr8 z7 (fun k hk => by have := (hown6'.lt k hk).1; omega)
  rw [scells_app] at hown8
  obtain rfl : s4 = s5 ++ s7 := sbytes_inj (by rw [hss4, sbytes_app, hss5, hss7])
  obtain ⟨A8, c8, rfl, t8, _, _, _, _⟩ := own_slice hown8
  obtain ⟨N, hN⟩ : ∃ N, s5.length + s7.length = N := ⟨_, rfl⟩
  have HN : Hid ((s5 ++ s7).length = N) := by show _ = _; rw [List.length_append, hN]
  rw [hN, HN.out]
  clear hown6' hgr8 hbl8 hown8 hlt4 t4' t7 hss4 hss5 hss7
  go_wp2_with fail
  refine (same_any A4 A8 N c4 c8 (s5 ++ s7) _ HN.out t48 t8 (by omega)).mono ?_
  rintro e w9 ⟨rfl, hb9⟩
  have b9 := b8.trans (hb9.mono b8.size)
  clear t48 t8 hb9 b8
  go_wp2_with fail
  refine (knows_any _ (HT.out _ b9)).mono ?_
  rintro e w10 ⟨rfl, hb10⟩
  have b10 := b9.trans (hb10.mono b9.size)
  go_wp2_with fail
  go_ret
  exact ⟨rfl, b10⟩
theorem lawRows (A : Option Addr) (n c : Nat) (xs : List UInt8) (z : Int) (B : Option Addr) (l d : Nat) (bs : List UInt8) (w : World) (hT : Tabs w) (hn : xs.length = n) (hA : Sl w A (bcells xs)) (hnc : n ≤ c) (hc : c ≤ 9223372036854775807) (hz : 0 ≤ z ∧ z ≤ 255)
    (hl : bs.length = l) (hB : Sl w B (bcells bs)) (hld : l ≤ d) (hd : d ≤ 9223372036854775807) :
    Calls Tryd.prog 6 #[.slice A n c, .int .u8 z, .slice B l d] w fun e w' => e = .returned (.bool true) ∧ Below w.heap.size w w' := by
  obtain ⟨m, rfl⟩ : ∃ m : Nat, z = m := ⟨z.toNat, by omega⟩
  by_cases h : 2000 < n ∨ 2000 < l ∨ 128 ≤ m ∨ inU m = true
  · exact rows_knows A n c m B l d w hT (by omega) h
  · have e : ((m : Nat) : Int) = ub (UInt8.ofNat m) := (ub_of (n := (m : Int)) (by omega)).symm
    have e2 : (UInt8.ofNat m).toNat = m := by rw [UInt8.toNat_ofNat']; omega
    have h1 : ¬ 2000 < n := fun g => h (.inl g)
    have h2 : ¬ 2000 < l := fun g => h (.inr (.inl g))
    have h3 : ¬ 128 ≤ m := fun g => h (.inr (.inr (.inl g)))
    have h4 : inU m = false := by
      rcases hi : inU m with _ | _
      · rfl
      · exact absurd (.inr (.inr (.inr hi))) h
    rw [e]
    exact rows_same A n c xs (UInt8.ofNat m) B l d bs w hT hn hA hnc hc hl hB hld hd h1 h2 (by rw [e2]; omega) (by rw [e2]; exact h4)
end Go.Proofs.YtpnnebnjkinndaaDoor.TokW
