/- The laws UtfDecodes, UtfRows. -/
import Derived.Test.YthgbmeighgpkgaaDoorUm
import Derived.Test.YthgbmeighgpkgaaDoorInts
namespace Go.Proofs.YthgbmeighgpkgaaDoor.UtfW
open Go.RowKit
set_option maxRecDepth 1000000 in
set_option maxHeartbeats 2000000 in
theorem lawDecodes (A : Option Addr) (n c : Nat) (bs : List UInt8) (w : World) (hT : Tabs w) (hn : bs.length = n) (hA : Sl w A (bcells bs)) (hnc : n ≤ c) (hc : c ≤ 9223372036854775807) :
    Calls Tryd.prog 4 #[.slice A n c] w fun e w' => e = .returned (.bool true) ∧ Below w.heap.size w w' := by
  have HT := Lib.hid (fun W (hb : Below w.heap.size w W) => hT.below hb hT.pos)
  have HM := Lib.hid hn
  clear hn
  by_cases hg : 2000 < n
  · go_enter Tryd.func4, Tryd.ntmps4
    go_wp2_with fail
    refine (knows_any _ hT).mono ?_
    rintro e w1 ⟨rfl, b1⟩
    go_wp2_with fail
    go_ret
    exact ⟨rfl, b1⟩
  · clear hT
    have o0 : (w.alloc (.cells #[] 5)).ownsRow w.heap.size 5 1 (.slice (some ⟨w.heap.size, 0, none⟩) 0 0) 0 [] := own_lit w w.heap.size 5 [] 0 rfl (Nat.le_refl _) (by omega)
    have b0 : Below w.heap.size w (w.alloc (.cells #[] 5)) := (Below.refl _ _).alloc (Nat.le_refl _) _
    obtain ⟨L, hL⟩ : ∃ L, L = dec bs := ⟨_, rfl⟩
    have HL := Lib.hid hL
    obtain ⟨N, hN⟩ : ∃ N, L.length = N := ⟨_, rfl⟩
    have HN := Lib.hid hN
    have hN2 : N ≤ n := by have := dec_len bs; rw [← hN, hL]; rw [HM.out] at this; exact this
    clear hL hN
    go_enter Tryd.func4, Tryd.ntmps4
    go_wp2_with (refine wpList_app rfl (.tmp 10) (.tmp 11) 22 rfl bytesTy w.heap.size (.slice (some ⟨w.heap.size, 0, none⟩) 0 0) 0 [] rfl o0 A n c (bcells bs) rfl (by rw [bcells_len]; exact HM.out) (hA.below b0) (bcells_one _) (by omega) (by simp) ?_; intro v1 w1 hown1 hgr1 hbl1)
    have b1 := below_app b0 hgr1 o0 (Nat.le_refl _) (by simp)
    obtain ⟨A1, c1, rfl, hs1, hc1, _, hm1, _⟩ := own_slice hown1
    rw [List.nil_append] at hs1
    rw [Nat.zero_add] at hc1 ⊢
    clear o0 b0 hown1 hgr1 hbl1
    refine (decode_any A1 n c1 bs _ (HT.out _ b1) HM.out hs1 hc1 (by unfold maxLen at hm1; omega) (by omega)).mono ?_
    rintro e w2 ⟨v2, rfl, hown2, hb2⟩
    rw [← HL.out] at hown2
    have b2 := b1.trans (hb2.mono b1.size)
    clear hs1 hb2 b1
    go_wp2_with fail
    refine (refDecode A n c bs _ HM.out (hA.below b2) hnc hc (by omega)).mono ?_
    rintro e w3 ⟨v3, rfl, hown3, hb3⟩
    rw [← HL.out] at hown3
    have b3 := b2.trans (hb3.mono b2.size)
    have hown2' := hown2.below hb3
    obtain ⟨A2, c2, rfl, hs1, _, _, _⟩ := hown2'.slice
    obtain ⟨A3, c3, rfl, hs2, _, _, _⟩ := hown3.slice
    rw [HN.out]
    clear hown2 hown3 hown2' b2 hb3
    go_wp2_with fail
    go_loopw [5] (fun i wr => ∃ k : Nat, k ≤ N ∧ i = .int .i64 (k : Int) ∧ Below w.heap.size w wr ∧ Below w3.heap.size w3 wr) (fun i _ => N - (intOf i).toNat)
    case atStart => exact ⟨0, by omega, rfl, b3, Below.refl _ _⟩
    case round =>
      obtain ⟨k, hk, rfl, hbel, hbel3⟩ := hrel
      by_cases hlt : k < N
      · obtain ⟨p, o, rfl, hplt, hpc⟩ := hs1.get (j := k) (by rw [icells_len, HN.out]; exact hlt)
        obtain ⟨q, r, rfl, hqlt, hqc⟩ := hs2.get (j := k) (by rw [icells_len, HN.out]; exact hlt)
        have c1 := (hbel3.cell (p := ⟨p, o + k, none⟩) hplt).trans (hpc k _ (icells_get L k (by rw [HN.out]; exact hlt)))
        have c2 := (hbel3.cell (p := ⟨q, r + k, none⟩) hqlt).trans (hqc k _ (icells_get L k (by rw [HN.out]; exact hlt)))
        clear hpc hqc
        generalize L.getD k 0 = y at *
        go_wp2_with fail
        go_quiet (fail)
        go_wp2_with fail
        clear c1 c2
        go_roundw
        case rel => exact ⟨k + 1, by omega, by go_num, below_drewN hbel _, below_drewN hbel3 _⟩
        case measure => simp [intOf]; omega
      · go_wp2_with fail
        refine (knows_any _ (HT.out _ hbel)).mono ?_
        rintro e w9 ⟨rfl, hb9⟩
        go_wp2_with fail
        go_ret
        exact ⟨rfl, hbel.trans (hb9.mono hbel.size)⟩
set_option maxRecDepth 1000000 in
set_option maxHeartbeats 2000000 in
theorem lawRows_at (A : Option Addr) (n c : Nat) (xs : List UInt8) (y : Nat) (B : Option Addr) (l d : Nat) (ys : List UInt8) (w : World) (hT : Tabs w) (hy : y < 256)
    (hn : xs.length = n) (hA : Sl w A (bcells xs)) (hnc : n ≤ c) (hc : c ≤ 9223372036854775807) (hl : ys.length = l) (hB : Sl w B (bcells ys)) (hld : l ≤ d) (hd : d ≤ 9223372036854775807) :
    Calls Tryd.prog 9 #[.slice A n c, .int .u8 (y : Int), .slice B l d] w fun e w' => e = .returned (.bool true) ∧ Below w.heap.size w w' := by
  have HT := Lib.hid (fun W (hb : Below w.heap.size w W) => hT.below hb hT.pos)
  have HX := Lib.hid hn
  have HY := Lib.hid hl
  clear hn hl
  by_cases hg : 1000 < n
  · go_enter Tryd.func9, Tryd.ntmps9
    go_wp2_with fail
    refine (knows_any _ hT).mono ?_
    rintro e w1 ⟨rfl, b1⟩
    go_wp2_with fail
    go_ret
    exact ⟨rfl, b1⟩
  by_cases hg2 : 1000 < l
  · go_enter Tryd.func9, Tryd.ntmps9
    go_wp2_with fail
    refine (knows_any _ hT).mono ?_
    rintro e w1 ⟨rfl, b1⟩
    go_wp2_with fail
    go_ret
    exact ⟨rfl, b1⟩
  by_cases hg3 : 128 ≤ y
  · go_enter Tryd.func9, Tryd.ntmps9
    go_wp2_with fail
    refine (knows_any _ hT).mono ?_
    rintro e w1 ⟨rfl, b1⟩
    go_wp2_with fail
    go_ret
    exact ⟨rfl, b1⟩
  clear hT
  have o0 : (w.alloc (.cells #[] 5)).ownsRow w.heap.size 5 1 (.slice (some ⟨w.heap.size, 0, none⟩) 0 0) 0 [] := own_lit w w.heap.size 5 [] 0 rfl (Nat.le_refl _) (by omega)
  have b0 : Below w.heap.size w (w.alloc (.cells #[] 5)) := (Below.refl _ _).alloc (Nat.le_refl _) _
  obtain ⟨R, hR⟩ : ∃ R, R = xs ++ by8 y :: ys := ⟨_, rfl⟩
  have HR := Lib.hid hR
  obtain ⟨L, hL⟩ : ∃ L, L = dec xs ++ y :: dec ys := ⟨_, rfl⟩
  have HL := Lib.hid hL
  have HDR : Hid (dec R = L) := by show _ = _; rw [hR, hL, dec_rows xs.length xs (by8 y) ys (Nat.le_refl _) (by rw [by8_nat y hy]; omega), by8_nat y hy]
  have HRN : Hid (R.length = n + 1 + l) := by show _ = _; rw [hR, List.length_append, List.length_cons, HX.out, HY.out]; omega
  have hx2 := dec_len xs
  have hy2 := dec_len ys
  rw [HX.out] at hx2
  rw [HY.out] at hy2
  obtain ⟨N, hN⟩ : ∃ N, L.length = N := ⟨_, rfl⟩
  have HN := Lib.hid hN
  have HNN : Hid ((dec xs).length + 1 + (dec ys).length = N) := by show _ = _; rw [← hN, hL, List.length_append, List.length_cons]; omega
  clear hR hL hN
  obtain ⟨X, hX⟩ : ∃ X, X = dec xs := ⟨_, rfl⟩
  obtain ⟨Y, hY⟩ : ∃ Y, Y = dec ys := ⟨_, rfl⟩
  have HDX := Lib.hid hX
  have HDY := Lib.hid hY
  rw [← hX] at hx2 HNN HL
  rw [← hY] at hy2 HNN HL
  clear hX hY
  have hN2 : N ≤ 2001 := by have := HNN.out; omega
  have HM : Hid (∀ W : World, Sl (W.alloc (.cells #[.int .u8 (y : Int)] 5)) (some ⟨W.heap.size, 0, none⟩) (bcells [by8 y])) := fun W => new_bytes W [by8 y] [_] (by unfold bcells; exact List.cons_eq_cons.2 ⟨bcell_eq hy rfl, rfl⟩)
  have HI := Lib.hid (fun (W : World) => new_int W y)
  go_enter Tryd.func9, Tryd.ntmps9
  go_wp2_with (first
    | (refine wpList_app rfl (.tmp 23) (.tmp 24) 22 rfl bytesTy w.heap.size (.slice (some ⟨w.heap.size, 0, none⟩) 0 0) 0 [] rfl o0 A n c (bcells xs) rfl (by rw [bcells_len]; exact HX.out) (hA.below b0) (bcells_one _) (by omega) (by simp) ?_; intro v1 w1 hown1 hgr1 hbl1; have b1 := below_app b0 hgr1 o0 (Nat.le_refl _) (by simp); clear o0 b0 hgr1 hbl1; have s1 := b1.size; have b1a := fun (o : Obj) => b1.alloc s1 o; have B1A := Lib.hid b1a; clear b1a)
    | (refine wpList_app rfl (.tmp 25) (.tmp 27) 22 rfl bytesTy w.heap.size v1 (0 + n) ([] ++ bcells xs) rfl (hown1.alloc _) _ 1 1 (bcells [by8 y]) rfl rfl (HM.out _) (bcells_one _) (by omega) (by simp; omega) ?_; intro v2 w2 hown2 hgr2 hbl2; have b2 := below_app (B1A.out _) hgr2 (hown1.alloc (.cells #[.int .u8 (y : Int)] 5)) (Nat.le_refl _) (by simp; omega); clear hown1 hgr2 hbl2 B1A b1; have s2 := b2.size)
    | (refine wpList_app rfl (.tmp 28) (.tmp 29) 22 rfl bytesTy w.heap.size v2 (0 + n + 1) ([] ++ bcells xs ++ bcells [by8 y]) rfl hown2 B l d (bcells ys) rfl (by rw [bcells_len]; exact HY.out) (hB.below b2) (bcells_one _) (by omega) s2 ?_; intro v3 w3 hown3 hgr3 hbl3))
  have b3 := below_app b2 hgr3 hown2 (Nat.le_refl _) s2
  obtain ⟨A1, c1, rfl, hs1, hc1, _, hm1, _⟩ := own_slice hown3
  have hcells : [] ++ bcells xs ++ bcells [by8 y] ++ bcells ys = bcells R := by rw [HR.out]; simp [bcells]
  rw [hcells] at hs1
  have HK : Hid (0 + n + 1 + l = n + 1 + l) := by show _ = _; omega
  rw [HK.out] at hc1 ⊢
  clear hcells hown2 hown3 hgr3 hbl3 b2 s2 s1
  refine (decode_any A1 (n + 1 + l) c1 R _ (HT.out _ b3) HRN.out hs1 hc1 (by unfold maxLen at hm1; omega) (by omega)).mono ?_
  rintro e w4 ⟨v4, rfl, hown4, hb4⟩
  rw [HDR.out] at hown4
  obtain ⟨A3, c3, rfl, hs4, _, _, _⟩ := hown4.slice
  rw [HN.out]
  clear hown4
  have b4 := b3.trans (hb4.mono b3.size)
  have s4 := b4.size
  clear hs1 hb4 b3 hc1 hm1
  have o5 : (w4.alloc (.cells #[] 3)).ownsRow w4.heap.size 3 1 (.slice (some ⟨w4.heap.size, 0, none⟩) 0 0) 0 (icells []) := own_lit w4 w4.heap.size 3 [] 0 rfl (Nat.le_refl _) (by omega)
  have b5 : Below w4.heap.size w4 (w4.alloc (.cells #[] 3)) := (Below.refl _ _).alloc (Nat.le_refl _) _
  have bb5 : Below w.heap.size w (w4.alloc (.cells #[] 3)) := b4.trans (b5.mono s4)
  go_wp2_with fail
  refine (decode_any A n c xs _ (HT.out _ bb5) HX.out (hA.below bb5) hnc hc (by omega)).mono ?_
  rintro e w6 ⟨v6, rfl, hown6, hb6⟩
  rw [← HDX.out] at hown6
  have o6 := own_below o5 hb6
  have hs5 : w4.heap.size ≤ (w4.alloc (.cells #[] 3)).heap.size := by simp
  have b6 := b5.trans (hb6.mono hs5)
  have s6 := b6.size
  obtain ⟨A6, c6, rfl, hs6, _, _, _⟩ := hown6.slice
  clear o5 b5 bb5 hown6 hb6
  go_wp2_with (first
    | (refine wpList_app rfl (.tmp 32) (.tmp 34) 29 rfl intsTy w4.heap.size (.slice (some ⟨w4.heap.size, 0, none⟩) 0 0) 0 (icells []) rfl o6 A6 X.length c6 (icells X) rfl (icells_len _) hs6 (icells_one _) (by omega) s6 ?_; intro v7 w7 hown7 hgr7 hbl7; have b7 := below_app b6 hgr7 o6 (Nat.le_refl _) s6; clear o6 hs6 hgr7 hbl7 b6 s6; have s7 := b7.size; have B7A := Lib.hid (fun (o : Obj) => b7.alloc s7 o))
    | (refine wpList_app rfl (.tmp 35) (.tmp 38) 29 rfl intsTy w4.heap.size v7 (0 + X.length) (icells [] ++ icells X) rfl (hown7.alloc _) _ 1 1 (icells [y]) rfl rfl (HI.out _) (icells_one _) (by omega) (by simp; omega) ?_; intro v8 w8 hown8 hgr8 hbl8; have b8 := below_app (B7A.out _) hgr8 (hown7.alloc (.cells #[.int .i64 (y : Int)] 3)) (Nat.le_refl _) (by simp; omega); clear hown7 hgr8 hbl8 B7A b7))
  have bb8 := b4.trans (b8.mono s4)
  have s8 := b8.size
  refine (decode_any B l d ys _ (HT.out _ bb8) HY.out (hB.below bb8) hld hd (by omega)).mono ?_
  rintro e w9 ⟨v9, rfl, hown9, hb9⟩
  rw [← HDY.out] at hown9
  have o9 := own_below hown8 hb9
  have b9 := b8.trans (hb9.mono s8)
  have s9 := b9.size
  obtain ⟨A9, c9, rfl, hs9, _, _, _⟩ := hown9.slice
  clear hown8 hown9 hb9 b8 s8 bb8
  have HK2 : Hid (0 + X.length + 1 + Y.length = N) := by show _ = _; rw [← HNN.out]; omega
  go_wp2_with (refine wpList_app rfl (.tmp 39) (.tmp 41) 29 rfl intsTy w4.heap.size v8 (0 + X.length + 1) (icells [] ++ icells X ++ icells [y]) rfl o9 A9 Y.length c9 (icells Y) rfl (icells_len _) hs9 (icells_one _) (by omega) s9 ?_; intro v10 w10 hown10 hgr10 hbl10; have b10 := below_app b9 hgr10 o9 (Nat.le_refl _) s9; obtain ⟨A2, c2, rfl, hs2, _, _, _⟩ := own_slice hown10; rw [HK2.out])
  have bb10 := b4.trans (b10.mono s4)
  have hs1 := hs4.below b10
  have hcells : icells [] ++ icells X ++ icells [y] ++ icells Y = icells L := by rw [HL.out]; simp [icells]
  rw [hcells] at hs2
  clear hcells hown10 hgr10 hbl10 o9 b9 hs9 b4 b10 hs4
  go_loopw [9] (fun i wr => ∃ k : Nat, k ≤ N ∧ i = .int .i64 (k : Int) ∧ Below w.heap.size w wr ∧ Below w10.heap.size w10 wr) (fun i _ => N - (intOf i).toNat)
  case atStart => exact ⟨0, by omega, rfl, bb10, Below.refl _ _⟩
  case round =>
    obtain ⟨k, hk, rfl, hbel, hbel3⟩ := hrel
    by_cases hlt : k < N
    · obtain ⟨p, o, rfl, hplt, hpc⟩ := hs1.get (j := k) (by rw [icells_len, HN.out]; exact hlt)
      obtain ⟨q, r, rfl, hqlt, hqc⟩ := hs2.get (j := k) (by rw [icells_len, HN.out]; exact hlt)
      have c1 := (hbel3.cell (p := ⟨p, o + k, none⟩) hplt).trans (hpc k _ (icells_get L k (by rw [HN.out]; exact hlt)))
      have c2 := (hbel3.cell (p := ⟨q, r + k, none⟩) hqlt).trans (hqc k _ (icells_get L k (by rw [HN.out]; exact hlt)))
      clear hpc hqc
      generalize L.getD k 0 = y at *
      go_wp2_with fail
      go_quiet (fail)
      go_wp2_with fail
      clear c1 c2
      go_roundw
      case rel => exact ⟨k + 1, by omega, by go_num, below_drewN hbel _, below_drewN hbel3 _⟩
      case measure => simp [intOf]; omega
    · go_wp2_with fail
      refine (knows_any _ (HT.out _ hbel)).mono ?_
      rintro e w9 ⟨rfl, hb9⟩
      go_wp2_with fail
      go_ret
      exact ⟨rfl, hbel.trans (hb9.mono hbel.size)⟩
theorem lawRows (A : Option Addr) (n c : Nat) (xs : List UInt8) (z : Int) (B : Option Addr) (l d : Nat) (ys : List UInt8) (w : World) (hT : Tabs w) (hz : 0 ≤ z ∧ z ≤ 255)
    (hn : xs.length = n) (hA : Sl w A (bcells xs)) (hnc : n ≤ c) (hc : c ≤ 9223372036854775807) (hl : ys.length = l) (hB : Sl w B (bcells ys)) (hld : l ≤ d) (hd : d ≤ 9223372036854775807) :
    Calls Tryd.prog 9 #[.slice A n c, .int .u8 z, .slice B l d] w fun e w' => e = .returned (.bool true) ∧ Below w.heap.size w w' := by
  obtain ⟨y, rfl⟩ : ∃ y : Nat, z = (y : Int) := ⟨z.toNat, by omega⟩
  exact lawRows_at A n c xs y B l d ys w hT (by omega) hn hA hnc hc hl hB hld hd
end Go.Proofs.YthgbmeighgpkgaaDoor.UtfW
