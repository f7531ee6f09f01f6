/- What is known of trees. -/
import Derived.Test.YtmebogaenbjmnaaDoorMi
namespace Go.Proofs.YtmebogaenbjmnaaDoor.TrW
open Go.RowKit TreeW
open ShaW Sha
theorem node_tup (l r : ByteArray) (w : World) (hT : Tab w) (h1 : l.size = 32) (h2 : r.size = 32) :
    Calls Tryd.prog 25 #[.string l, .string r] w fun e w' => e = .returned (.tuple #[.string (nd l r), .int .i64 0]) ∧ Below w.heap.size w w' := SealW.node_any l r w hT h1 h2
theorem sum_nil (w : World) (hT : Tab w) : Calls Tryd.prog 28 #[.slice none 0 0] w fun e w' => e = .returned (.string ed) ∧ Below w.heap.size w w' :=
  sum_wide none 0 0 [] w hT rfl Sl.nil (by omega) (by omega) (by omega)
theorem path3 (a b c : ByteArray) : path nd ed [a, b, c] 2 = [nd a b] := rfl
theorem rt3 (a b c : ByteArray) : rt [a, b, c] = nd (nd a b) c := rfl
theorem climb3 (a b c : ByteArray) : climb nd ed c 2 3 [nd a b] = nd (nd a b) c := rfl
theorem lit_sl (W : World) (x : UInt8) (b : Nat) (hb : b = W.heap.size) : Sl (W.alloc (.cells #[.int .u8 (ub x)] 5)) (some ⟨b, 0, none⟩) (bcells [x]) := Sl.of_at_all (At.new_ W b 5 (bcells [x]) hb)
set_option maxRecDepth 1000000 in
set_option maxHeartbeats 2000000 in
theorem knows_any (w : World) (hT : Tab w) : Calls Tryd.prog 11 #[] w fun e w' => e = .returned (.bool true) ∧ Below w.heap.size w w' := by
  have hpos := hT.pos
  have HT := Lib.hid (fun W (hb : Below w.heap.size w W) => hT.below hb hpos)
  obtain ⟨W1, hW1⟩ : ∃ W, w.alloc (.cells #[.int .u8 1] 5) = W := ⟨_, rfl⟩
  obtain ⟨W2, hW2⟩ : ∃ W, W1.alloc (.cells #[.int .u8 2] 5) = W := ⟨_, rfl⟩
  obtain ⟨W3, hW3⟩ : ∃ W, W2.alloc (.cells #[.int .u8 3] 5) = W := ⟨_, rfl⟩
  obtain ⟨G, hG⟩ : ∃ G, w.heap.size = G := ⟨_, rfl⟩
  have z1 : W1.heap.size = G + 1 := by rw [← hW1, ← hG]; simp
  have z2 : W2.heap.size = G + 2 := by rw [← hW2]; simp [z1]
  have z3 : W3.heap.size = G + 3 := by rw [← hW3]; simp [z2]
  have b1 : Below w.heap.size w W1 := by rw [← hW1]; exact (Below.refl _ _).alloc (Nat.le_refl _) _
  have b12 : Below W1.heap.size W1 W2 := by rw [← hW2]; exact (Below.refl _ _).alloc (Nat.le_refl _) _
  have b23 : Below W2.heap.size W2 W3 := by rw [← hW3]; exact (Below.refl _ _).alloc (Nat.le_refl _) _
  have s1 : Sl W1 (some ⟨G, 0, none⟩) (bcells [1]) := by rw [← hW1]; exact lit_sl w 1 G hG.symm
  have s2 : Sl W2 (some ⟨G + 1, 0, none⟩) (bcells [2]) := by rw [← hW2]; exact lit_sl W1 2 _ z1.symm
  have s3 : Sl W3 (some ⟨G + 2, 0, none⟩) (bcells [3]) := by rw [← hW3]; exact lit_sl W2 3 _ z2.symm
  have s1 := (s1.below b12).below b23
  have s2 := s2.below b23
  have b3 : Below w.heap.size w W3 := (b1.trans (b12.mono b1.size)).trans (b23.mono (b1.trans (b12.mono b1.size)).size)
  have b34 : Below W3.heap.size W3 (W3.alloc (.cells #[.slice (some ⟨G, 0, none⟩) 1 1, .slice (some ⟨G + 1, 0, none⟩) 1 1, .slice (some ⟨G + 2, 0, none⟩) 1 1] 49)) := (Below.refl _ _).alloc (Nat.le_refl _) _
  have k4 : Sl (W3.alloc (.cells #[.slice (some ⟨G, 0, none⟩) 1 1, .slice (some ⟨G + 1, 0, none⟩) 1 1, .slice (some ⟨G + 2, 0, none⟩) 1 1] 49)) (some ⟨G + 3, 0, none⟩) [.slice (some ⟨G, 0, none⟩) 1 1, .slice (some ⟨G + 1, 0, none⟩) 1 1, .slice (some ⟨G + 2, 0, none⟩) 1 1] :=
    Sl.of_at_all (At.new_ W3 _ 49 [.slice (some ⟨G, 0, none⟩) 1 1, .slice (some ⟨G + 1, 0, none⟩) 1 1, .slice (some ⟨G + 2, 0, none⟩) 1 1] z3.symm)
  have K4 := Lib.hid k4
  have R4 : Hid (RowsAt (W3.alloc (.cells #[.slice (some ⟨G, 0, none⟩) 1 1, .slice (some ⟨G + 1, 0, none⟩) 1 1, .slice (some ⟨G + 2, 0, none⟩) 1 1] 49)) [.slice (some ⟨G, 0, none⟩) 1 1, .slice (some ⟨G + 1, 0, none⟩) 1 1, .slice (some ⟨G + 2, 0, none⟩) 1 1] [[1], [2], [3]]) := by
    refine ⟨rfl, fun j hj => ?_⟩
    match j, hj with
    | 0, _ => exact ⟨_, 1, rfl, s1.below b34, by simp, by simp [maxLen]⟩
    | 1, _ => exact ⟨_, 1, rfl, s2.below b34, by simp, by simp [maxLen]⟩
    | 2, _ => exact ⟨_, 1, rfl, s3.below b34, by simp, by simp [maxLen]⟩
    | j + 3, h => simp at h; omega
  have b4 := b3.trans (b34.mono b3.size)
  have B4 := Lib.hid b4
  have sp2 : split 2 = 1 := by decide
  have sp5 : split 5 = 4 := by decide
  have sp8 : split 8 = 4 := by decide
  have S2 := Lib.hid sp2
  have S5 := Lib.hid sp5
  have S8 := Lib.hid sp8
  clear hT s1 s2 s3 k4 b34 b23 b12 b1 b3 b4 sp2 sp5 sp8 hpos
  go_enter Tryd.func11, Tryd.ntmps11
  go_wp2_with fail
  refine (leaves_any (some ⟨G + 3, 0, none⟩) 3 3 _ [[1], [2], [3]] _ (HT.out _ B4.out) rfl K4.out R4.out (by omega) (by intro x hx; simp at hx; rcases hx with rfl | rfl | rfl <;> simp)).mono ?_
  rintro e w2 ⟨v, rfl, hown, hb2⟩
  have b2 := B4.out.trans (hb2.mono B4.out.size)
  have hsz := B4.out.size
  clear hW1 hW2 hW3 z1 z2 z3 K4 R4 hb2 s1 s2
  obtain ⟨a, ha⟩ : ∃ a, a = lf [1] := ⟨_, rfl⟩
  obtain ⟨b, hb⟩ : ∃ b, b = lf [2] := ⟨_, rfl⟩
  obtain ⟨c, hc⟩ : ∃ c, c = lf [3] := ⟨_, rfl⟩
  have Za : Hid (a.size = 32) := by show _ = _; rw [ha]; exact lf_size _
  have Zb : Hid (b.size = 32) := by show _ = _; rw [hb]; exact lf_size _
  have Zc : Hid (c.size = 32) := by show _ = _; rw [hc]; exact lf_size _
  have HL : Hid ([[1], [2], [3]].map lf = [a, b, c]) := by show _ = _; rw [ha, hb, hc]; rfl
  rw [HL.out] at hown
  have HD : Hid (Digs [a, b, c]) := by
    intro x hx
    simp at hx
    rcases hx with rfl | rfl | rfl
    · exact Za.out
    · exact Zb.out
    · exact Zc.out
  clear ha hb hc HL
  obtain ⟨g, cp, rfl, hgB, hgl, hcp, hcm⟩ := hown.block (by simp)
  have hsl0 : Sl w2 (some ⟨g, 0, none⟩) (scells [a, b, c]) := Sl.of_own hown
  have HSL := Lib.hid hsl0
  have HA : Hid (∀ w', Below w2.heap.size w2.drew w' → w'.cell? ⟨g, 0, none⟩ = some (.string a)) := fun w' hb => (hb.cell (p := ⟨g, 0, none⟩) hgl).trans (by have := hown.cells (g := g) rfl 0 _ rfl; rwa [add_lit] at this)
  have HB : Hid (∀ w', Below w2.heap.size w2.drew w' → w'.cell? ⟨g, 1, none⟩ = some (.string b)) := fun w' hb => (hb.cell (p := ⟨g, 1, none⟩) hgl).trans (by have := hown.cells (g := g) rfl 1 _ rfl; rwa [add_lit] at this)
  have HC : Hid (∀ w', Below w2.heap.size w2 w' → w'.cell? ⟨g, 2, none⟩ = some (.string c)) := fun w' hb => (hb.cell (p := ⟨g, 2, none⟩) hgl).trans (by have := hown.cells (g := g) rfl 2 _ rfl; rwa [add_lit] at this)
  clear hown hsl0 B4 hsz
  go_wp2_with fail
  refine regB_begin (w2.heap.size) (by kernel_rfl) ?_
  change wpAnyH _ _ _ _ _ 12 #[false, false, false, false, false, false, false, false, false, false, false, false] _ _
  refine regB_take (i := 0) (d := some 21) (v := (.slice (some ⟨g, 0, none⟩) 3 cp)) rfl rfl (by kernel_rfl) (by kernel_rfl) (by kernel_rfl) (fun _ _ _ h => h) (by rfl) (by intro w' hSw; go_simp) ?_
  try simp only [Act.put, List.setIfInBounds_toArray, List.set_cons_zero, List.set_cons_succ]
  refine regB_take (i := 1) (d := some 22) (v := (.pointer (some ⟨g, 0, none⟩))) rfl rfl (by kernel_rfl) (by kernel_rfl) (by kernel_rfl) (fun _ _ _ h => h) (by rfl) (by intro w' hSw; go_simp) ?_
  try simp only [Act.put, List.setIfInBounds_toArray, List.set_cons_zero, List.set_cons_succ]
  refine regB_take (i := 2) (d := some 23) (v := (.string a)) rfl rfl (by kernel_rfl) (by kernel_rfl) (by kernel_rfl) (fun _ _ _ h => h) (by rfl) (by intro w' hSw; have h9 := HA.out w' hSw; go_simp) ?_
  try simp only [Act.put, List.setIfInBounds_toArray, List.set_cons_zero, List.set_cons_succ]
  refine regB_take (i := 3) (d := some 24) (v := (.slice (some ⟨g, 0, none⟩) 3 cp)) rfl rfl (by kernel_rfl) (by kernel_rfl) (by kernel_rfl) (fun _ _ _ h => h) (by rfl) (by intro w' hSw; go_simp) ?_
  try simp only [Act.put, List.setIfInBounds_toArray, List.set_cons_zero, List.set_cons_succ]
  refine regB_take (i := 4) (d := some 25) (v := (.pointer (some ⟨g, 1, none⟩))) rfl rfl (by kernel_rfl) (by kernel_rfl) (by kernel_rfl) (fun _ _ _ h => h) (by rfl) (by intro w' hSw; go_simp) ?_
  try simp only [Act.put, List.setIfInBounds_toArray, List.set_cons_zero, List.set_cons_succ]
  refine regB_take (i := 5) (d := some 26) (v := (.string b)) rfl rfl (by kernel_rfl) (by kernel_rfl) (by kernel_rfl) (fun _ _ _ h => h) (by rfl) (by intro w' hSw; have h9 := HB.out w' hSw; go_simp) ?_
  try simp only [Act.put, List.setIfInBounds_toArray, List.set_cons_zero, List.set_cons_succ]
  refine regB_call (i := 6) rfl (by kernel_rfl) (by rfl) fun K hK => ?_
  go_simp
  refine (node_tup a b _ (HT.out _ b2.drew) Za.out Zb.out).mono ?_
  rintro e w3 ⟨rfl, hb3⟩
  have b3 := b2.drew.trans (hb3.mono b2.drew.size)
  refine hK.out _ _ hb3 ?_
  clear hK K
  try simp only [List.setIfInBounds_toArray, List.set_cons_zero, List.set_cons_succ]
  refine regB_take (i := 7) (d := some 20) (v := (.tuple #[.string (nd a b), .int .i64 0])) rfl rfl (by kernel_rfl) (by kernel_rfl) (by kernel_rfl) (fun _ _ _ h => h) (by rfl) (by intro w' hSw; go_simp) ?_
  try simp only [Act.put, List.setIfInBounds_toArray, List.set_cons_zero, List.set_cons_succ]
  refine regB_take (i := 8) (d := some 28) (v := (.string (nd a b))) rfl rfl (by kernel_rfl) (by kernel_rfl) (by kernel_rfl) (fun _ _ _ h => h) (by rfl) (by intro w' hSw; go_simp) ?_
  try simp only [Act.put, List.setIfInBounds_toArray, List.set_cons_zero, List.set_cons_succ]
  refine regB_take (i := 9) (d := some 29) (v := (.int .i64 0)) rfl rfl (by kernel_rfl) (by kernel_rfl) (by kernel_rfl) (fun _ _ _ h => h) (by rfl) (by intro w' hSw; go_simp) ?_
  try simp only [Act.put, List.setIfInBounds_toArray, List.set_cons_zero, List.set_cons_succ]
  refine regB_take (i := 10) (d := some 2) (v := (.string (nd a b))) rfl rfl (by kernel_rfl) (by kernel_rfl) (by kernel_rfl) (fun _ _ _ h => h) (by rfl) (by intro w' hSw; go_simp) ?_
  try simp only [Act.put, List.setIfInBounds_toArray, List.set_cons_zero, List.set_cons_succ]
  refine regB_take (i := 11) (d := some 3) (v := (.int .i64 0)) rfl rfl (by kernel_rfl) (by kernel_rfl) (by kernel_rfl) (fun _ _ _ h => h) (by rfl) (by intro w' hSw; go_simp) ?_
  try simp only [Act.put, List.setIfInBounds_toArray, List.set_cons_zero, List.set_cons_succ]
  refine wpAnyH_done (by kernel_rfl) ?_ _

  have bw3 : Below w2.heap.size w2 w3 := (Below.refl _ w2).drew.trans hb3
  have b3 : Below w.heap.size w w3 := b2.trans (bw3.mono b2.size)
  have hs3 := HSL.out.below bw3
  have hc3 := HC.out w3 bw3
  have HC3 : Hid (∀ w', Below w3.heap.size w3 w' → w'.cell? ⟨g, 2, none⟩ = some (.string c)) := fun w' hb => (hb.cell (p := ⟨g, 2, none⟩) (by have := bw3.size; simp; omega)).trans hc3
  clear hb3 bw3 HC HSL HA HB b2 hc3
  go_wp2_with fail
  refine (path_ok (some ⟨g, 0, none⟩) 3 cp [a, b, c] 2 _ (HT.out _ b3) rfl hs3 HD.out (by omega) hcp (by omega)).mono ?_
  rintro e w4 ⟨v4, rfl, hown4, hb4⟩
  rw [path3] at hown4
  have b4 := b3.trans (hb4.mono b3.size)
  have hs4 := hs3.below hb4
  obtain ⟨A4, c4, rfl, sl4, hc4, hm4, _⟩ := hown4.slice
  change Sl w4 A4 _ at sl4
  have len4 : [nd a b].length = 1 := rfl
  rw [len4] at hc4 ⊢
  clear hown4 hs3 len4
  go_wp2_with fail
  refine (Root_ok (some ⟨g, 0, none⟩) 3 cp [a, b, c] _ (HT.out _ b4) rfl hs4 hcp (by omega) HD.out).mono ?_
  rintro e w5 ⟨rfl, hb5⟩
  rw [rt3]
  have b5 := b4.trans (hb5.mono b4.size)
  have sl5 := sl4.below hb5
  have hcc := HC3.out w5 (hb4.trans (hb5.mono hb4.size))
  clear HC3 hb4 sl4 hs4
  go_wp2_with fail
  refine (climb_ok c 2 3 A4 1 c4 [nd a b] _ (HT.out _ b5) Zc.out (by omega) (by omega) rfl sl5 (by omega) rfl (by intro x hx; simp at hx; subst hx; exact nd_size _ _)).mono ?_
  rintro e w6 ⟨rfl, hb6⟩
  rw [climb3]
  have b6 := b5.trans (hb6.mono b5.size)
  have sl6 := sl5.below hb6
  obtain ⟨bb4, oo4, rfl, hbl4, hcell4⟩ := sl6.get (j := 0) (by simp [scells])
  have hcd : w6.cell? ⟨bb4, oo4, none⟩ = some (.string (nd a b)) := hcell4 0 _ rfl
  clear hb5 hb6 hcc sl5 sl6 hcell4
  go_wp2_with fail
  refine (Root_ok none 0 0 [] _ (HT.out _ b6) rfl Sl.nil (by omega) (by omega) (by intro x hx; simp at hx)).mono ?_
  rintro e w7 ⟨rfl, hb7⟩
  rw [show rt [] = ed from rfl]
  have b7 := b6.trans (hb7.mono b6.size)
  have hcd7 := (hb7.cell (p := ⟨bb4, oo4, none⟩) hbl4).trans hcd
  clear hb7 hcd
  go_wp2_with fail
  refine (split_in 2 _ (by omega) (by omega)).mono ?_
  rintro e w8 ⟨rfl, rfl⟩
  rw [S2.out]
  go_wp2_with fail
  refine (split_in 5 _ (by omega) (by omega)).mono ?_
  rintro e w8 ⟨rfl, rfl⟩
  rw [S5.out]
  go_wp2_with fail
  refine (split_in 8 _ (by omega) (by omega)).mono ?_
  rintro e w8 ⟨rfl, rfl⟩
  rw [S8.out]
  go_wp2_with fail
  refine (sum_nil _ (HT.out _ b7)).mono ?_
  rintro e w8 ⟨rfl, hb8⟩
  have b8 := b7.trans (hb8.mono b7.size)
  clear hcd7
  go_wp2_with fail
  go_ret
  exact ⟨rfl, b8⟩
end Go.Proofs.YtmebogaenbjmnaaDoor.TrW
