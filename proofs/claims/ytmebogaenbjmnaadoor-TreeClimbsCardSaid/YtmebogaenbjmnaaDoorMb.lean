/- tree: digests, node, combined, root. -/
import Derived.Test.YtmebogaenbjmnaaDoorMa
import Derived.Test.YtmebogaenbjmnaaDoorReg
import Derived.Test.YtmebogaenbjmnaaDoorScNode
import Derived.Test.YtmebogaenbjmnaaDoorScLeaf
import Derived.Test.YtmebogaenbjmnaaDoorSz
import Derived.Below
namespace Go.Proofs.YtmebogaenbjmnaaDoor.TrW
open Go.RowKit TreeW
open ShaW Sha
/-- The digest of a node; of nothing; the root of digests. -/
def nd (l r : ByteArray) : ByteArray := ⟨(sha (1 :: (l.data.toList ++ r.data.toList))).toArray⟩
def ed : ByteArray := ⟨(sha []).toArray⟩
def rt (ss : List ByteArray) : ByteArray := root nd ed ss
/-- Digests all. -/
def Digs (ss : List ByteArray) : Prop := ∀ x ∈ ss, x.size = 32
theorem Digs.take {ss : List ByteArray} (h : Digs ss) (k : Nat) : Digs (ss.take k) := fun x hx => h x (List.mem_of_mem_take hx)
theorem Digs.drop {ss : List ByteArray} (h : Digs ss) (k : Nat) : Digs (ss.drop k) := fun x hx => h x (List.mem_of_mem_drop hx)
instance (ss : List ByteArray) : Decidable (Digs ss) := by unfold Digs; infer_instance
theorem nd_size (l r : ByteArray) : (nd l r).size = 32 := SealW.sha_size _
theorem ed_size : ed.size = 32 := SealW.sha_size _
theorem rt_size : ∀ (m : Nat) (ss : List ByteArray), ss.length ≤ m → Digs ss → (rt ss).size = 32
  | m, [], _, _ => ed_size
  | m, [x], _, h => h x (by simp)
  | m, x :: y :: l, hm, h => by
    unfold rt
    rw [root_two nd ed _ (by simp)]
    exact nd_size _ _
theorem digs_take_succ {ss : List ByteArray} {j : Nat} {s : ByteArray} (hs : ss[j]? = some s) (h : Digs (ss.take j)) (h32 : s.size = 32) : Digs (ss.take (j + 1)) := by
  intro x hx
  rw [List.take_add_one, hs] at hx
  rcases List.mem_append.1 hx with hx | hx
  · exact h x hx
  · simp at hx; subst hx; exact h32
theorem get_of {ss : List ByteArray} {j : Nat} (h : j < ss.length) : ss[j]? = some (ss.getD j ⟨#[]⟩) := by simp [h]
set_option maxHeartbeats 1000000 in
theorem digests_any (A : Option Addr) (l c : Nat) (ss : List ByteArray) (w : World) (hl : ss.length = l) (hs : Sl w A (scells ss)) (hl63 : l ≤ 9223372036854775807) :
    Calls Tryd.prog 30 #[.slice A l c] w fun e w' => e = .returned (.bool (decide (Digs ss))) ∧ w = w' := by
  have HL := Lib.hid hl
  clear hl
  go_enter Tryd.func30, Tryd.ntmps30
  go_wp2_with fail
  go_loop [4, 7] (fun _ i => ∃ j : Nat, j ≤ l ∧ i = .int .i64 (j : Int) ∧ Hid (Digs (ss.take j))) (fun _ i => l - (intOf i).toNat)
  case atStart => exact ⟨0, by omega, rfl, fun x hx => by simp at hx⟩
  case round =>
    obtain ⟨j, hj, rfl, HK⟩ := hrel
    by_cases hlt : j < l
    · obtain ⟨b, o, rfl, hblt, hcell⟩ := hs.get (j := j) (by rw [scells_len, HL.out]; exact hlt)
      have hc0 := hcell j _ (scells_get ss j (by rw [HL.out]; exact hlt))
      have hget := get_of (ss := ss) (j := j) (by rw [HL.out]; exact hlt)
      obtain ⟨s, hsj⟩ : ∃ s, ss.getD j ⟨#[]⟩ = s := ⟨_, rfl⟩
      rw [hsj] at hc0 hget
      have HG := Lib.hid hget
      clear hcell hget hsj
      by_cases h32 : s.size = 32
      · have h1 : (s.size : Int) = 32 := by omega
        have HN := Lib.hid (digs_take_succ HG.out HK.out h32)
        clear h32
        go_wp2_with fail
        go_round
        case rel => exact ⟨j + 1, by omega, by go_num, HN⟩
        case measure => simp [intOf]; omega
      · have h1 : ¬ (s.size : Int) = 32 := by omega
        have HF : Hid (decide (Digs ss) = false) := decide_eq_false (fun h => h32 (h s (List.mem_of_getElem? HG.out)))
        clear h32
        go_wp2_with fail
        go_ret
        exact ⟨by rw [HF.out]; rfl, rfl⟩
    · have HF : Hid (decide (Digs ss) = true) := decide_eq_true (by
        have := HK.out
        rwa [List.take_of_length_le (by rw [HL.out]; omega)] at this)
      go_wp2_with fail
      go_ret
      exact ⟨by rw [HF.out]; rfl, rfl⟩
theorem node_any (l r : ByteArray) (w : World) (hT : Tab w) (h1 : l.size = 32) (h2 : r.size = 32) :
    Calls Tryd.prog 37 #[.string l, .string r] w fun e w' => e = .returned (.string (nd l r)) ∧ Below w.heap.size w w' := by
  have H1 := Lib.hid h1
  have H2 := Lib.hid h2
  clear h1 h2
  go_enter Tryd.func37, Tryd.ntmps37
  go_wp2_with fail
  refine (SealW.node_any l r _ hT H1.out H2.out).mono ?_
  rintro e w1 ⟨rfl, hb1⟩
  go_wp2_with fail
  go_ret
  exact ⟨rfl, hb1⟩
set_option maxRecDepth 100000 in
set_option maxHeartbeats 2000000 in
theorem combined_any (B : Nat) (v : Value) (st : List ByteArray) (x y : ByteArray) (w : World) (hT : ∀ W, Below B w W → Tab W) (hB : B ≤ w.heap.size) (hv : OwS B w v (st ++ [x, y])) (h1 : x.size = 32) (h2 : y.size = 32) (hm : st.length ≤ 1099511627776) :
    Calls Tryd.prog 45 #[v] w fun e w' => ∃ v', e = .returned v' ∧ OwS B w' v' (st ++ [nd x y]) ∧ Below B w w' := by
  have hb0 : Below B w w := Below.refl _ _
  have Zx := Lib.hid h1
  have Zy := Lib.hid h2
  obtain ⟨g, c, rfl, hBg, hgs, hnc, hcm⟩ := hv.block (by simp)
  obtain ⟨m, hm1⟩ : ∃ m, st.length = m := ⟨_, rfl⟩
  have HM := Lib.hid hm1
  have hlen : (st ++ [x, y]).length = m + 2 := by rw [List.length_append, hm1]; rfl
  have hXm : (st ++ [x, y])[m]? = some x := by rw [List.getElem?_append_right (by omega), hm1, Nat.sub_self]; rfl
  have hYm : (st ++ [x, y])[m + 1]? = some y := by rw [List.getElem?_append_right (by omega), hm1, Nat.add_sub_cancel_left]; rfl
  unfold OwS at hv
  rw [hlen] at hv hnc ⊢
  rw [hm1] at hm
  have hown := hv
  have hXc := hown.cells (g := g) rfl m _ (scells_at hXm)
  have hYc := hown.cells (g := g) rfl (m + 1) _ (scells_at hYm)
  rw [add_lit, Nat.zero_add] at hXc hYc
  have HX : Hid (w.drew.cell? ⟨g, m, none⟩ = some (.string x)) := hXc
  have HY : Hid (w.drew.cell? ⟨g, m + 1, none⟩ = some (.string y)) := hYc
  have hset : ∀ {W : World}, W.ownsRow B 9 1 (.slice (some ⟨g, 0, none⟩) (m + 2) c) (m + 2) ((scells (st ++ [x, y])).set m (.string (nd x y))) → OwS B W (.slice (some ⟨g, 0, none⟩) (m + 1) c) (st ++ [nd x y]) := by
    intro W h
    have e : (scells (st ++ [x, y])).set m (.string (nd x y)) = scells (st ++ [nd x y]) ++ [.string y] := by
      unfold scells
      rw [List.map_append, List.set_append_right _ _ (by rw [List.length_map]; omega), List.length_map, hm1, Nat.sub_self, List.map_append, List.append_assoc]
      rfl
    rw [e] at h
    unfold OwS
    rw [List.length_append, hm1]
    exact ownsRow_pop (by rw [scells_len, List.length_append, hm1]; simp) h
  clear hv h1 h2 hXc hYc hlen hYm
  have q1 : (m : Int) + 2 - 1 = (m : Int) + 1 := by omega
  have q2 : (m : Int) + 1 - 1 = (m : Int) := by omega
  have q3 : IntKind.i64.wrap (m : Int) = (m : Int) := IntWalk.i64_in _ (by omega)
  have q4 : IntKind.i64.wrap ((m : Int) + 1) = (m : Int) + 1 := IntWalk.i64_in _ (by omega)
  have q5 : ¬ ((m : Int) + 2 ≤ (m : Int)) := by omega
  have q6 : ¬ ((m : Int) + 2 ≤ (m : Int) + 1) := by omega
  have q7 : ¬ ((m : Int) + 1 < 0) := by omega
  go_enter Tryd.func45, Tryd.ntmps45
  go_wp2_with fail
  try clear HM
  refine regB_begin (B) (by kernel_rfl) ?_
  change wpAnyH _ _ _ _ _ 15 #[false, false, false, false, false, false, false, false, false, false, false, false, false, false, false] _ _
  refine regB_take (i := 0) (d := some 7) (v := (.slice (some ⟨g, 0, none⟩) (m + 2) c)) rfl rfl (by kernel_rfl) (by kernel_rfl) (by kernel_rfl) (fun _ _ _ h => h) (by rfl) (by intro w' hSw; go_simp) ?_
  try simp only [Act.put, List.setIfInBounds_toArray, List.set_cons_zero, List.set_cons_succ]
  refine regB_take (i := 1) (d := some 8) (v := (.int .i64 ((m : Int) + 1))) rfl rfl (by kernel_rfl) (by kernel_rfl) (by kernel_rfl) (fun _ _ _ h => h) (by rfl) (by intro w' hSw; go_simp) ?_
  try simp only [Act.put, List.setIfInBounds_toArray, List.set_cons_zero, List.set_cons_succ]
  refine regB_take (i := 2) (d := some 9) (v := (.int .i64 (m : Int))) rfl rfl (by kernel_rfl) (by kernel_rfl) (by kernel_rfl) (fun _ _ _ h => h) (by rfl) (by intro w' hSw; go_simp) ?_
  try simp only [Act.put, List.setIfInBounds_toArray, List.set_cons_zero, List.set_cons_succ]
  refine regB_take (i := 3) (d := some 10) (v := (.slice (some ⟨g, 0, none⟩) (m + 2) c)) rfl rfl (by kernel_rfl) (by kernel_rfl) (by kernel_rfl) (fun _ _ _ h => h) (by rfl) (by intro w' hSw; go_simp) ?_
  try simp only [Act.put, List.setIfInBounds_toArray, List.set_cons_zero, List.set_cons_succ]
  refine regB_take (i := 4) (d := some 11) (v := (.int .i64 ((m : Int) + 1))) rfl rfl (by kernel_rfl) (by kernel_rfl) (by kernel_rfl) (fun _ _ _ h => h) (by rfl) (by intro w' hSw; go_simp) ?_
  try simp only [Act.put, List.setIfInBounds_toArray, List.set_cons_zero, List.set_cons_succ]
  refine regB_take (i := 5) (d := some 12) (v := (.int .i64 (m : Int))) rfl rfl (by kernel_rfl) (by kernel_rfl) (by kernel_rfl) (fun _ _ _ h => h) (by rfl) (by intro w' hSw; go_simp) ?_
  try simp only [Act.put, List.setIfInBounds_toArray, List.set_cons_zero, List.set_cons_succ]
  refine regB_take (i := 6) (d := some 13) (v := (.pointer (some ⟨g, m, none⟩))) rfl rfl (by kernel_rfl) (by kernel_rfl) (by kernel_rfl) (fun _ _ _ h => h) (by rfl) (by intro w' hSw; go_simp) ?_
  try simp only [Act.put, List.setIfInBounds_toArray, List.set_cons_zero, List.set_cons_succ]
  refine regB_take (i := 8) (d := some 15) (v := (.slice (some ⟨g, 0, none⟩) (m + 2) c)) rfl rfl (by kernel_rfl) (by kernel_rfl) (by kernel_rfl) (fun _ _ _ h => h) (by rfl) (by intro w' hSw; go_simp) ?_
  try simp only [Act.put, List.setIfInBounds_toArray, List.set_cons_zero, List.set_cons_succ]
  refine regB_take (i := 9) (d := some 16) (v := (.int .i64 ((m : Int) + 1))) rfl rfl (by kernel_rfl) (by kernel_rfl) (by kernel_rfl) (fun _ _ _ h => h) (by rfl) (by intro w' hSw; go_simp) ?_
  try simp only [Act.put, List.setIfInBounds_toArray, List.set_cons_zero, List.set_cons_succ]
  refine regB_take (i := 10) (d := some 17) (v := (.pointer (some ⟨g, m + 1, none⟩))) rfl rfl (by kernel_rfl) (by kernel_rfl) (by kernel_rfl) (fun _ _ _ h => h) (by rfl) (by intro w' hSw; go_simp) ?_
  try simp only [Act.put, List.setIfInBounds_toArray, List.set_cons_zero, List.set_cons_succ]
  refine regB_two (i := 7) (j := 11) rfl rfl (by kernel_rfl) (by rfl) (by rfl) (fun K hK => ?_) (fun K hK => ?_)
  · have h9 := HX.out
    refine oper_yields (d := some 14) (v := (.string x)) rfl (by go_simp) ?_
    refine hK.out _ _ (Below.refl _ _) ?_
    clear hK K
    try simp only [Act.put, List.setIfInBounds_toArray, List.set_cons_zero, List.set_cons_succ]
    refine regB_call (i := 11) rfl (by kernel_rfl) (by rfl) fun K hK => ?_
    have h9 := HY.out
    refine oper_yields (d := some 18) (v := (.string y)) rfl (by go_simp) ?_
    refine hK.out _ _ (Below.refl _ _) ?_
    clear hK K
    try simp only [Act.put, List.setIfInBounds_toArray, List.set_cons_zero, List.set_cons_succ]
    refine regB_call (i := 12) rfl (by kernel_rfl) (by rfl) fun K hK => ?_
    go_simp
    refine (node_any x y _ (hT _ (hb0.drew)) Zx.out Zy.out).mono ?_
    rintro e w2 ⟨rfl, hb2⟩
    have b2 : Below B w.drew w2 := hb2.mono hB
    refine hK.out _ _ b2 ?_
    clear hK K
    try simp only [List.setIfInBounds_toArray, List.set_cons_zero, List.set_cons_succ]
    refine regB_take (i := 13) (d := some 20) (v := (.pointer (some ⟨g, m, none⟩))) rfl rfl (by kernel_rfl) (by kernel_rfl) (by kernel_rfl) (fun _ _ _ h => h) (by rfl) (by intro w' hSw; go_simp) ?_
    try simp only [Act.put, List.setIfInBounds_toArray, List.set_cons_zero, List.set_cons_succ]
    refine regB_call (i := 14) rfl (by kernel_rfl) (by rfl) fun K hK => ?_
    have o2 := own_below hown.drew hb2
    have h9 := (o2.cells (g := g) rfl m _ (scells_at hXm))
    rw [add_lit, Nat.zero_add] at h9
    have h8 := o2.frozenAt m
    obtain ⟨o3, g3⟩ := o2.stored m (.string (nd x y))
    clear o2
    go_simp
    refine hK.out _ _ (Below.setCell (Below.refl _ _) hBg _) ?_
    clear hK K
    try simp only [List.setIfInBounds_toArray, List.set_cons_zero, List.set_cons_succ]
    refine wpAnyH_done (by kernel_rfl) ?_ _
    obtain ⟨W, hW⟩ : ∃ W, w2.setCell ⟨g, m, none⟩ (.string (nd x y)) = W := ⟨_, rfl⟩
    rw [hW] at o3 ⊢
    have b3 : Below B w W := by rw [← hW]; exact (hb0.drew.trans b2).setCell hBg _
    clear hW g3 h9 h8 hb2 b2
    have o4 := hset o3
    have hto := fun w' => run_to (P := Tryd.prog) strsTy w' (some ⟨g, 0, none⟩) (m + 2) c (m + 1) .i64 (by omega)
    clear o3
    go_wp2_with fail
    go_ret
    exact ⟨_, rfl, o4, b3⟩
  · have h9 := HY.out
    refine oper_yields (d := some 18) (v := (.string y)) rfl (by go_simp) ?_
    refine hK.out _ _ (Below.refl _ _) ?_
    clear hK K
    try simp only [Act.put, List.setIfInBounds_toArray, List.set_cons_zero, List.set_cons_succ]
    refine regB_call (i := 7) rfl (by kernel_rfl) (by rfl) fun K hK => ?_
    have h9 := HX.out
    refine oper_yields (d := some 14) (v := (.string x)) rfl (by go_simp) ?_
    refine hK.out _ _ (Below.refl _ _) ?_
    clear hK K
    try simp only [Act.put, List.setIfInBounds_toArray, List.set_cons_zero, List.set_cons_succ]
    refine regB_call (i := 12) rfl (by kernel_rfl) (by rfl) fun K hK => ?_
    go_simp
    refine (node_any x y _ (hT _ (hb0.drew)) Zx.out Zy.out).mono ?_
    rintro e w2 ⟨rfl, hb2⟩
    have b2 : Below B w.drew w2 := hb2.mono hB
    refine hK.out _ _ b2 ?_
    clear hK K
    try simp only [List.setIfInBounds_toArray, List.set_cons_zero, List.set_cons_succ]
    refine regB_take (i := 13) (d := some 20) (v := (.pointer (some ⟨g, m, none⟩))) rfl rfl (by kernel_rfl) (by kernel_rfl) (by kernel_rfl) (fun _ _ _ h => h) (by rfl) (by intro w' hSw; go_simp) ?_
    try simp only [Act.put, List.setIfInBounds_toArray, List.set_cons_zero, List.set_cons_succ]
    refine regB_call (i := 14) rfl (by kernel_rfl) (by rfl) fun K hK => ?_
    have o2 := own_below hown.drew hb2
    have h9 := (o2.cells (g := g) rfl m _ (scells_at hXm))
    rw [add_lit, Nat.zero_add] at h9
    have h8 := o2.frozenAt m
    obtain ⟨o3, g3⟩ := o2.stored m (.string (nd x y))
    clear o2
    go_simp
    refine hK.out _ _ (Below.setCell (Below.refl _ _) hBg _) ?_
    clear hK K
    try simp only [List.setIfInBounds_toArray, List.set_cons_zero, List.set_cons_succ]
    refine wpAnyH_done (by kernel_rfl) ?_ _
    obtain ⟨W, hW⟩ : ∃ W, w2.setCell ⟨g, m, none⟩ (.string (nd x y)) = W := ⟨_, rfl⟩
    rw [hW] at o3 ⊢
    have b3 : Below B w W := by rw [← hW]; exact (hb0.drew.trans b2).setCell hBg _
    clear hW g3 h9 h8 hb2 b2
    have o4 := hset o3
    have hto := fun w' => run_to (P := Tryd.prog) strsTy w' (some ⟨g, 0, none⟩) (m + 2) c (m + 1) .i64 (by omega)
    clear o3
    go_wp2_with fail
    go_ret
    exact ⟨_, rfl, o4, b3⟩

end Go.Proofs.YtmebogaenbjmnaaDoor.TrW
