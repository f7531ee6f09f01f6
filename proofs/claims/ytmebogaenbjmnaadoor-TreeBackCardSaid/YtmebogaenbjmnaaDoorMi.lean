/- The statements' own Great, digests, ways. -/
import Derived.Test.YtmebogaenbjmnaaDoorMh
namespace Go.Proofs.YtmebogaenbjmnaaDoor.TrW
open Go.RowKit TreeW
open ShaW Sha
/-- Texts of more than 100 bytes, or more than 100 of them. -/
def Grt (ss : List ByteArray) : Prop := 100 < ss.length ∨ ∃ s ∈ ss, 100 < s.size
theorem grt_no {ss : List ByteArray} (h : ¬ Grt ss) : ss.length ≤ 100 ∧ ∀ s ∈ ss, s.size ≤ 100 := by
  refine ⟨Nat.le_of_not_lt fun h' => h (.inl h'), fun s hs => Nat.le_of_not_lt fun h' => h (.inr ⟨s, hs, h'⟩)⟩
instance (ss : List ByteArray) : Decidable (Grt ss) := by unfold Grt; infer_instance
set_option maxHeartbeats 1000000 in
theorem great_any (A : Option Addr) (l c : Nat) (ss : List ByteArray) (w : World) (hl : ss.length = l) (hs : Sl w A (scells ss)) (hl63 : l ≤ 9223372036854775807) :
    Calls Tryd.prog 10 #[.slice A l c] w fun e w' => e = .returned (.bool (decide (Grt ss))) ∧ w = w' := by
  have HL := Lib.hid hl
  clear hl
  go_enter Tryd.func10, Tryd.ntmps10
  go_wp2_with fail
  go_loop [3] (fun i => ∃ j : Nat, j ≤ l ∧ i = .int .i64 (j : Int) ∧ Hid (∀ s ∈ ss.take j, s.size ≤ 100)) (fun i => l - (intOf i).toNat)
  case atStart => exact ⟨0, by omega, rfl, fun x hx => by simp at hx⟩
  case round =>
    obtain ⟨j, hj, rfl, HK⟩ := hrel
    by_cases hlt : j < l
    · obtain ⟨b, o, rfl, hblt, hcell⟩ := hs.get (j := j) (by rw [scells_len, HL.out]; exact hlt)
      have hget := get_of (ss := ss) (j := j) (by rw [HL.out]; exact hlt)
      obtain ⟨s, hsj⟩ : ∃ s, ss.getD j ⟨#[]⟩ = s := ⟨_, rfl⟩
      rw [hsj] at hget
      have hc0 := hcell j _ (scells_at hget)
      have HG := Lib.hid hget
      clear hcell hget hsj
      by_cases h100 : 100 < s.size
      · have h1 : (100 : Int) < (s.size : Int) := by omega
        have HF : Hid (decide (Grt ss) = true) := decide_eq_true (.inr ⟨s, List.mem_of_getElem? HG.out, h100⟩)
        clear h100
        go_wp2_with fail
        go_ret
        exact ⟨by rw [HF.out]; rfl, rfl⟩
      · have h1 : ¬ (100 : Int) < (s.size : Int) := by omega
        have HN : Hid (∀ x ∈ ss.take (j + 1), x.size ≤ 100) := by
          intro x hx
          rw [take_snoc HG.out] at hx
          rcases List.mem_append.1 hx with hx | hx
          · exact HK.out x hx
          · simp at hx; subst hx; omega
        clear h100
        go_wp2_with fail
        go_round
        case rel => exact ⟨j + 1, by omega, by go_num, HN⟩
        case measure => simp [intOf]; omega
    · have HA : Hid (∀ s ∈ ss, s.size ≤ 100) := by
        have := HK.out
        rwa [List.take_of_length_le (by rw [HL.out]; omega)] at this
      by_cases h100 : 100 < l
      · have h1 : (100 : Int) < (l : Int) := by omega
        have HF : Hid (decide (Grt ss) = true) := decide_eq_true (.inl (by rw [HL.out]; exact h100))
        clear h100
        go_wp2_with fail
        go_ret
        exact ⟨by rw [HF.out]; rfl, rfl⟩
      · have h1 : ¬ (100 : Int) < (l : Int) := by omega
        have HF : Hid (decide (Grt ss) = false) := decide_eq_false (by
          rintro (h | ⟨s, hs, h⟩)
          · rw [HL.out] at h; exact h100 h
          · have := HA.out s hs; omega)
        clear h100
        go_wp2_with fail
        go_ret
        exact ⟨by rw [HF.out]; rfl, rfl⟩
theorem great_yes (A : Option Addr) (l c : Nat) (ss : List ByteArray) (w : World) (hl : ss.length = l) (hs : Sl w A (scells ss)) (hl63 : l ≤ 9223372036854775807) (h : Grt ss) :
    Calls Tryd.prog 10 #[.slice A l c] w fun e w' => e = .returned (.bool true) ∧ w = w' := by
  have := great_any A l c ss w hl hs hl63; rwa [decide_eq_true h] at this
theorem great_not (A : Option Addr) (l c : Nat) (ss : List ByteArray) (w : World) (hl : ss.length = l) (hs : Sl w A (scells ss)) (hl63 : l ≤ 9223372036854775807) (h : ¬ Grt ss) :
    Calls Tryd.prog 10 #[.slice A l c] w fun e w' => e = .returned (.bool false) ∧ w = w' := by
  have := great_any A l c ss w hl hs hl63; rwa [decide_eq_false h] at this
/-- The digests that the statements look at. -/
def dg (bss : List (List UInt8)) : List ByteArray := (bss.filter fun b => decide (b.length ≤ 1000)).map lf
theorem dg_digs (bss : List (List UInt8)) : Digs (dg bss) := lf_digs _
theorem dg_len (bss : List (List UInt8)) : (dg bss).length ≤ bss.length := by unfold dg; rw [List.length_map]; exact List.length_filter_le _ _
theorem dg_more {bss : List (List UInt8)} {j : Nat} {x : List UInt8} (h : bss[j]? = some x) (hx : x.length ≤ 1000) : dg (bss.take (j + 1)) = dg (bss.take j) ++ [lf x] := by
  unfold dg
  rw [List.take_add_one, h, List.filter_append, List.map_append]
  simp [hx]
theorem dg_same {bss : List (List UInt8)} {j : Nat} {x : List UInt8} (h : bss[j]? = some x) (hx : ¬ x.length ≤ 1000) : dg (bss.take (j + 1)) = dg (bss.take j) := by
  unfold dg
  rw [List.take_add_one, h, List.filter_append, List.map_append]
  simp [hx]
theorem refLeaf_any (B : Option Addr) (l d : Nat) (bs : List UInt8) (w : World) (hl : bs.length = l) (hb : Sl w B (bcells bs)) (h40 : l ≤ 1000000000000) :
    Calls Tryd.prog 38 #[.slice B l d] w fun e w' => e = .returned (.string (lf bs)) ∧ Below w.heap.size w w' := by
  have HL := Lib.hid hl
  clear hl
  go_enter Tryd.func38, Tryd.ntmps38
  go_wp2_with fail
  refine (SealW.refOf_any 0 B l d bs _ HL.out hb h40).mono ?_
  rintro e w1 ⟨rfl, hb1⟩
  go_wp2_with fail
  go_ret
  exact ⟨rfl, hb1⟩
set_option maxRecDepth 100000 in
set_option maxHeartbeats 2000000 in
theorem digests_law (A : Option Addr) (l c : Nat) (vs : List Value) (bss : List (List UInt8)) (w : World) (hl : bss.length = l) (hA : Sl w A vs) (hR : RowsAt w vs bss) (hl63 : l ≤ 9223372036854775807) :
    Calls Tryd.prog 24 #[.slice A l c, .int .i64 60] w fun e w' => ∃ v, e = .returned v ∧ OwS w.heap.size w' v (dg (bss.take 60)) ∧ Below w.heap.size w w' := by
  have HL := Lib.hid hl
  have HRL := Lib.hid hR.1
  have HR2 := Lib.hid hR.2
  have h0 : Below w.heap.size w w := Below.refl _ _
  clear hl hR
  go_enter Tryd.func24, Tryd.ntmps24
  go_wp2_with fail
  go_loopw [5, 6] (fun v i wr => ∃ j : Nat, j ≤ l ∧ j ≤ 60 ∧ i = .int .i64 (j : Int) ∧ OwS w.heap.size wr v (dg (bss.take j)) ∧ Below w.heap.size w wr) (fun _ i _ => 60 - (intOf i).toNat)
  case atStart => exact ⟨0, by omega, by omega, rfl, OwS.nil _ _, h0⟩
  case round =>
    clear h0
    obtain ⟨j, hj, hj60, rfl, hown, hbel⟩ := hrel
    by_cases hlt : j < l
    · by_cases h60 : j < 60
      · have hjb : j < bss.length := by rw [HL.out]; exact hlt
        obtain ⟨b, o, rfl, hblt, hcell⟩ := hA.get (j := j) (by rw [HRL.out]; exact hjb)
        obtain ⟨B, d, hv, hB, hBd, hd⟩ := HR2.out j hjb
        have hc0 := (hbel.cell (p := ⟨b, o + j, none⟩) hblt).trans (hcell j _ hv)
        have hB1 := hB.below hbel
        have hxj : bss[j]? = some (bss.getD j []) := by simp [hjb]
        obtain ⟨x, hx⟩ : ∃ x, bss.getD j [] = x := ⟨_, rfl⟩
        rw [hx] at hc0 hB1 hBd hxj
        have HY := Lib.hid (dg_more hxj)
        have HN := Lib.hid (dg_same hxj)
        obtain ⟨q, hq⟩ : ∃ q, x.length = q := ⟨_, rfl⟩
        rw [hq] at hc0 hBd HY HN
        have HQ := Lib.hid hq
        obtain ⟨m, hm⟩ : ∃ m, m = (dg (bss.take j)).length := ⟨_, rfl⟩
        have HM := Lib.hid hm
        have hmj : m ≤ j := by rw [hm]; exact Nat.le_trans (dg_len _) (by rw [List.length_take]; omega)
        unfold OwS at hown
        rw [← hm] at hown
        clear hcell hv hB hx hq hm hjb hxj
        by_cases h1000 : q ≤ 1000
        · have HX := Lib.hid (HY.out h1000)
          clear HY HN
          go_wp2_with fail
          refine (refLeaf_any B q d x _ HQ.out hB1 (by omega)).mono ?_
          rintro e w2 ⟨rfl, hb2⟩
          have b2 := hbel.trans (hb2.mono hbel.size)
          have hown2 := own_below hown hb2
          obtain ⟨s, hs⟩ : ∃ s, lf x = s := ⟨_, rfl⟩
          have HS := Lib.hid hs
          rw [hs]
          have HSL := Lib.hid (fun (W : World) => new_str W s)
          have hbx := b2.alloc b2.size (.cells #[.string s] 9)
          clear hb2 hown hs hc0 hB1
          go_wp2_with (refine wpList_app rfl (.tmp 24) (.tmp 30) 22 rfl strsTy w.heap.size _ m (scells (dg (bss.take j))) rfl (hown2.alloc _) _ 1 1 (scells [s]) rfl rfl (HSL.out _) (scells_one _) (by omega) hbx.size ?_; intro v3 w3 hown3 hgr3 hbl3)
          have hb3 := below_app hbx hgr3 (hown2.alloc (.cells #[.string s] 9)) (Nat.le_refl _) hbx.size
          have hown4 := snoc_ownS HM.out hown3
          clear hown2 hown3 hgr3 hbl3 hbx
          go_roundw
          case rel => exact ⟨j + 1, by omega, by omega, by go_num, by rw [HX.out, HS.out]; exact hown4, hb3⟩
          case measure => simp [intOf]; omega
        · have HX := Lib.hid (HN.out h1000)
          have k1 : ¬ (q : Int) ≤ 1000 := by omega
          have hown4 : OwS w.heap.size wr u5 (dg (bss.take j)) := by unfold OwS; rw [← HM.out]; exact hown
          clear HY HN hown
          go_wp2_with fail
          go_roundw
          case rel => exact ⟨j + 1, by omega, by omega, by go_num, by rw [HX.out]; exact hown4, hbel⟩
          case measure => simp [intOf]; omega
      · have h61 : j = 60 := by omega
        have HE : Hid (bss.take 60 = bss.take j) := by show _ = _; rw [h61]
        have k1 : ¬ (j : Int) < 60 := by omega
        clear h61 h60
        go_wp2_with fail
        go_ret
        exact ⟨_, rfl, by rw [HE.out]; exact hown, hbel⟩
    · have HE : Hid (bss.take 60 = bss.take j) := by
        show _ = _
        rw [List.take_of_length_le (by rw [HL.out]; omega), List.take_of_length_le (by rw [HL.out]; omega)]
      go_wp2_with fail
      go_ret
      exact ⟨_, rfl, by rw [HE.out]; exact hown, hbel⟩
/-- The bytes of a step. -/
def wy (u : ByteArray × ByteArray) : ByteArray := ⟨(1 :: (u.1.data.toList ++ u.2.data.toList)).toArray⟩
theorem wy_list (u : ByteArray × ByteArray) : (wy u).data.toList = 1 :: (u.1.data.toList ++ u.2.data.toList) := rfl
theorem wy_cat (x y : ByteArray) : (⟨#[1]⟩ : ByteArray) ++ x ++ y = wy (x, y) := by
  apply ByteArray.ext
  apply Array.ext'
  simp [wy]
theorem one_size (x : ByteArray) : ((⟨#[1]⟩ : ByteArray) ++ x).size = 1 + x.size := by simp; rfl
set_option maxRecDepth 1000000 in
set_option maxHeartbeats 2000000 in
theorem ways_any : ∀ (m : Nat) (leaf : ByteArray) (i n : Nat) (A : Option Addr) (l c : Nat) (ss : List ByteArray) (_hm : n ≤ m) (w : World) (_h1 : leaf.size = 32) (_hl : ss.length = l) (_hs : Sl w A (scells ss)) (_hd : Digs ss) (_hlc : l ≤ c) (_hn : n ≤ 1099511627776) (_hi : i < 1099511627777) (_hst : l = steps i n),
    Calls Tryd.prog 26 #[.string leaf, .int .i64 (i : Int), .int .i64 (n : Int), .slice A l c] w fun e w' => ∃ v, e = .returned v ∧ OwS w.heap.size w' v ((TreeW.ways nd ed leaf i n ss).map wy) ∧ Below w.heap.size w w' := by
  intro m
  induction m with
  | zero =>
    intro leaf i n A l c ss hm w h1 hl hs hd hlc hn hi hst
    have HC : Hid ((TreeW.ways nd ed leaf i n ss).map wy = []) := by show _ = _; rw [TreeW.ways_one nd ed leaf i n ss (by omega)]; rfl
    have k1 : (n : Int) < 2 := by omega
    clear h1 hl hs hd hst
    go_enter Tryd.func26, Tryd.ntmps26
    go_wp2_with fail
    go_ret
    exact ⟨_, rfl, by rw [HC.out]; exact OwS.nil _ _, Below.refl _ _⟩
  | succ m ih =>
    intro leaf i n A l c ss hm w h1 hl hs hd hlc hn hi hst
    by_cases h2 : n < 2
    · have HC : Hid ((TreeW.ways nd ed leaf i n ss).map wy = []) := by show _ = _; rw [TreeW.ways_one nd ed leaf i n ss h2]; rfl
      have k1 : (n : Int) < 2 := by omega
      clear h1 hl hs hd hst ih
      go_enter Tryd.func26, Tryd.ntmps26
      go_wp2_with fail
      go_ret
      exact ⟨_, rfl, by rw [HC.out]; exact OwS.nil _ _, Below.refl _ _⟩
    obtain ⟨sa, sb, _, _⟩ := split_spec (n := n) (by omega)
    have hyes := fun (p : List ByteArray) (d : ByteArray) => TreeW.ways_left nd ed (x := leaf) (i := i) (n := n) (p := p) (d := d) (by omega)
    have hno := fun (p : List ByteArray) (d : ByteArray) => TreeW.ways_right nd ed (x := leaf) (i := i) (n := n) (p := p) (d := d) (by omega)
    have syes := steps_left (i := i) (n := n) (by omega)
    have sno := steps_right (i := i) (n := n) (by omega)
    obtain ⟨k, hk⟩ : ∃ k, k = split n := ⟨_, rfl⟩
    rw [← hk] at sa sb syes sno
    simp only [← hk] at hyes hno
    have HK := Lib.hid hk
    have k1 : ¬ (n : Int) < 2 := by omega
    have b0 : Below w.heap.size w w.drew := (Below.refl _ _).drew
    have H1 := Lib.hid h1
    clear hk
    by_cases hik : i < k
    · obtain ⟨p, hp⟩ : ∃ p, p = steps i k := ⟨_, rfl⟩
      have hl1 : l = 1 + p := by rw [hst, syes hik, hp]
      obtain ⟨q0, d, b, o, rfl, hq, rfl, hblt, hcell, hsq, hdq, hd32, hto⟩ := path_parts hl hs hlc hl1 hd
      have HWL := Lib.hid (hyes q0 d hik)
      have HQ := Lib.hid hq
      have HCELL := Lib.hid hcell
      have HDQ := Lib.hid hdq
      have HTO := Lib.hid hto
      have HP := Lib.hid hp
      have hp41 : p < 1099511627777 := by have := steps_le k i; omega
      obtain ⟨C0, hC0⟩ : ∃ C0, climb nd ed leaf i k q0 = C0 := ⟨_, rfl⟩
      have hz0 : C0.size = 32 := by rw [← hC0]; exact climb_size k leaf i k q0 (Nat.le_refl _) h1
      have HC0 := Lib.hid hC0
      obtain ⟨S1, hS1⟩ : ∃ S1, (⟨#[1]⟩ : ByteArray) ++ C0 = S1 := ⟨_, rfl⟩
      have hz1 : S1.size = 33 := by rw [← hS1, one_size, hz0]
      have hS2 : S1 ++ d = wy (C0, d) := by rw [← hS1]; exact wy_cat C0 d
      obtain ⟨S2, hw2⟩ : ∃ S2, wy (C0, d) = S2 := ⟨_, rfl⟩
      rw [hw2] at hS2
      have HW2 := Lib.hid hw2
      have HS1 := Lib.hid hS1
      have HS2 := Lib.hid hS2
      have HZ0 : Hid (1 + C0.size ≤ 9223372036854775807) := by show _ ≤ _; rw [hz0]; omega
      have HZ1 : Hid (¬ 9223372036854775807 < S1.size + d.size) := by show ¬ _; rw [hz1, hd32]; omega
      have k5 : (i : Int) < (k : Int) := by omega
      have q1 : (1 : Int) + (p : Int) - 1 = (p : Int) := by omega
      have q3 : ¬ ((1 : Int) + (p : Int) ≤ (p : Int)) := by omega
      have q4 : ¬ ((p : Int) < 0) := by omega
      have q5 : IntKind.i64.wrap (p : Int) = (p : Int) := IntWalk.i64_in _ (by omega)
      subst hl1
      clear hyes hno syes sno hl hs hd hst h1 hp hq hcell hdq hd32 hto hC0 hz0 hS1 hz1 hS2 hw2
      go_enter Tryd.func26, Tryd.ntmps26
      go_wp2_with fail
      refine (refSplit_in n _ (by omega) hn).mono ?_
      rintro e w1 ⟨rfl, rfl⟩
      rw [← HK.out]
      go_wp2_with fail
      refine regB_begin (w.heap.size) (by kernel_rfl) ?_
      change wpAnyH _ _ _ _ _ 23 #[false, false, false, false, false, false, false, false, false, false, false, false, false, false, false, false, false, false, false, false, false, false, false] _ _
      refine regB_take (i := 0) (d := some 21) (v := (.string leaf)) rfl rfl (by kernel_rfl) (by kernel_rfl) (by kernel_rfl) (fun _ _ _ h => h) (by rfl) (by intro w' hSw; go_simp) ?_
      try simp only [Act.put, List.setIfInBounds_toArray, List.set_cons_zero, List.set_cons_succ]
      refine regB_take (i := 1) (d := some 22) (v := (.int .i64 (i : Int))) rfl rfl (by kernel_rfl) (by kernel_rfl) (by kernel_rfl) (fun _ _ _ h => h) (by rfl) (by intro w' hSw; go_simp) ?_
      try simp only [Act.put, List.setIfInBounds_toArray, List.set_cons_zero, List.set_cons_succ]
      refine regB_take (i := 2) (d := some 23) (v := (.int .i64 (k : Int))) rfl rfl (by kernel_rfl) (by kernel_rfl) (by kernel_rfl) (fun _ _ _ h => h) (by rfl) (by intro w' hSw; go_simp) ?_
      try simp only [Act.put, List.setIfInBounds_toArray, List.set_cons_zero, List.set_cons_succ]
      refine regB_take (i := 3) (d := some 24) (v := (.slice (some ⟨b, o, none⟩) (1 + p) c)) rfl rfl (by kernel_rfl) (by kernel_rfl) (by kernel_rfl) (fun _ _ _ h => h) (by rfl) (by intro w' hSw; go_simp) ?_
      try simp only [Act.put, List.setIfInBounds_toArray, List.set_cons_zero, List.set_cons_succ]
      refine regB_take (i := 4) (d := some 25) (v := (.int .i64 (p : Int))) rfl rfl (by kernel_rfl) (by kernel_rfl) (by kernel_rfl) (fun _ _ _ h => h) (by rfl) (by intro w' hSw; go_simp) ?_
      try simp only [Act.put, List.setIfInBounds_toArray, List.set_cons_zero, List.set_cons_succ]
      refine regB_take (i := 5) (d := some 26) (v := (.slice (some ⟨b, o, none⟩) p c)) rfl rfl (by kernel_rfl) (by kernel_rfl) (by kernel_rfl) (fun _ _ _ h => h) (by rfl) (by intro w' hSw; have h9 := HTO.out w'; go_simp) ?_
      try simp only [Act.put, List.setIfInBounds_toArray, List.set_cons_zero, List.set_cons_succ]
      refine regB_take (i := 7) (d := some 28) (v := (.string leaf)) rfl rfl (by kernel_rfl) (by kernel_rfl) (by kernel_rfl) (fun _ _ _ h => h) (by rfl) (by intro w' hSw; go_simp) ?_
      try simp only [Act.put, List.setIfInBounds_toArray, List.set_cons_zero, List.set_cons_succ]
      refine regB_take (i := 8) (d := some 29) (v := (.int .i64 (i : Int))) rfl rfl (by kernel_rfl) (by kernel_rfl) (by kernel_rfl) (fun _ _ _ h => h) (by rfl) (by intro w' hSw; go_simp) ?_
      try simp only [Act.put, List.setIfInBounds_toArray, List.set_cons_zero, List.set_cons_succ]
      refine regB_take (i := 9) (d := some 30) (v := (.int .i64 (k : Int))) rfl rfl (by kernel_rfl) (by kernel_rfl) (by kernel_rfl) (fun _ _ _ h => h) (by rfl) (by intro w' hSw; go_simp) ?_
      try simp only [Act.put, List.setIfInBounds_toArray, List.set_cons_zero, List.set_cons_succ]
      refine regB_take (i := 10) (d := some 31) (v := (.slice (some ⟨b, o, none⟩) (1 + p) c)) rfl rfl (by kernel_rfl) (by kernel_rfl) (by kernel_rfl) (fun _ _ _ h => h) (by rfl) (by intro w' hSw; go_simp) ?_
      try simp only [Act.put, List.setIfInBounds_toArray, List.set_cons_zero, List.set_cons_succ]
      refine regB_take (i := 11) (d := some 32) (v := (.int .i64 (p : Int))) rfl rfl (by kernel_rfl) (by kernel_rfl) (by kernel_rfl) (fun _ _ _ h => h) (by rfl) (by intro w' hSw; go_simp) ?_
      try simp only [Act.put, List.setIfInBounds_toArray, List.set_cons_zero, List.set_cons_succ]
      refine regB_take (i := 12) (d := some 33) (v := (.slice (some ⟨b, o, none⟩) p c)) rfl rfl (by kernel_rfl) (by kernel_rfl) (by kernel_rfl) (fun _ _ _ h => h) (by rfl) (by intro w' hSw; have h9 := HTO.out w'; go_simp) ?_
      try simp only [Act.put, List.setIfInBounds_toArray, List.set_cons_zero, List.set_cons_succ]
      refine regB_take (i := 15) (d := some 36) (v := (.slice (some ⟨b, o, none⟩) (1 + p) c)) rfl rfl (by kernel_rfl) (by kernel_rfl) (by kernel_rfl) (fun _ _ _ h => h) (by rfl) (by intro w' hSw; go_simp) ?_
      try simp only [Act.put, List.setIfInBounds_toArray, List.set_cons_zero, List.set_cons_succ]
      refine regB_take (i := 16) (d := some 37) (v := (.int .i64 (p : Int))) rfl rfl (by kernel_rfl) (by kernel_rfl) (by kernel_rfl) (fun _ _ _ h => h) (by rfl) (by intro w' hSw; go_simp) ?_
      try simp only [Act.put, List.setIfInBounds_toArray, List.set_cons_zero, List.set_cons_succ]
      refine regB_take (i := 17) (d := some 38) (v := (.pointer (some ⟨b, o + p, none⟩))) rfl rfl (by kernel_rfl) (by kernel_rfl) (by kernel_rfl) (fun _ _ _ h => h) (by rfl) (by intro w' hSw; go_simp) ?_
      try simp only [Act.put, List.setIfInBounds_toArray, List.set_cons_zero, List.set_cons_succ]
      refine regB_take (i := 18) (d := some 39) (v := (.string d)) rfl rfl (by kernel_rfl) (by kernel_rfl) (by kernel_rfl) (fun _ _ _ h => h) (by rfl) (by intro w' hSw; have h9 := HCELL.out w' (b0.trans hSw); go_simp) ?_
      try simp only [Act.put, List.setIfInBounds_toArray, List.set_cons_zero, List.set_cons_succ]
      refine regB_call (i := 6) rfl (by kernel_rfl) (by rfl) fun K hK => ?_
      go_simp
      refine (ih leaf i k (some ⟨b, o, none⟩) p c q0 (by omega) _ H1.out HQ.out (hsq.below b0) HDQ.out (by omega) (by omega) (by omega) HP.out).mono ?_
      rintro e w2 ⟨v2, rfl, hown2, hb2⟩
      have hown2 := hown2.base b0.size
      have b2 := b0.trans (hb2.mono b0.size)
      refine hK.out _ _ (hb2.mono b0.size) ?_
      clear hK K
      try simp only [List.setIfInBounds_toArray, List.set_cons_zero, List.set_cons_succ]
      refine regB_call (i := 13) rfl (by kernel_rfl) (by rfl) fun K hK => ?_
      go_simp
      refine (refClimb_any k leaf i k (some ⟨b, o, none⟩) p c q0 (by omega) _ H1.out HQ.out (hsq.below b2) HDQ.out (by omega) (by omega) (by omega) HP.out).mono ?_
      rintro e w3 ⟨rfl, hb3⟩
      have b3 := b2.trans (hb3.mono b2.size)
      have hown3 := hown2.below hb3
      clear hown2
      rw [HC0.out]
      refine hK.out _ _ (hb3.mono b2.size) ?_
      clear hK K
      try simp only [List.setIfInBounds_toArray, List.set_cons_zero, List.set_cons_succ]
      refine regB_take (i := 14) (d := some 35) (v := (.string S1)) rfl rfl (by kernel_rfl) (by kernel_rfl) (by kernel_rfl) (fun _ _ _ h => h) (by rfl) (by intro w' hSw; have h9 := HS1.out; have h8 := HZ0.out; go_simp) ?_
      try simp only [Act.put, List.setIfInBounds_toArray, List.set_cons_zero, List.set_cons_succ]
      refine regB_take (i := 19) (d := some 40) (v := (.string S2)) rfl rfl (by kernel_rfl) (by kernel_rfl) (by kernel_rfl) (fun _ _ _ h => h) (by rfl) (by intro w' hSw; have h9 := HS2.out; have h8 := HZ1.out; go_simp) ?_
      try simp only [Act.put, List.setIfInBounds_toArray, List.set_cons_zero, List.set_cons_succ]
      refine regB_call (i := 20) rfl (by kernel_rfl) (by rfl) fun K hK => ?_
      go_simp
      have b4 := b3.alloc b3.size (.cells #[.string S2] 9)
      refine hK.out _ _ ((Below.refl _ _).alloc b3.size _) ?_
      clear hK K
      try simp only [List.setIfInBounds_toArray, List.set_cons_zero, List.set_cons_succ]
      refine regB_call (i := 21) rfl (by kernel_rfl) (by rfl) fun K hK => ?_
      obtain ⟨P0, hP0⟩ : ∃ P0, P0 = (TreeW.ways nd ed leaf i k q0).map wy := ⟨_, rfl⟩
      rw [← hP0] at hown3
      obtain ⟨pp, hpp⟩ : ∃ pp, pp = P0.length := ⟨_, rfl⟩
      have hp40 : pp ≤ p := by rw [hpp, hP0, List.length_map, TreeW.ways_len nd ed _ leaf i k q0 (Nat.le_refl _), ← HP.out]; omega
      have hown4 : w3.ownsRow w.heap.size 9 1 v2 pp (scells P0) := by rw [hpp]; exact hown3
      refine oper_app (some 42) rfl (.tmp 27) (.tmp 41) 22 rfl strsTy w.heap.size v2 pp (scells P0) rfl (hown4.alloc _) (some ⟨w3.heap.size, 0, none⟩) 1 1 (scells [S2]) rfl rfl (new_str w3 _) (scells_one _) (by omega) b4.size ?_
      intro v5 w5 hown5 hgr5 hbl5
      have b5 := below_app b4 hgr5 (hown4.alloc _) (Nat.le_refl _) b4.size
      try simp only [Act.put]
      refine hK.out _ _ (below_app (Below.refl _ _) hgr5 (hown4.alloc _) (Nat.le_refl _) b4.size) ?_
      clear hK K
      try simp only [List.setIfInBounds_toArray, List.set_cons_zero, List.set_cons_succ]
      refine regB_take (i := 22) (d := some 8) (v := v5) rfl rfl (by kernel_rfl) (by kernel_rfl) (by kernel_rfl) (fun _ _ _ h => h) (by rfl) (by intro w' hSw; go_simp) ?_
      try simp only [Act.put, List.setIfInBounds_toArray, List.set_cons_zero, List.set_cons_succ]
      refine wpAnyH_done (by kernel_rfl) ?_ _
      have hown6 := snoc_ownS hpp hown5
      clear hown3 hown4 hown5 hgr5 hbl5 b4 b3 b2 hb2 hb3 b0 hpp hp40
      go_wp2_with fail
      go_ret
      refine ⟨v5, rfl, ?_, b5⟩
      rw [HWL.out, List.map_append, ← hP0, HC0.out, List.map_cons, HW2.out]; exact hown6

    · obtain ⟨p, hp⟩ : ∃ p, p = steps (i - k) (n - k) := ⟨_, rfl⟩
      have hl1 : l = 1 + p := by rw [hst, sno hik, hp]
      obtain ⟨q0, d, b, o, rfl, hq, rfl, hblt, hcell, hsq, hdq, hd32, hto⟩ := path_parts hl hs hlc hl1 hd
      have HWL := Lib.hid (hno q0 d hik)
      obtain ⟨r, hr⟩ : ∃ r, i - k = r := ⟨_, rfl⟩
      obtain ⟨z, hz⟩ : ∃ z, n - k = z := ⟨_, rfl⟩
      rw [hr, hz] at HWL hp
      have HQ := Lib.hid hq
      have HCELL := Lib.hid hcell
      have HDQ := Lib.hid hdq
      have HTO := Lib.hid hto
      have HP := Lib.hid hp
      have hp41 : p < 1099511627777 := by have := steps_le z r; omega
      obtain ⟨C0, hC0⟩ : ∃ C0, climb nd ed leaf r z q0 = C0 := ⟨_, rfl⟩
      have hz0 : C0.size = 32 := by rw [← hC0]; exact climb_size z leaf r z q0 (Nat.le_refl _) h1
      have HC0 := Lib.hid hC0
      obtain ⟨S1, hS1⟩ : ∃ S1, (⟨#[1]⟩ : ByteArray) ++ d = S1 := ⟨_, rfl⟩
      have hz1 : S1.size = 33 := by rw [← hS1, one_size, hd32]
      have hS2 : S1 ++ C0 = wy (d, C0) := by rw [← hS1]; exact wy_cat d C0
      obtain ⟨S2, hw2⟩ : ∃ S2, wy (d, C0) = S2 := ⟨_, rfl⟩
      rw [hw2] at hS2
      have HW2 := Lib.hid hw2
      have HS1 := Lib.hid hS1
      have HS2 := Lib.hid hS2
      have HZ0 : Hid (1 + d.size ≤ 9223372036854775807) := by show _ ≤ _; rw [hd32]; omega
      have HZ1 : Hid (¬ 9223372036854775807 < S1.size + C0.size) := by show ¬ _; rw [hz1, hz0]; omega
      have k5 : ¬ (i : Int) < (k : Int) := by omega
      have q1 : (1 : Int) + (p : Int) - 1 = (p : Int) := by omega
      have q3 : ¬ ((1 : Int) + (p : Int) ≤ (p : Int)) := by omega
      have q4 : ¬ ((p : Int) < 0) := by omega
      have q5 : IntKind.i64.wrap (p : Int) = (p : Int) := IntWalk.i64_in _ (by omega)
      have k6 : (i : Int) - (k : Int) = (r : Int) := by omega
      have k7 : (n : Int) - (k : Int) = (z : Int) := by omega
      have k8 : IntKind.i64.wrap (r : Int) = (r : Int) := IntWalk.i64_in _ (by omega)
      have k9 : IntKind.i64.wrap (z : Int) = (z : Int) := IntWalk.i64_in _ (by omega)
      subst hl1
      clear hyes hno syes sno hl hs hd hst h1 hp hq hcell hdq hd32 hto hC0 hz0 hS1 hz1 hS2 hw2
      go_enter Tryd.func26, Tryd.ntmps26
      go_wp2_with fail
      refine (refSplit_in n _ (by omega) hn).mono ?_
      rintro e w1 ⟨rfl, rfl⟩
      rw [← HK.out]
      go_wp2_with fail
      refine regB_begin (w.heap.size) (by kernel_rfl) ?_
      change wpAnyH _ _ _ _ _ 31 #[false, false, false, false, false, false, false, false, false, false, false, false, false, false, false, false, false, false, false, false, false, false, false, false, false, false, false, false, false, false, false] _ _
      refine regB_take (i := 0) (d := some 43) (v := (.string leaf)) rfl rfl (by kernel_rfl) (by kernel_rfl) (by kernel_rfl) (fun _ _ _ h => h) (by rfl) (by intro w' hSw; go_simp) ?_
      try simp only [Act.put, List.setIfInBounds_toArray, List.set_cons_zero, List.set_cons_succ]
      refine regB_take (i := 1) (d := some 44) (v := (.int .i64 (i : Int))) rfl rfl (by kernel_rfl) (by kernel_rfl) (by kernel_rfl) (fun _ _ _ h => h) (by rfl) (by intro w' hSw; go_simp) ?_
      try simp only [Act.put, List.setIfInBounds_toArray, List.set_cons_zero, List.set_cons_succ]
      refine regB_take (i := 2) (d := some 45) (v := (.int .i64 (k : Int))) rfl rfl (by kernel_rfl) (by kernel_rfl) (by kernel_rfl) (fun _ _ _ h => h) (by rfl) (by intro w' hSw; go_simp) ?_
      try simp only [Act.put, List.setIfInBounds_toArray, List.set_cons_zero, List.set_cons_succ]
      refine regB_take (i := 3) (d := some 46) (v := (.int .i64 (r : Int))) rfl rfl (by kernel_rfl) (by kernel_rfl) (by kernel_rfl) (fun _ _ _ h => h) (by rfl) (by intro w' hSw; go_simp) ?_
      try simp only [Act.put, List.setIfInBounds_toArray, List.set_cons_zero, List.set_cons_succ]
      refine regB_take (i := 4) (d := some 47) (v := (.int .i64 (n : Int))) rfl rfl (by kernel_rfl) (by kernel_rfl) (by kernel_rfl) (fun _ _ _ h => h) (by rfl) (by intro w' hSw; go_simp) ?_
      try simp only [Act.put, List.setIfInBounds_toArray, List.set_cons_zero, List.set_cons_succ]
      refine regB_take (i := 5) (d := some 48) (v := (.int .i64 (k : Int))) rfl rfl (by kernel_rfl) (by kernel_rfl) (by kernel_rfl) (fun _ _ _ h => h) (by rfl) (by intro w' hSw; go_simp) ?_
      try simp only [Act.put, List.setIfInBounds_toArray, List.set_cons_zero, List.set_cons_succ]
      refine regB_take (i := 6) (d := some 49) (v := (.int .i64 (z : Int))) rfl rfl (by kernel_rfl) (by kernel_rfl) (by kernel_rfl) (fun _ _ _ h => h) (by rfl) (by intro w' hSw; go_simp) ?_
      try simp only [Act.put, List.setIfInBounds_toArray, List.set_cons_zero, List.set_cons_succ]
      refine regB_take (i := 7) (d := some 50) (v := (.slice (some ⟨b, o, none⟩) (1 + p) c)) rfl rfl (by kernel_rfl) (by kernel_rfl) (by kernel_rfl) (fun _ _ _ h => h) (by rfl) (by intro w' hSw; go_simp) ?_
      try simp only [Act.put, List.setIfInBounds_toArray, List.set_cons_zero, List.set_cons_succ]
      refine regB_take (i := 8) (d := some 51) (v := (.int .i64 (p : Int))) rfl rfl (by kernel_rfl) (by kernel_rfl) (by kernel_rfl) (fun _ _ _ h => h) (by rfl) (by intro w' hSw; go_simp) ?_
      try simp only [Act.put, List.setIfInBounds_toArray, List.set_cons_zero, List.set_cons_succ]
      refine regB_take (i := 9) (d := some 52) (v := (.slice (some ⟨b, o, none⟩) p c)) rfl rfl (by kernel_rfl) (by kernel_rfl) (by kernel_rfl) (fun _ _ _ h => h) (by rfl) (by intro w' hSw; have h9 := HTO.out w'; go_simp) ?_
      try simp only [Act.put, List.setIfInBounds_toArray, List.set_cons_zero, List.set_cons_succ]
      refine regB_take (i := 11) (d := some 54) (v := (.slice (some ⟨b, o, none⟩) (1 + p) c)) rfl rfl (by kernel_rfl) (by kernel_rfl) (by kernel_rfl) (fun _ _ _ h => h) (by rfl) (by intro w' hSw; go_simp) ?_
      try simp only [Act.put, List.setIfInBounds_toArray, List.set_cons_zero, List.set_cons_succ]
      refine regB_take (i := 12) (d := some 55) (v := (.int .i64 (p : Int))) rfl rfl (by kernel_rfl) (by kernel_rfl) (by kernel_rfl) (fun _ _ _ h => h) (by rfl) (by intro w' hSw; go_simp) ?_
      try simp only [Act.put, List.setIfInBounds_toArray, List.set_cons_zero, List.set_cons_succ]
      refine regB_take (i := 13) (d := some 56) (v := (.pointer (some ⟨b, o + p, none⟩))) rfl rfl (by kernel_rfl) (by kernel_rfl) (by kernel_rfl) (fun _ _ _ h => h) (by rfl) (by intro w' hSw; go_simp) ?_
      try simp only [Act.put, List.setIfInBounds_toArray, List.set_cons_zero, List.set_cons_succ]
      refine regB_take (i := 14) (d := some 57) (v := (.string d)) rfl rfl (by kernel_rfl) (by kernel_rfl) (by kernel_rfl) (fun _ _ _ h => h) (by rfl) (by intro w' hSw; have h9 := HCELL.out w' (b0.trans hSw); go_simp) ?_
      try simp only [Act.put, List.setIfInBounds_toArray, List.set_cons_zero, List.set_cons_succ]
      refine regB_take (i := 15) (d := some 58) (v := (.string S1)) rfl rfl (by kernel_rfl) (by kernel_rfl) (by kernel_rfl) (fun _ _ _ h => h) (by rfl) (by intro w' hSw; have h9 := HS1.out; have h8 := HZ0.out; go_simp) ?_
      try simp only [Act.put, List.setIfInBounds_toArray, List.set_cons_zero, List.set_cons_succ]
      refine regB_take (i := 16) (d := some 59) (v := (.string leaf)) rfl rfl (by kernel_rfl) (by kernel_rfl) (by kernel_rfl) (fun _ _ _ h => h) (by rfl) (by intro w' hSw; go_simp) ?_
      try simp only [Act.put, List.setIfInBounds_toArray, List.set_cons_zero, List.set_cons_succ]
      refine regB_take (i := 17) (d := some 60) (v := (.int .i64 (i : Int))) rfl rfl (by kernel_rfl) (by kernel_rfl) (by kernel_rfl) (fun _ _ _ h => h) (by rfl) (by intro w' hSw; go_simp) ?_
      try simp only [Act.put, List.setIfInBounds_toArray, List.set_cons_zero, List.set_cons_succ]
      refine regB_take (i := 18) (d := some 61) (v := (.int .i64 (k : Int))) rfl rfl (by kernel_rfl) (by kernel_rfl) (by kernel_rfl) (fun _ _ _ h => h) (by rfl) (by intro w' hSw; go_simp) ?_
      try simp only [Act.put, List.setIfInBounds_toArray, List.set_cons_zero, List.set_cons_succ]
      refine regB_take (i := 19) (d := some 62) (v := (.int .i64 (r : Int))) rfl rfl (by kernel_rfl) (by kernel_rfl) (by kernel_rfl) (fun _ _ _ h => h) (by rfl) (by intro w' hSw; go_simp) ?_
      try simp only [Act.put, List.setIfInBounds_toArray, List.set_cons_zero, List.set_cons_succ]
      refine regB_take (i := 20) (d := some 63) (v := (.int .i64 (n : Int))) rfl rfl (by kernel_rfl) (by kernel_rfl) (by kernel_rfl) (fun _ _ _ h => h) (by rfl) (by intro w' hSw; go_simp) ?_
      try simp only [Act.put, List.setIfInBounds_toArray, List.set_cons_zero, List.set_cons_succ]
      refine regB_take (i := 21) (d := some 64) (v := (.int .i64 (k : Int))) rfl rfl (by kernel_rfl) (by kernel_rfl) (by kernel_rfl) (fun _ _ _ h => h) (by rfl) (by intro w' hSw; go_simp) ?_
      try simp only [Act.put, List.setIfInBounds_toArray, List.set_cons_zero, List.set_cons_succ]
      refine regB_take (i := 22) (d := some 65) (v := (.int .i64 (z : Int))) rfl rfl (by kernel_rfl) (by kernel_rfl) (by kernel_rfl) (fun _ _ _ h => h) (by rfl) (by intro w' hSw; go_simp) ?_
      try simp only [Act.put, List.setIfInBounds_toArray, List.set_cons_zero, List.set_cons_succ]
      refine regB_take (i := 23) (d := some 66) (v := (.slice (some ⟨b, o, none⟩) (1 + p) c)) rfl rfl (by kernel_rfl) (by kernel_rfl) (by kernel_rfl) (fun _ _ _ h => h) (by rfl) (by intro w' hSw; go_simp) ?_
      try simp only [Act.put, List.setIfInBounds_toArray, List.set_cons_zero, List.set_cons_succ]
      refine regB_take (i := 24) (d := some 67) (v := (.int .i64 (p : Int))) rfl rfl (by kernel_rfl) (by kernel_rfl) (by kernel_rfl) (fun _ _ _ h => h) (by rfl) (by intro w' hSw; go_simp) ?_
      try simp only [Act.put, List.setIfInBounds_toArray, List.set_cons_zero, List.set_cons_succ]
      refine regB_take (i := 25) (d := some 68) (v := (.slice (some ⟨b, o, none⟩) p c)) rfl rfl (by kernel_rfl) (by kernel_rfl) (by kernel_rfl) (fun _ _ _ h => h) (by rfl) (by intro w' hSw; have h9 := HTO.out w'; go_simp) ?_
      try simp only [Act.put, List.setIfInBounds_toArray, List.set_cons_zero, List.set_cons_succ]
      refine regB_call (i := 10) rfl (by kernel_rfl) (by rfl) fun K hK => ?_
      go_simp
      refine (ih leaf r z (some ⟨b, o, none⟩) p c q0 (by omega) _ H1.out HQ.out (hsq.below b0) HDQ.out (by omega) (by omega) (by omega) HP.out).mono ?_
      rintro e w2 ⟨v2, rfl, hown2, hb2⟩
      have hown2 := hown2.base b0.size
      have b2 := b0.trans (hb2.mono b0.size)
      refine hK.out _ _ (hb2.mono b0.size) ?_
      clear hK K
      try simp only [List.setIfInBounds_toArray, List.set_cons_zero, List.set_cons_succ]
      refine regB_call (i := 26) rfl (by kernel_rfl) (by rfl) fun K hK => ?_
      go_simp
      refine (refClimb_any z leaf r z (some ⟨b, o, none⟩) p c q0 (by omega) _ H1.out HQ.out (hsq.below b2) HDQ.out (by omega) (by omega) (by omega) HP.out).mono ?_
      rintro e w3 ⟨rfl, hb3⟩
      have b3 := b2.trans (hb3.mono b2.size)
      have hown3 := hown2.below hb3
      clear hown2
      rw [HC0.out]
      refine hK.out _ _ (hb3.mono b2.size) ?_
      clear hK K
      try simp only [List.setIfInBounds_toArray, List.set_cons_zero, List.set_cons_succ]
      refine regB_take (i := 27) (d := some 70) (v := (.string S2)) rfl rfl (by kernel_rfl) (by kernel_rfl) (by kernel_rfl) (fun _ _ _ h => h) (by rfl) (by intro w' hSw; have h9 := HS2.out; have h8 := HZ1.out; go_simp) ?_
      try simp only [Act.put, List.setIfInBounds_toArray, List.set_cons_zero, List.set_cons_succ]
      refine regB_call (i := 28) rfl (by kernel_rfl) (by rfl) fun K hK => ?_
      go_simp
      have b4 := b3.alloc b3.size (.cells #[.string S2] 9)
      refine hK.out _ _ ((Below.refl _ _).alloc b3.size _) ?_
      clear hK K
      try simp only [List.setIfInBounds_toArray, List.set_cons_zero, List.set_cons_succ]
      refine regB_call (i := 29) rfl (by kernel_rfl) (by rfl) fun K hK => ?_
      obtain ⟨P0, hP0⟩ : ∃ P0, P0 = (TreeW.ways nd ed leaf r z q0).map wy := ⟨_, rfl⟩
      rw [← hP0] at hown3
      obtain ⟨pp, hpp⟩ : ∃ pp, pp = P0.length := ⟨_, rfl⟩
      have hp40 : pp ≤ p := by rw [hpp, hP0, List.length_map, TreeW.ways_len nd ed _ leaf r z q0 (Nat.le_refl _), ← HP.out]; omega
      have hown4 : w3.ownsRow w.heap.size 9 1 v2 pp (scells P0) := by rw [hpp]; exact hown3
      refine oper_app (some 72) rfl (.tmp 53) (.tmp 71) 22 rfl strsTy w.heap.size v2 pp (scells P0) rfl (hown4.alloc _) (some ⟨w3.heap.size, 0, none⟩) 1 1 (scells [S2]) rfl rfl (new_str w3 _) (scells_one _) (by omega) b4.size ?_
      intro v5 w5 hown5 hgr5 hbl5
      have b5 := below_app b4 hgr5 (hown4.alloc _) (Nat.le_refl _) b4.size
      try simp only [Act.put]
      refine hK.out _ _ (below_app (Below.refl _ _) hgr5 (hown4.alloc _) (Nat.le_refl _) b4.size) ?_
      clear hK K
      try simp only [List.setIfInBounds_toArray, List.set_cons_zero, List.set_cons_succ]
      refine regB_take (i := 30) (d := some 8) (v := v5) rfl rfl (by kernel_rfl) (by kernel_rfl) (by kernel_rfl) (fun _ _ _ h => h) (by rfl) (by intro w' hSw; go_simp) ?_
      try simp only [Act.put, List.setIfInBounds_toArray, List.set_cons_zero, List.set_cons_succ]
      refine wpAnyH_done (by kernel_rfl) ?_ _
      have hown6 := snoc_ownS hpp hown5
      clear hown3 hown4 hown5 hgr5 hbl5 b4 b3 b2 hb2 hb3 b0 hpp hp40
      go_wp2_with fail
      go_ret
      refine ⟨v5, rfl, ?_, b5⟩
      rw [HWL.out, List.map_append, ← hP0, HC0.out, List.map_cons, HW2.out]; exact hown6

end Go.Proofs.YtmebogaenbjmnaaDoor.TrW
