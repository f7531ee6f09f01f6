/- The law SealApart. -/
import Derived.Test.YtkoelgkcgkeodaaDoorSg
import Derived.Test.YtkoelgkcgkeodaaDoorSbLeaf
import Derived.Test.YtkoelgkcgkeodaaDoorSbPosts
import Derived.Test.YtkoelgkcgkeodaaDoorSbHead
import Derived.Test.YtkoelgkcgkeodaaDoorSbNode
import Derived.Test.YtkoelgkcgkeodaaDoorReg
import Derived.Deep.QuietTactic
import Derived.BigQuiet
namespace Go.Proofs.YtkoelgkcgkeodaaDoor.SealW
open Go.RowKit
open ShaW Sha
theorem dat_inj {a b : ByteArray} : a.data.toList = b.data.toList ↔ a = b := ⟨fun h => by cases a; cases b; simpa using h, fun h => by rw [h]⟩
theorem node_inj {l r p s : ByteArray} (h1 : l.size = 32) (h2 : p.size = 32) : ((1 : UInt8) :: (l.data.toList ++ r.data.toList) = 1 :: (p.data.toList ++ s.data.toList)) ↔ l = p ∧ r = s := by
  constructor
  · intro h
    have h3 := List.append_inj (List.cons.inj h).2 (by rw [bsize, bsize, h1, h2])
    exact ⟨dat_inj.1 h3.1, dat_inj.1 h3.2⟩
  · rintro ⟨rfl, rfl⟩; rfl
theorem bool_cases (b : Bool) (h : b = true → False) : b = false := by cases b <;> simp_all
/-- The four bytes of seals. -/
def four (xs nn : List UInt8) : List (List UInt8) := [0 :: xs, nn, 2 :: xs, 3 :: xs]
def fourS (xs nn : List UInt8) : List ByteArray := (four xs nn).map fun l => ⟨l.toArray⟩
theorem lt4 {i : Nat} (h : i < 4) : i = 0 ∨ i = 1 ∨ i = 2 ∨ i = 3 := by omega
theorem scells4 (a b c d : ByteArray) (i : Nat) (h : i < 4) : ([.string a, .string b, .string c, .string d] : List Value)[i]? = some (.string (([a, b, c, d] : List ByteArray).getD i ⟨#[]⟩)) := by
  rcases lt4 h with rfl | rfl | rfl | rfl <;> rfl
theorem four_ne {xs ys n1 n2 : List UInt8} {i k : Nat} (hi : i < 4) (hk : k < 4) (h : i ≠ k) : (((fourS xs (1 :: n1)).getD i ⟨#[]⟩).toList == ((fourS ys (1 :: n2)).getD k ⟨#[]⟩).toList) = false := by
  apply beq_no
  rcases lt4 hi with rfl | rfl | rfl | rfl <;> rcases lt4 hk with rfl | rfl | rfl | rfl <;> first | exact absurd rfl h | (intro h2; have h3 := mk_inj.1 h2; have h4 := (List.cons.inj h3).1; revert h4; decide)
theorem beq_iff {a b c d : List UInt8} (h : a = b ↔ c = d) : ((⟨a.toArray⟩ : ByteArray).toList == (⟨b.toArray⟩ : ByteArray).toList) = ((⟨c.toArray⟩ : ByteArray).toList == (⟨d.toArray⟩ : ByteArray).toList) := by
  rw [beq_str, beq_str]
  exact decide_eq_decide.2 (mk_inj.trans (h.trans mk_inj.symm))
theorem four_eq {xs ys n1 n2 : List UInt8} {i : Nat} (hi : i < 4) (h : i ≠ 1) : (((fourS xs n1).getD i ⟨#[]⟩).toList == ((fourS ys n2).getD i ⟨#[]⟩).toList) = ((⟨xs.toArray⟩ : ByteArray).toList == (⟨ys.toArray⟩ : ByteArray).toList) := by
  rcases lt4 hi with rfl | rfl | rfl | rfl
  · exact beq_iff ⟨fun h => (List.cons.inj h).2, fun h => by rw [h]⟩
  · exact absurd rfl h
  · exact beq_iff ⟨fun h => (List.cons.inj h).2, fun h => by rw [h]⟩
  · exact beq_iff ⟨fun h => (List.cons.inj h).2, fun h => by rw [h]⟩
set_option maxRecDepth 100000 in
set_option maxHeartbeats 4000000 in
theorem lawApart (A : Option Addr) (n c : Nat) (xs : List UInt8) (B : Option Addr) (m d : Nat) (ys : List UInt8) (l r p s : ByteArray) (w : World) (hT : Tab w) (hn : xs.length = n) (hA : Sl w A (bcells xs)) (hm : ys.length = m) (hB : Sl w B (bcells ys)) :
    Calls Tryd.prog 5 #[.slice A n c, .slice B m d, .string l, .string r, .string p, .string s] w fun e w' => e = .returned (.bool true) ∧ Below w.heap.size w w' := by
  have HN : Hid (xs.length = n) := hn
  have HM : Hid (ys.length = m) := hm
  have HN1 : Hid ((0 :: xs).length = n + 1) := by show _ = _; simp [hn]
  have HM1 : Hid ((0 :: ys).length = m + 1) := by show _ = _; simp [hm]
  have hpos := hT.pos
  clear hn hm
  by_cases hg : 2000 < n
  · have hd : decide (2000 < n) = true := decide_eq_true hg
    clear hg
    go_enter Tryd.func5, Tryd.ntmps5
    go_wp2_with fail
    refine (great_any A n c _).mono ?_
    rintro e w1 ⟨rfl, rfl⟩
    rw [hd]
    go_wp2_with fail
    refine (knows_any _ hT).mono ?_
    rintro e wk ⟨rfl, hbk⟩
    go_wp2_with fail
    go_ret
    exact ⟨rfl, hbk⟩
  have hd : decide (2000 < n) = false := decide_eq_false hg
  by_cases hg2 : 2000 < m
  · have hd2 : decide (2000 < m) = true := decide_eq_true hg2
    clear hg hg2
    go_enter Tryd.func5, Tryd.ntmps5
    go_wp2_with fail
    refine (great_any A n c _).mono ?_
    rintro e w1 ⟨rfl, rfl⟩
    rw [hd]
    go_wp2_with fail
    refine (great_any B m d _).mono ?_
    rintro e w1 ⟨rfl, rfl⟩
    rw [hd2]
    go_wp2_with fail
    refine (knows_any _ hT).mono ?_
    rintro e wk ⟨rfl, hbk⟩
    go_wp2_with fail
    go_ret
    exact ⟨rfl, hbk⟩
  have hd2 : decide (2000 < m) = false := decide_eq_false hg2
  have hn2 : n ≤ 2000 := by omega
  have hm2 : m ≤ 2000 := by omega
  clear hg hg2
  by_cases hl : l.size = 32
  rotate_left
  · have fl : ¬ ((l.size : Nat) : Int) = 32 := by omega
    clear hl
    go_enter Tryd.func5, Tryd.ntmps5
    go_wp2_with fail
    refine (great_any A n c _).mono ?_
    rintro e w1 ⟨rfl, rfl⟩
    rw [hd]
    go_wp2_with fail
    refine (great_any B m d _).mono ?_
    rintro e w1 ⟨rfl, rfl⟩
    rw [hd2]
    go_wp2_with fail
    refine (knows_any _ hT).mono ?_
    rintro e wk ⟨rfl, hbk⟩
    go_wp2_with fail
    go_ret
    exact ⟨rfl, hbk⟩
  have fl : ((l.size : Nat) : Int) = 32 := by omega
  have Zl : Hid (l.size = 32) := hl
  clear hl
  by_cases hr : r.size = 32
  rotate_left
  · have fr : ¬ ((r.size : Nat) : Int) = 32 := by omega
    clear hr
    go_enter Tryd.func5, Tryd.ntmps5
    go_wp2_with fail
    refine (great_any A n c _).mono ?_
    rintro e w1 ⟨rfl, rfl⟩
    rw [hd]
    go_wp2_with fail
    refine (great_any B m d _).mono ?_
    rintro e w1 ⟨rfl, rfl⟩
    rw [hd2]
    go_wp2_with fail
    refine (knows_any _ hT).mono ?_
    rintro e wk ⟨rfl, hbk⟩
    go_wp2_with fail
    go_ret
    exact ⟨rfl, hbk⟩
  have fr : ((r.size : Nat) : Int) = 32 := by omega
  have Zr : Hid (r.size = 32) := hr
  clear hr
  by_cases hp : p.size = 32
  rotate_left
  · have fp : ¬ ((p.size : Nat) : Int) = 32 := by omega
    clear hp
    go_enter Tryd.func5, Tryd.ntmps5
    go_wp2_with fail
    refine (great_any A n c _).mono ?_
    rintro e w1 ⟨rfl, rfl⟩
    rw [hd]
    go_wp2_with fail
    refine (great_any B m d _).mono ?_
    rintro e w1 ⟨rfl, rfl⟩
    rw [hd2]
    go_wp2_with fail
    refine (knows_any _ hT).mono ?_
    rintro e wk ⟨rfl, hbk⟩
    go_wp2_with fail
    go_ret
    exact ⟨rfl, hbk⟩
  have fp : ((p.size : Nat) : Int) = 32 := by omega
  have Zp : Hid (p.size = 32) := hp
  clear hp
  by_cases hs : s.size = 32
  rotate_left
  · have fs : ¬ ((s.size : Nat) : Int) = 32 := by omega
    clear hs
    go_enter Tryd.func5, Tryd.ntmps5
    go_wp2_with fail
    refine (great_any A n c _).mono ?_
    rintro e w1 ⟨rfl, rfl⟩
    rw [hd]
    go_wp2_with fail
    refine (great_any B m d _).mono ?_
    rintro e w1 ⟨rfl, rfl⟩
    rw [hd2]
    go_wp2_with fail
    refine (knows_any _ hT).mono ?_
    rintro e wk ⟨rfl, hbk⟩
    go_wp2_with fail
    go_ret
    exact ⟨rfl, hbk⟩
  have fs : ((s.size : Nat) : Int) = 32 := by omega
  have Zs : Hid (s.size = 32) := hs
  clear hs
  obtain ⟨X0, qX0⟩ : ∃ S : ByteArray, (⟨((0 :: xs : List UInt8)).toArray⟩ : ByteArray) = S := ⟨_, rfl⟩
  have HX0 : Hid ((⟨((0 :: xs : List UInt8)).toArray⟩ : ByteArray) = X0) := qX0
  clear qX0
  obtain ⟨X1, qX1⟩ : ∃ S : ByteArray, (⟨((1 :: (l.data.toList ++ r.data.toList) : List UInt8)).toArray⟩ : ByteArray) = S := ⟨_, rfl⟩
  have HX1 : Hid ((⟨((1 :: (l.data.toList ++ r.data.toList) : List UInt8)).toArray⟩ : ByteArray) = X1) := qX1
  clear qX1
  obtain ⟨X2, qX2⟩ : ∃ S : ByteArray, (⟨((2 :: xs : List UInt8)).toArray⟩ : ByteArray) = S := ⟨_, rfl⟩
  have HX2 : Hid ((⟨((2 :: xs : List UInt8)).toArray⟩ : ByteArray) = X2) := qX2
  clear qX2
  obtain ⟨X3, qX3⟩ : ∃ S : ByteArray, (⟨((3 :: xs : List UInt8)).toArray⟩ : ByteArray) = S := ⟨_, rfl⟩
  have HX3 : Hid ((⟨((3 :: xs : List UInt8)).toArray⟩ : ByteArray) = X3) := qX3
  clear qX3
  obtain ⟨Y0, qY0⟩ : ∃ S : ByteArray, (⟨((0 :: ys : List UInt8)).toArray⟩ : ByteArray) = S := ⟨_, rfl⟩
  have HY0 : Hid ((⟨((0 :: ys : List UInt8)).toArray⟩ : ByteArray) = Y0) := qY0
  clear qY0
  obtain ⟨Y1, qY1⟩ : ∃ S : ByteArray, (⟨((1 :: (p.data.toList ++ s.data.toList) : List UInt8)).toArray⟩ : ByteArray) = S := ⟨_, rfl⟩
  have HY1 : Hid ((⟨((1 :: (p.data.toList ++ s.data.toList) : List UInt8)).toArray⟩ : ByteArray) = Y1) := qY1
  clear qY1
  obtain ⟨Y2, qY2⟩ : ∃ S : ByteArray, (⟨((2 :: ys : List UInt8)).toArray⟩ : ByteArray) = S := ⟨_, rfl⟩
  have HY2 : Hid ((⟨((2 :: ys : List UInt8)).toArray⟩ : ByteArray) = Y2) := qY2
  clear qY2
  obtain ⟨Y3, qY3⟩ : ∃ S : ByteArray, (⟨((3 :: ys : List UInt8)).toArray⟩ : ByteArray) = S := ⟨_, rfl⟩
  have HY3 : Hid ((⟨((3 :: ys : List UInt8)).toArray⟩ : ByteArray) = Y3) := qY3
  clear qY3
  obtain ⟨BX, qBX⟩ : ∃ S : ByteArray, (⟨(xs).toArray⟩ : ByteArray) = S := ⟨_, rfl⟩
  have HBX : Hid ((⟨(xs).toArray⟩ : ByteArray) = BX) := qBX
  clear qBX
  obtain ⟨BY, qBY⟩ : ∃ S : ByteArray, (⟨(ys).toArray⟩ : ByteArray) = S := ⟨_, rfl⟩
  have HBY : Hid ((⟨(ys).toArray⟩ : ByteArray) = BY) := qBY
  clear qBY
  obtain ⟨sm, hsm⟩ : ∃ q : Bool, (BX.toList == BY.toList) = q := ⟨_, rfl⟩
  have HX : Hid (fourS xs (1 :: (l.data.toList ++ r.data.toList)) = [X0, X1, X2, X3]) := by show _ = _; rw [← HX0.out, ← HX1.out, ← HX2.out, ← HX3.out]; rfl
  have HY : Hid (fourS ys (1 :: (p.data.toList ++ s.data.toList)) = [Y0, Y1, Y2, Y3]) := by show _ = _; rw [← HY0.out, ← HY1.out, ← HY2.out, ← HY3.out]; rfl
  have HNE : Hid (∀ i k : Nat, i < 4 → k < 4 → i ≠ k → ((([X0, X1, X2, X3] : List ByteArray).getD i ⟨#[]⟩).toList == (([Y0, Y1, Y2, Y3] : List ByteArray).getD k ⟨#[]⟩).toList) = false) := fun i k hi hk h => by rw [← HX.out, ← HY.out]; exact four_ne hi hk h
  have HEQ : Hid (∀ i : Nat, i < 4 → i ≠ 1 → ((([X0, X1, X2, X3] : List ByteArray).getD i ⟨#[]⟩).toList == (([Y0, Y1, Y2, Y3] : List ByteArray).getD i ⟨#[]⟩).toList) = sm) := fun i hi h => by rw [← hsm, ← HX.out, ← HY.out, ← HBX.out, ← HBY.out]; exact four_eq hi h
  have H11 : Hid ((X1 = Y1) ↔ l = p ∧ r = s) := by
    show _ ↔ _
    rw [← HX1.out, ← HY1.out]; exact mk_inj.trans (node_inj Zl.out Zp.out)
  have ZX : ∀ k : UInt8, Hid ((k :: xs).length = n + 1) := fun k => by show _ = _; simp [HN.out]
  have ZY : ∀ k : UInt8, Hid ((k :: ys).length = m + 1) := fun k => by show _ = _; simp [HM.out]
  have ZXN : Hid ((1 :: (l.data.toList ++ r.data.toList) : List UInt8).length = l.size + r.size + 1) := by show _ = _; simp
  have ZYN : Hid ((1 :: (p.data.toList ++ s.data.toList) : List UInt8).length = p.size + s.size + 1) := by show _ = _; simp
  clear HX HY HN1 HM1
  go_enter Tryd.func5, Tryd.ntmps5
  go_wp2_with fail
  refine (great_any A n c _).mono ?_
  rintro e w1 ⟨rfl, rfl⟩
  rw [hd]
  go_wp2_with fail
  refine (great_any B m d _).mono ?_
  rintro e w1 ⟨rfl, rfl⟩
  rw [hd2]
  have b0 : Below w.heap.size w w.drew := (Below.refl _ _).drew
  have a0 : Sl w.drew A (bcells xs) := hA
  have y0 : Sl w.drew B (bcells ys) := hB
  go_wp2_with fail
  refine reg_begin (by kernel_rfl) ?_
  change wpAnyH _ _ _ _ _ 15 #[false, false, false, false, false, false, false, false, false, false, false, false, false, false, false] _ _
  refine reg_take (i := 0) (d := some 46) (v := (.slice A n c)) rfl rfl (by kernel_rfl) (by kernel_rfl) (by kernel_rfl) (fun _ _ _ h => h) (by rfl) (by intro w' hSw; go_simp) ?_
  try simp only [Act.put, List.setIfInBounds_toArray, List.set_cons_zero, List.set_cons_succ]
  refine reg_take (i := 3) (d := some 49) (v := (.string l)) rfl rfl (by kernel_rfl) (by kernel_rfl) (by kernel_rfl) (fun _ _ _ h => h) (by rfl) (by intro w' hSw; go_simp) ?_
  try simp only [Act.put, List.setIfInBounds_toArray, List.set_cons_zero, List.set_cons_succ]
  refine reg_take (i := 4) (d := some 50) (v := (.string r)) rfl rfl (by kernel_rfl) (by kernel_rfl) (by kernel_rfl) (fun _ _ _ h => h) (by rfl) (by intro w' hSw; go_simp) ?_
  try simp only [Act.put, List.setIfInBounds_toArray, List.set_cons_zero, List.set_cons_succ]
  refine reg_take (i := 7) (d := some 53) (v := (.slice A n c)) rfl rfl (by kernel_rfl) (by kernel_rfl) (by kernel_rfl) (fun _ _ _ h => h) (by rfl) (by intro w' hSw; go_simp) ?_
  try simp only [Act.put, List.setIfInBounds_toArray, List.set_cons_zero, List.set_cons_succ]
  refine reg_take (i := 10) (d := some 56) (v := (.slice A n c)) rfl rfl (by kernel_rfl) (by kernel_rfl) (by kernel_rfl) (fun _ _ _ h => h) (by rfl) (by intro w' hSw; go_simp) ?_
  try simp only [Act.put, List.setIfInBounds_toArray, List.set_cons_zero, List.set_cons_succ]
  refine reg_call (i := 1) rfl (by kernel_rfl) (by rfl) fun K hK => ?_
  go_simp
  refine (leafBytes_any A n c xs _ HN.out a0 (by omega)).mono ?_
  rintro e w1 ⟨A1, c1, rfl, s1, _, _, hb1⟩
  refine hK.out _ _ hb1 ?_
  have b1 := b0.trans (hb1.mono b0.size)
  have a1 := a0.below hb1
  have y1 := y0.below hb1
  clear hb1 b0 a0 y0
  clear hK K
  try simp only [List.setIfInBounds_toArray, List.set_cons_zero, List.set_cons_succ]
  refine reg_take (i := 2) (d := some 48) (v := (.string X0)) rfl rfl (by kernel_rfl) (by kernel_rfl) (by kernel_rfl) (fun _ _ _ h => h) (by rfl) (by intro w' hSw; have h9 := run_str (P := Tryd.prog) w' 22 9 5 underBytes underU8 underStr A1 (0 :: xs) (n + 1) c1 (ZX 0).out (s1.below hSw); rw [HX0.out] at h9; go_simp) ?_
  try simp only [Act.put, List.setIfInBounds_toArray, List.set_cons_zero, List.set_cons_succ]
  refine reg_call (i := 5) rfl (by kernel_rfl) (by rfl) fun K hK => ?_
  go_simp
  refine (nodeBytes_any l r _ (by rw [Zl.out]; omega) (by rw [Zr.out]; omega)).mono ?_
  rintro e w2 ⟨A2, c2, rfl, s2, _, _, hb2⟩
  refine hK.out _ _ hb2 ?_
  have b2 := b1.trans (hb2.mono b1.size)
  have a2 := a1.below hb2
  have y2 := y1.below hb2
  clear hb2 b1 a1 y1
  clear hK K
  try simp only [List.setIfInBounds_toArray, List.set_cons_zero, List.set_cons_succ]
  refine reg_take (i := 6) (d := some 52) (v := (.string X1)) rfl rfl (by kernel_rfl) (by kernel_rfl) (by kernel_rfl) (fun _ _ _ h => h) (by rfl) (by intro w' hSw; have h9 := run_str (P := Tryd.prog) w' 22 9 5 underBytes underU8 underStr A2 (1 :: (l.data.toList ++ r.data.toList)) (l.size + r.size + 1) c2 ZXN.out (s2.below hSw); rw [HX1.out] at h9; go_simp) ?_
  try simp only [Act.put, List.setIfInBounds_toArray, List.set_cons_zero, List.set_cons_succ]
  refine reg_call (i := 8) rfl (by kernel_rfl) (by rfl) fun K hK => ?_
  go_simp
  refine (postsBytes_any A n c xs _ HN.out a2 (by omega)).mono ?_
  rintro e w3 ⟨A3, c3, rfl, s3, _, _, hb3⟩
  refine hK.out _ _ hb3 ?_
  have b3 := b2.trans (hb3.mono b2.size)
  have a3 := a2.below hb3
  have y3 := y2.below hb3
  clear hb3 b2 a2 y2
  clear hK K
  try simp only [List.setIfInBounds_toArray, List.set_cons_zero, List.set_cons_succ]
  refine reg_take (i := 9) (d := some 55) (v := (.string X2)) rfl rfl (by kernel_rfl) (by kernel_rfl) (by kernel_rfl) (fun _ _ _ h => h) (by rfl) (by intro w' hSw; have h9 := run_str (P := Tryd.prog) w' 22 9 5 underBytes underU8 underStr A3 (2 :: xs) (n + 1) c3 (ZX 2).out (s3.below hSw); rw [HX2.out] at h9; go_simp) ?_
  try simp only [Act.put, List.setIfInBounds_toArray, List.set_cons_zero, List.set_cons_succ]
  refine reg_call (i := 11) rfl (by kernel_rfl) (by rfl) fun K hK => ?_
  go_simp
  refine (headBytes_any A n c xs _ HN.out a3 (by omega)).mono ?_
  rintro e w4 ⟨A4, c4, rfl, s4, _, _, hb4⟩
  refine hK.out _ _ hb4 ?_
  have b4 := b3.trans (hb4.mono b3.size)
  have a4 := a3.below hb4
  have y4 := y3.below hb4
  clear hb4 b3 a3 y3
  clear hK K
  try simp only [List.setIfInBounds_toArray, List.set_cons_zero, List.set_cons_succ]
  refine reg_take (i := 12) (d := some 58) (v := (.string X3)) rfl rfl (by kernel_rfl) (by kernel_rfl) (by kernel_rfl) (fun _ _ _ h => h) (by rfl) (by intro w' hSw; have h9 := run_str (P := Tryd.prog) w' 22 9 5 underBytes underU8 underStr A4 (3 :: xs) (n + 1) c4 (ZX 3).out (s4.below hSw); rw [HX3.out] at h9; go_simp) ?_
  try simp only [Act.put, List.setIfInBounds_toArray, List.set_cons_zero, List.set_cons_succ]
  refine reg_call (i := 13) rfl (by kernel_rfl) (by rfl) fun K hK => ?_
  go_simp
  have kn : At (w4.alloc (.cells #[.string X0, .string X1, .string X2, .string X3] 9)) w4.heap.size 9 [.string X0, .string X1, .string X2, .string X3] := At.new_ w4 _ 9 _ rfl
  have bn : Below w4.heap.size w4 (w4.alloc (.cells #[.string X0, .string X1, .string X2, .string X3] 9)) := (Below.refl _ _).alloc (Nat.le_refl _) _
  refine hK.out _ _ bn ?_
  have b5 := b4.trans (bn.mono b4.size)
  have a5 := a4.below bn
  have y5 := y4.below bn
  clear bn b4 a4 y4
  generalize w4.alloc (.cells #[.string X0, .string X1, .string X2, .string X3] 9) = w5 at *
  generalize w4.heap.size = GX at *
  clear hK K
  try simp only [List.setIfInBounds_toArray, List.set_cons_zero, List.set_cons_succ]
  refine reg_take (i := 14) (d := some 13) (v := (.slice (some ⟨GX, 0, none⟩) 4 4)) rfl rfl (by kernel_rfl) (by kernel_rfl) (by kernel_rfl) (fun _ _ _ h => h) (by rfl) (by intro w' hSw; go_simp) ?_
  try simp only [Act.put, List.setIfInBounds_toArray, List.set_cons_zero, List.set_cons_succ]
  refine wpAnyH_done (by kernel_rfl) ?_ _
  go_simp
  have kx5 := kn
  clear kn s1 s2 s3 s4
  have b5 := b5.drew
  have a5 : Sl w5.drew A (bcells xs) := a5
  have y5 : Sl w5.drew B (bcells ys) := y5
  have kx5 := kx5.drew
  go_wp2_with fail
  refine reg_begin (by kernel_rfl) ?_
  change wpAnyH _ _ _ _ _ 15 #[false, false, false, false, false, false, false, false, false, false, false, false, false, false, false] _ _
  refine reg_take (i := 0) (d := some 60) (v := (.slice B m d)) rfl rfl (by kernel_rfl) (by kernel_rfl) (by kernel_rfl) (fun _ _ _ h => h) (by rfl) (by intro w' hSw; go_simp) ?_
  try simp only [Act.put, List.setIfInBounds_toArray, List.set_cons_zero, List.set_cons_succ]
  refine reg_take (i := 3) (d := some 63) (v := (.string p)) rfl rfl (by kernel_rfl) (by kernel_rfl) (by kernel_rfl) (fun _ _ _ h => h) (by rfl) (by intro w' hSw; go_simp) ?_
  try simp only [Act.put, List.setIfInBounds_toArray, List.set_cons_zero, List.set_cons_succ]
  refine reg_take (i := 4) (d := some 64) (v := (.string s)) rfl rfl (by kernel_rfl) (by kernel_rfl) (by kernel_rfl) (fun _ _ _ h => h) (by rfl) (by intro w' hSw; go_simp) ?_
  try simp only [Act.put, List.setIfInBounds_toArray, List.set_cons_zero, List.set_cons_succ]
  refine reg_take (i := 7) (d := some 67) (v := (.slice B m d)) rfl rfl (by kernel_rfl) (by kernel_rfl) (by kernel_rfl) (fun _ _ _ h => h) (by rfl) (by intro w' hSw; go_simp) ?_
  try simp only [Act.put, List.setIfInBounds_toArray, List.set_cons_zero, List.set_cons_succ]
  refine reg_take (i := 10) (d := some 70) (v := (.slice B m d)) rfl rfl (by kernel_rfl) (by kernel_rfl) (by kernel_rfl) (fun _ _ _ h => h) (by rfl) (by intro w' hSw; go_simp) ?_
  try simp only [Act.put, List.setIfInBounds_toArray, List.set_cons_zero, List.set_cons_succ]
  refine reg_call (i := 1) rfl (by kernel_rfl) (by rfl) fun K hK => ?_
  go_simp
  refine (leafBytes_any B m d ys _ HM.out y5 (by omega)).mono ?_
  rintro e w6 ⟨A6, c6, rfl, s6, _, _, hb6⟩
  refine hK.out _ _ hb6 ?_
  have b6 := b5.trans (hb6.mono b5.size)
  have a6 := a5.below hb6
  have y6 := y5.below hb6
  have kx6 := kx5.below hb6 kx5.lt
  clear hb6 b5 a5 y5 kx5
  clear hK K
  try simp only [List.setIfInBounds_toArray, List.set_cons_zero, List.set_cons_succ]
  refine reg_take (i := 2) (d := some 62) (v := (.string Y0)) rfl rfl (by kernel_rfl) (by kernel_rfl) (by kernel_rfl) (fun _ _ _ h => h) (by rfl) (by intro w' hSw; have h9 := run_str (P := Tryd.prog) w' 22 9 5 underBytes underU8 underStr A6 (0 :: ys) (m + 1) c6 (ZY 0).out (s6.below hSw); rw [HY0.out] at h9; go_simp) ?_
  try simp only [Act.put, List.setIfInBounds_toArray, List.set_cons_zero, List.set_cons_succ]
  refine reg_call (i := 5) rfl (by kernel_rfl) (by rfl) fun K hK => ?_
  go_simp
  refine (nodeBytes_any p s _ (by rw [Zp.out]; omega) (by rw [Zs.out]; omega)).mono ?_
  rintro e w7 ⟨A7, c7, rfl, s7, _, _, hb7⟩
  refine hK.out _ _ hb7 ?_
  have b7 := b6.trans (hb7.mono b6.size)
  have a7 := a6.below hb7
  have y7 := y6.below hb7
  have kx7 := kx6.below hb7 kx6.lt
  clear hb7 b6 a6 y6 kx6
  clear hK K
  try simp only [List.setIfInBounds_toArray, List.set_cons_zero, List.set_cons_succ]
  refine reg_take (i := 6) (d := some 66) (v := (.string Y1)) rfl rfl (by kernel_rfl) (by kernel_rfl) (by kernel_rfl) (fun _ _ _ h => h) (by rfl) (by intro w' hSw; have h9 := run_str (P := Tryd.prog) w' 22 9 5 underBytes underU8 underStr A7 (1 :: (p.data.toList ++ s.data.toList)) (p.size + s.size + 1) c7 ZYN.out (s7.below hSw); rw [HY1.out] at h9; go_simp) ?_
  try simp only [Act.put, List.setIfInBounds_toArray, List.set_cons_zero, List.set_cons_succ]
  refine reg_call (i := 8) rfl (by kernel_rfl) (by rfl) fun K hK => ?_
  go_simp
  refine (postsBytes_any B m d ys _ HM.out y7 (by omega)).mono ?_
  rintro e w8 ⟨A8, c8, rfl, s8, _, _, hb8⟩
  refine hK.out _ _ hb8 ?_
  have b8 := b7.trans (hb8.mono b7.size)
  have a8 := a7.below hb8
  have y8 := y7.below hb8
  have kx8 := kx7.below hb8 kx7.lt
  clear hb8 b7 a7 y7 kx7
  clear hK K
  try simp only [List.setIfInBounds_toArray, List.set_cons_zero, List.set_cons_succ]
  refine reg_take (i := 9) (d := some 69) (v := (.string Y2)) rfl rfl (by kernel_rfl) (by kernel_rfl) (by kernel_rfl) (fun _ _ _ h => h) (by rfl) (by intro w' hSw; have h9 := run_str (P := Tryd.prog) w' 22 9 5 underBytes underU8 underStr A8 (2 :: ys) (m + 1) c8 (ZY 2).out (s8.below hSw); rw [HY2.out] at h9; go_simp) ?_
  try simp only [Act.put, List.setIfInBounds_toArray, List.set_cons_zero, List.set_cons_succ]
  refine reg_call (i := 11) rfl (by kernel_rfl) (by rfl) fun K hK => ?_
  go_simp
  refine (headBytes_any B m d ys _ HM.out y8 (by omega)).mono ?_
  rintro e w9 ⟨A9, c9, rfl, s9, _, _, hb9⟩
  refine hK.out _ _ hb9 ?_
  have b9 := b8.trans (hb9.mono b8.size)
  have a9 := a8.below hb9
  have y9 := y8.below hb9
  have kx9 := kx8.below hb9 kx8.lt
  clear hb9 b8 a8 y8 kx8
  clear hK K
  try simp only [List.setIfInBounds_toArray, List.set_cons_zero, List.set_cons_succ]
  refine reg_take (i := 12) (d := some 72) (v := (.string Y3)) rfl rfl (by kernel_rfl) (by kernel_rfl) (by kernel_rfl) (fun _ _ _ h => h) (by rfl) (by intro w' hSw; have h9 := run_str (P := Tryd.prog) w' 22 9 5 underBytes underU8 underStr A9 (3 :: ys) (m + 1) c9 (ZY 3).out (s9.below hSw); rw [HY3.out] at h9; go_simp) ?_
  try simp only [Act.put, List.setIfInBounds_toArray, List.set_cons_zero, List.set_cons_succ]
  refine reg_call (i := 13) rfl (by kernel_rfl) (by rfl) fun K hK => ?_
  go_simp
  have kn : At (w9.alloc (.cells #[.string Y0, .string Y1, .string Y2, .string Y3] 9)) w9.heap.size 9 [.string Y0, .string Y1, .string Y2, .string Y3] := At.new_ w9 _ 9 _ rfl
  have bn : Below w9.heap.size w9 (w9.alloc (.cells #[.string Y0, .string Y1, .string Y2, .string Y3] 9)) := (Below.refl _ _).alloc (Nat.le_refl _) _
  refine hK.out _ _ bn ?_
  have b10 := b9.trans (bn.mono b9.size)
  have a10 := a9.below bn
  have y10 := y9.below bn
  have kx10 := kx9.below bn kx9.lt
  clear bn b9 a9 y9 kx9
  generalize w9.alloc (.cells #[.string Y0, .string Y1, .string Y2, .string Y3] 9) = w10 at *
  generalize w9.heap.size = GY at *
  clear hK K
  try simp only [List.setIfInBounds_toArray, List.set_cons_zero, List.set_cons_succ]
  refine reg_take (i := 14) (d := some 14) (v := (.slice (some ⟨GY, 0, none⟩) 4 4)) rfl rfl (by kernel_rfl) (by kernel_rfl) (by kernel_rfl) (fun _ _ _ h => h) (by rfl) (by intro w' hSw; go_simp) ?_
  try simp only [Act.put, List.setIfInBounds_toArray, List.set_cons_zero, List.set_cons_succ]
  refine wpAnyH_done (by kernel_rfl) ?_ _
  go_simp
  have v1 := run_str (P := Tryd.prog) w10 22 9 5 underBytes underU8 underStr A xs n c HN.out a10
  have v2 := run_str (P := Tryd.prog) w10 22 9 5 underBytes underU8 underStr B ys m d HM.out y10
  rw [HBX.out] at v1
  rw [HBY.out] at v2
  have hx := kx10
  have hy := kn
  have b0 := b10
  clear kn a10 y10 kx10 b10 s6 s7 s8 s9
  generalize w10 = W at *
  go_wp2_with fail
  clear v1 v2
  have H0 : Below W.heap.size W W := Below.refl _ _
  go_loopw [16] (fun i wr => ∃ k : Nat, k ≤ 4 ∧ i = .int .i64 k ∧ Below W.heap.size W wr) (fun i _ => 4 - (intOf i).toNat)
  case atStart => exact ⟨0, by omega, rfl, H0⟩
  case round =>
    clear H0
    obtain ⟨i, hi, rfl, hbi⟩ := hrel
    by_cases hi4 : i < 4
    · go_wp2_with fail
      go_loopw [17] (fun j wr => ∃ k : Nat, k ≤ 4 ∧ j = .int .i64 k ∧ Below W.heap.size W wr) (fun j _ => 4 - (intOf j).toNat)
      case atStart => exact ⟨0, by omega, rfl, hbi⟩
      case round =>
        clear hbi
        obtain ⟨j, hj, rfl, hbj⟩ := hrel
        by_cases hj4 : j < 4
        · have cx := ((hx.below hbj hx.lt).cell i)
          have cy := ((hy.below hbj hy.lt).cell j)
          rw [scells4 X0 X1 X2 X3 i hi4] at cx
          rw [scells4 Y0 Y1 Y2 Y3 j hj4] at cy
          have i0 : (0 : Int) ≤ (i : Int) := by omega
          have i4 : (i : Int) < 4 := by omega
          have j0 : (0 : Int) ≤ (j : Int) := by omega
          have j4 : (j : Int) < 4 := by omega
          by_cases hij : i = j
          · subst hij
            have bij : ((i : Int) == (i : Int)) = true := by simp
            by_cases h1 : i = 1
            · subst h1
              have cx : wr.cell? ⟨GX, 1, none⟩ = some (.string X1) := cx
              have cy : wr.cell? ⟨GY, 1, none⟩ = some (.string Y1) := cy
              by_cases hlp : l = p
              · have e1 : (l.toList == p.toList) = true := beq_yes hlp
                by_cases hrs : r = s
                · have e2 : (r.toList == s.toList) = true := beq_yes hrs
                  have e3 : (X1.toList == Y1.toList) = true := beq_yes (H11.out.2 ⟨hlp, hrs⟩)
                  clear hlp hrs
                  go_wp2_with fail
                  go_quiet (fail)
                  go_wp2_with fail
                  go_roundw
                  case rel => exact ⟨1 + 1, by omega, by go_num, hbj.trans (below_drewN (Below.refl _ _) _)⟩
                  case measure => first | (simp [intOf]; done) | (simp [intOf]; omega)
                · have e2 : (r.toList == s.toList) = false := beq_no hrs
                  have e3 : (X1.toList == Y1.toList) = false := beq_no fun h => hrs (H11.out.1 h).2
                  clear hlp hrs
                  go_wp2_with fail
                  go_quiet (fail)
                  go_wp2_with fail
                  go_roundw
                  case rel => exact ⟨1 + 1, by omega, by go_num, hbj.trans (below_drewN (Below.refl _ _) _)⟩
                  case measure => first | (simp [intOf]; done) | (simp [intOf]; omega)
              · have e1 : (l.toList == p.toList) = false := beq_no hlp
                have e3 : (X1.toList == Y1.toList) = false := beq_no fun h => hlp (H11.out.1 h).1
                clear hlp
                go_wp2_with fail
                go_quiet (fail)
                go_wp2_with fail
                go_roundw
                case rel => exact ⟨1 + 1, by omega, by go_num, hbj.trans (below_drewN (Below.refl _ _) _)⟩
                case measure => first | (simp [intOf]; done) | (simp [intOf]; omega)
            · have e3 := HEQ.out i hi4 h1
              have n1 : ¬ (i : Int) = 1 := by omega
              have n2 : ((i : Int) == 1) = false := by simpa using n1
              generalize ([X0, X1, X2, X3] : List ByteArray).getD i ⟨#[]⟩ = XI at *
              generalize ([Y0, Y1, Y2, Y3] : List ByteArray).getD i ⟨#[]⟩ = YI at *
              clear h1
              go_wp2_with fail
              go_quiet (fail)
              go_wp2_with fail
              go_roundw
              case rel => exact ⟨i + 1, by omega, by go_num, hbj.trans (below_drewN (Below.refl _ _) _)⟩
              case measure => first | (simp [intOf]; done) | (simp [intOf]; omega)
          · have e3 := HNE.out i j hi4 hj4 hij
            have n0 : ¬ (i : Int) = (j : Int) := by omega
            have m0 : ((i : Int) == (j : Int)) = false := by simpa using n0
            generalize ([X0, X1, X2, X3] : List ByteArray).getD i ⟨#[]⟩ = XI at *
            generalize ([Y0, Y1, Y2, Y3] : List ByteArray).getD j ⟨#[]⟩ = YJ at *
            by_cases h1 : i = 1
            · have n1 : (i : Int) = 1 := by omega
              have n2 : ((i : Int) == 1) = true := by simpa using n1
              have n3 : ¬ (j : Int) = 1 := by omega
              have n4 : ((j : Int) == 1) = false := by simpa using n3
              have N1 : Hid ((i : Int) = 1) := n1
              clear h1 hij n1
              go_wp2_with fail
              go_quiet (fail)
              go_wp2_with fail
              go_roundw
              case rel => exact ⟨j + 1, by omega, by go_num, hbj.trans (below_drewN (Below.refl _ _) _)⟩
              case measure => first | (simp [intOf]; done) | (simp [intOf]; omega)
            · have n1 : ¬ (i : Int) = 1 := by omega
              have n2 : ((i : Int) == 1) = false := by simpa using n1
              clear h1 hij
              go_wp2_with fail
              go_quiet (fail)
              go_wp2_with fail
              go_roundw
              case rel => exact ⟨j + 1, by omega, by go_num, hbj.trans (below_drewN (Below.refl _ _) _)⟩
              case measure => first | (simp [intOf]; done) | (simp [intOf]; omega)
        · go_wp2_with fail
          go_roundw
          case rel => exact ⟨i + 1, by omega, by go_num, hbj⟩
          case measure => first | (simp [intOf]; done) | (simp [intOf]; omega)
    · go_wp2_with fail
      have bw := b0.trans (hbi.mono b0.size)
      refine (knows_any _ (hT.below bw hpos)).mono ?_
      rintro e wk ⟨rfl, hbk⟩
      go_wp2_with fail
      go_ret
      exact ⟨rfl, bw.trans (hbk.mono bw.size)⟩
end Go.Proofs.YtkoelgkcgkeodaaDoor.SealW
