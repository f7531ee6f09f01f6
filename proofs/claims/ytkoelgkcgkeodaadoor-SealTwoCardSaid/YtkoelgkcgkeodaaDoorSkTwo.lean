/- The law SealTwo. -/
import Derived.Test.YtkoelgkcgkeodaaDoorSg
import Derived.Test.YtkoelgkcgkeodaaDoorSfTold
import Derived.Test.YtkoelgkcgkeodaaDoorSbLeaf
import Derived.Test.YtkoelgkcgkeodaaDoorD5
import Derived.Test.YtkoelgkcgkeodaaDoorOnly
import Derived.Test.YtkoelgkcgkeodaaDoorReg
import Derived.Deep.DeepCutAuto
namespace Go.Proofs.YtkoelgkcgkeodaaDoor.SealW
open Go.RowKit
open ShaW Sha
theorem data_inj {a b : ByteArray} : a.data.toList = b.data.toList ↔ a = b := ⟨fun h => by cases a; cases b; simpa using h, fun h => by rw [h]⟩
theorem two_inj {l r p s : ByteArray} (h1 : l.size = 32) (h2 : p.size = 32) : ((1 : UInt8) :: (l.data.toList ++ r.data.toList) = 1 :: (p.data.toList ++ s.data.toList)) ↔ l = p ∧ r = s := by
  constructor
  · intro h
    have h3 := List.append_inj (List.cons.inj h).2 (by rw [bsize, bsize, h1, h2])
    exact ⟨data_inj.1 h3.1, data_inj.1 h3.2⟩
  · rintro ⟨rfl, rfl⟩; rfl
theorem bool_cases (b : Bool) (h : b = true → False) : b = false := by cases b <;> simp_all
set_option maxRecDepth 100000 in
set_option maxHeartbeats 16000000 in
theorem lawTwo (A : Option Addr) (n c : Nat) (xs : List UInt8) (B : Option Addr) (m d : Nat) (ys : List UInt8) (l r p s : ByteArray) (w : World) (hT : Tab w) (hn : xs.length = n) (hA : Sl w A (bcells xs)) (hm : ys.length = m) (hB : Sl w B (bcells ys)) :
    Calls Tryd.prog 6 #[.slice A n c, .slice B m d, .string l, .string r, .string p, .string s] w fun e w' => e = .returned (.bool true) ∧ Below w.heap.size w w' := by
  have HN : Hid (xs.length = n) := hn
  have HM : Hid (ys.length = m) := hm
  have HN1 : Hid ((0 :: xs).length = n + 1) := by show _ = _; simp [hn]
  have HM1 : Hid ((0 :: ys).length = m + 1) := by show _ = _; simp [hm]
  have hpos := hT.pos
  clear hn hm
  by_cases hg : 2000 < n
  · have hd : decide (2000 < n) = true := decide_eq_true hg
    clear hg
    go_enter Tryd.func6, Tryd.ntmps6
    go_wp2_with fail
    refine (great_any A n c _).mono ?_
    rintro e w1 ⟨rfl, rfl⟩
    rw [hd]
    go_wp2_with fail
    refine (knows_any _ hT).mono ?_
    rintro e wk ⟨rfl, hbk⟩
    go_wp2_with fail
    go_ret
    exact ⟨rfl, hbk⟩
  have hd : decide (2000 < n) = false := decide_eq_false hg
  by_cases hg2 : 2000 < m
  · have hd2 : decide (2000 < m) = true := decide_eq_true hg2
    clear hg hg2
    go_enter Tryd.func6, Tryd.ntmps6
    go_wp2_with fail
    refine (great_any A n c _).mono ?_
    rintro e w1 ⟨rfl, rfl⟩
    rw [hd]
    go_wp2_with fail
    refine (great_any B m d _).mono ?_
    rintro e w1 ⟨rfl, rfl⟩
    rw [hd2]
    go_wp2_with fail
    refine (knows_any _ hT).mono ?_
    rintro e wk ⟨rfl, hbk⟩
    go_wp2_with fail
    go_ret
    exact ⟨rfl, hbk⟩
  have hd2 : decide (2000 < m) = false := decide_eq_false hg2
  have hn2 : n ≤ 2000 := by omega
  have hm2 : m ≤ 2000 := by omega
  clear hg hg2
  by_cases hl : l.size = 32
  rotate_left
  · have fl : ¬ ((l.size : Nat) : Int) = 32 := by omega
    clear hl
    go_enter Tryd.func6, Tryd.ntmps6
    go_wp2_with fail
    refine (great_any A n c _).mono ?_
    rintro e w1 ⟨rfl, rfl⟩
    rw [hd]
    go_wp2_with fail
    refine (great_any B m d _).mono ?_
    rintro e w1 ⟨rfl, rfl⟩
    rw [hd2]
    go_wp2_with fail
    refine (knows_any _ hT).mono ?_
    rintro e wk ⟨rfl, hbk⟩
    go_wp2_with fail
    go_ret
    exact ⟨rfl, hbk⟩
  have fl : ((l.size : Nat) : Int) = 32 := by omega
  have Zl : Hid (l.size = 32) := hl
  clear hl
  by_cases hr : r.size = 32
  rotate_left
  · have fr : ¬ ((r.size : Nat) : Int) = 32 := by omega
    clear hr
    go_enter Tryd.func6, Tryd.ntmps6
    go_wp2_with fail
    refine (great_any A n c _).mono ?_
    rintro e w1 ⟨rfl, rfl⟩
    rw [hd]
    go_wp2_with fail
    refine (great_any B m d _).mono ?_
    rintro e w1 ⟨rfl, rfl⟩
    rw [hd2]
    go_wp2_with fail
    refine (knows_any _ hT).mono ?_
    rintro e wk ⟨rfl, hbk⟩
    go_wp2_with fail
    go_ret
    exact ⟨rfl, hbk⟩
  have fr : ((r.size : Nat) : Int) = 32 := by omega
  have Zr : Hid (r.size = 32) := hr
  clear hr
  by_cases hp : p.size = 32
  rotate_left
  · have fp : ¬ ((p.size : Nat) : Int) = 32 := by omega
    clear hp
    go_enter Tryd.func6, Tryd.ntmps6
    go_wp2_with fail
    refine (great_any A n c _).mono ?_
    rintro e w1 ⟨rfl, rfl⟩
    rw [hd]
    go_wp2_with fail
    refine (great_any B m d _).mono ?_
    rintro e w1 ⟨rfl, rfl⟩
    rw [hd2]
    go_wp2_with fail
    refine (knows_any _ hT).mono ?_
    rintro e wk ⟨rfl, hbk⟩
    go_wp2_with fail
    go_ret
    exact ⟨rfl, hbk⟩
  have fp : ((p.size : Nat) : Int) = 32 := by omega
  have Zp : Hid (p.size = 32) := hp
  clear hp
  by_cases hs : s.size = 32
  rotate_left
  · have fs : ¬ ((s.size : Nat) : Int) = 32 := by omega
    clear hs
    go_enter Tryd.func6, Tryd.ntmps6
    go_wp2_with fail
    refine (great_any A n c _).mono ?_
    rintro e w1 ⟨rfl, rfl⟩
    rw [hd]
    go_wp2_with fail
    refine (great_any B m d _).mono ?_
    rintro e w1 ⟨rfl, rfl⟩
    rw [hd2]
    go_wp2_with fail
    refine (knows_any _ hT).mono ?_
    rintro e wk ⟨rfl, hbk⟩
    go_wp2_with fail
    go_ret
    exact ⟨rfl, hbk⟩
  have fs : ((s.size : Nat) : Int) = 32 := by omega
  have Zs : Hid (s.size = 32) := hs
  clear hs
  obtain ⟨q, hq⟩ : ∃ q : Bool, decide ((0 :: xs : List UInt8) ≠ 0 :: ys ∧ sha (0 :: xs) = sha (0 :: ys)) = q := ⟨_, rfl⟩
  have HQ : Hid (decide ((0 :: xs : List UInt8) ≠ 0 :: ys ∧ sha (0 :: xs) = sha (0 :: ys)) = q) := hq
  obtain ⟨k, hk⟩ : ∃ q : Bool, decide ((1 :: (l.data.toList ++ r.data.toList) : List UInt8) ≠ 1 :: (p.data.toList ++ s.data.toList) ∧ sha (1 :: (l.data.toList ++ r.data.toList)) = sha (1 :: (p.data.toList ++ s.data.toList))) = q := ⟨_, rfl⟩
  have HK : Hid (decide ((1 :: (l.data.toList ++ r.data.toList) : List UInt8) ≠ 1 :: (p.data.toList ++ s.data.toList) ∧ sha (1 :: (l.data.toList ++ r.data.toList)) = sha (1 :: (p.data.toList ++ s.data.toList))) = k) := hk
  have H2 : Hid (((1 : UInt8) :: (l.data.toList ++ r.data.toList) = 1 :: (p.data.toList ++ s.data.toList)) ↔ l = p ∧ r = s) := two_inj Zl.out Zp.out
  clear hq hk
  obtain ⟨SX, qSX⟩ : ∃ S : ByteArray, (⟨(sha (0 :: xs)).toArray⟩ : ByteArray) = S := ⟨_, rfl⟩
  have HSX : Hid ((⟨(sha (0 :: xs)).toArray⟩ : ByteArray) = SX) := qSX
  clear qSX
  obtain ⟨SY, qSY⟩ : ∃ S : ByteArray, (⟨(sha (0 :: ys)).toArray⟩ : ByteArray) = S := ⟨_, rfl⟩
  have HSY : Hid ((⟨(sha (0 :: ys)).toArray⟩ : ByteArray) = SY) := qSY
  clear qSY
  obtain ⟨BX, qBX⟩ : ∃ S : ByteArray, (⟨xs.toArray⟩ : ByteArray) = S := ⟨_, rfl⟩
  have HBX : Hid ((⟨xs.toArray⟩ : ByteArray) = BX) := qBX
  clear qBX
  obtain ⟨BY, qBY⟩ : ∃ S : ByteArray, (⟨ys.toArray⟩ : ByteArray) = S := ⟨_, rfl⟩
  have HBY : Hid ((⟨ys.toArray⟩ : ByteArray) = BY) := qBY
  clear qBY
  obtain ⟨NX, qNX⟩ : ∃ S : ByteArray, (⟨(sha (1 :: (l.data.toList ++ r.data.toList))).toArray⟩ : ByteArray) = S := ⟨_, rfl⟩
  have HNX : Hid ((⟨(sha (1 :: (l.data.toList ++ r.data.toList))).toArray⟩ : ByteArray) = NX) := qNX
  clear qNX
  obtain ⟨NY, qNY⟩ : ∃ S : ByteArray, (⟨(sha (1 :: (p.data.toList ++ s.data.toList))).toArray⟩ : ByteArray) = S := ⟨_, rfl⟩
  have HNY : Hid ((⟨(sha (1 :: (p.data.toList ++ s.data.toList))).toArray⟩ : ByteArray) = NY) := qNY
  clear qNY
  go_enter Tryd.func6, Tryd.ntmps6
  go_wp2_with fail
  refine (great_any A n c _).mono ?_
  rintro e w1 ⟨rfl, rfl⟩
  rw [hd]
  go_wp2_with fail
  refine (great_any B m d _).mono ?_
  rintro e w1 ⟨rfl, rfl⟩
  rw [hd2]
  go_wp2_with fail
  refine (leafBytes_any A n c xs _ HN.out hA (by omega)).mono ?_
  rintro e w2 ⟨A2, c2, rfl, s2, k2, m2, hb2⟩
  have t2 := hT.below hb2 hpos
  have hA2 := hA.below hb2
  have hB2 := hB.below hb2
  go_wp2_with fail
  refine (leafBytes_any B m d ys _ HM.out hB2 (by omega)).mono ?_
  rintro e w3 ⟨A3, c3, rfl, s3, k3, m3, hb3⟩
  have t3 := t2.below hb3 t2.pos
  have hA3 := hA2.below hb3
  have hB3 := hB2.below hb3
  have s23 := s2.below hb3
  have b3 := hb2.trans (hb3.mono hb2.size)
  clear t2 hA2 hB2 s2 hb2 hb3
  go_wp2_with fail
  refine (between_any A2 (n + 1) c2 (0 :: xs) A3 (m + 1) c3 (0 :: ys) _ t3 HN1.out s23 HM1.out s3 (by omega) (by omega) k2 (by unfold maxLen at m2; omega) k3 (by unfold maxLen at m3; omega) q HQ.out).mono ?_
  rintro e w4 ⟨A', n', c', B', l', d', rfl, told, hb4⟩
  have t4 := t3.below hb4 t3.pos
  have hA4 := hA3.below hb4
  have hB4 := hB3.below hb4
  have b4 := b3.trans (hb4.mono b3.size)
  clear t3 hA3 hB3 s23 s3 b3 hb4 k2 k3 m2 m3
  have k5 : At (w4.alloc (.cells #[.slice none 0 0, .slice none 0 0] 36)) w4.heap.size 36 [.slice none 0 0, .slice none 0 0] := At.new_ w4 _ 36 _ rfl
  have l5 : Below w4.heap.size w4 (w4.alloc (.cells #[.slice none 0 0, .slice none 0 0] 36)) := (Below.refl _ _).alloc (Nat.le_refl _) _
  have HB : Hid (∀ G W, At W G 36 [.slice A' n' c', .slice B' l' d'] → W.cell? ⟨G, 0, none⟩ = some (.slice A' n' c') ∧ W.cell? ⟨G, 1, none⟩ = some (.slice B' l' d')) := fun G W h => ⟨(h.cell 0).trans rfl, (h.cell 1).trans rfl⟩
  go_upto_region 4 with (refine wpList_storeB rfl rfl 36 (.tmp 13) (.tmp 54) rfl clashTy w4.heap.size rfl [.slice A' n' c', .slice B' l' d'] rfl 36 _ k5 rfl rfl slices_one ?_; intro x5 kx5 ox5)
  have q5 := ox5.below _ _ l5 (Nat.le_refl _)
  have t5 := t4.below q5 t4.pos
  have hA5 := hA4.below q5
  have hB5 := hB4.below q5
  have told5 := told.below q5
  have b5 := b4.trans (q5.mono b4.size)
  have s5 := kx5.lt
  clear t4 hA4 hB4 b4 k5 l5 ox5 q5 told
  generalize w4.heap.size = G at *
  go_cut [77] (fun v wc => v = .bool false ∧ Below w.heap.size w wc)
  case first =>
    have v1 := run_str (P := Tryd.prog) x5 22 9 5 underBytes underU8 underStr A xs n c HN.out hA5
    have v2 := run_str (P := Tryd.prog) x5 22 9 5 underBytes underU8 underStr B ys m d HM.out hB5
    rw [HBX.out] at v1
    rw [HBY.out] at v2
    by_cases hxy : xs = ys
    · have Q : q = false := by rw [← HQ.out, hxy]; exact self_no _
      have e1 : (BX.toList == BY.toList) = true := beq_yes (by rw [← HBX.out, ← HBY.out, hxy])
      subst Q
      clear hxy
      go_wp2_with fail
      go_meet
      exact ⟨rfl, b5⟩
    · have e1 : (BX.toList == BY.toList) = false := beq_no (by rw [← HBX.out, ← HBY.out]; exact fun h => hxy (mk_inj.1 h))
      by_cases hs : sha (0 :: xs) = sha (0 :: ys)
      · have Q : q = true := by rw [← HQ.out]; exact decide_eq_true ⟨fun h => hxy (List.cons.inj h).2, hs⟩
        have e2 : (SX.toList == SY.toList) = true := beq_yes (by rw [← HSX.out, ← HSY.out, hs])
        subst Q
        obtain ⟨rfl, rfl, u1, u2, u3, u4, u5, u6⟩ := told5 rfl
        clear hxy hs told5
        go_wp2_with fail
        refine (leaf_any A n c xs _ t5 HN.out hA5 (by omega)).mono ?_
        rintro e w6 ⟨rfl, hb6⟩
        rw [HSX.out]
        have t6 := t5.below hb6 t5.pos
        have b6 := b5.trans (hb6.mono b5.size)
        have hB6 := hB5.below hb6
        go_wp2_with fail
        refine (leaf_any B m d ys _ t6 HM.out hB6 (by omega)).mono ?_
        rintro e w7 ⟨rfl, hb7⟩
        rw [HSY.out]
        have t7 := t6.below hb7 t6.pos
        have b7 := b6.trans (hb7.mono b6.size)
        have kx7 := (kx5.below hb6 s5).below hb7 (kx5.below hb6 s5).lt
        have cc := HB.out G w7 kx7
        have c0 := cc.1
        have c1 := cc.2
        have u1' := (u1.below hb6).below hb7
        have u4' := (u4.below hb6).below hb7
        clear cc t5 t6 hb6 hb7 b5 b6 hB6 hA5 hB5 kx5 kx7 u1 u4 v1 v2
        go_wp2_with fail
        refine (is_any A' (n + 1) c' (0 :: xs) B' (m + 1) d' (0 :: ys) _ t7 HN1.out u1' HM1.out u4' (by omega) (by omega) u2 (by unfold maxLen at u3; omega) u5 (by unfold maxLen at u6; omega)).mono ?_
        rintro e w8 ⟨rfl, hb8⟩
        rw [HQ.out]
        have b8 := b7.trans (hb8.mono b7.size)
        clear t7 b7 hb8 u1' u4' HQ
        go_wp2_with fail
        go_meet
        exact ⟨rfl, b8⟩
      · have Q : q = false := by rw [← HQ.out]; exact decide_eq_false fun h => hs h.2
        have e2 : (SX.toList == SY.toList) = false := beq_no (by rw [← HSX.out, ← HSY.out]; exact fun h => hs (mk_inj.1 h))
        subst Q
        clear hxy hs told5
        go_wp2_with fail
        refine (leaf_any A n c xs _ t5 HN.out hA5 (by omega)).mono ?_
        rintro e w6 ⟨rfl, hb6⟩
        rw [HSX.out]
        have t6 := t5.below hb6 t5.pos
        have b6 := b5.trans (hb6.mono b5.size)
        have hB6 := hB5.below hb6
        go_wp2_with fail
        refine (leaf_any B m d ys _ t6 HM.out hB6 (by omega)).mono ?_
        rintro e w7 ⟨rfl, hb7⟩
        rw [HSY.out]
        have b7 := b6.trans (hb7.mono b6.size)
        go_wp2_with fail
        go_meet
        exact ⟨rfl, b7⟩
  case rest =>
    obtain ⟨rfl, hbc⟩ := hcut
    have tc := hT.below hbc hpos
    clear HQ HBX HBY HSX HSY HB told5 kx5 s5 t5 hA5 hB5 b5 hA hB HN HM HN1 HM1 hT
    have ZZ1 : Hid ((1 :: (l.data.toList ++ r.data.toList) : List UInt8).length = l.size + r.size + 1) := by show _ = _; simp
    have ZZ2 : Hid ((1 :: (p.data.toList ++ s.data.toList) : List UInt8).length = p.size + s.size + 1) := by show _ = _; simp
    go_wp2_with fail
    refine (node_any l r _ tc Zl.out Zr.out).mono ?_
    rintro e w1 ⟨rfl, hb1⟩
    rw [HNX.out]
    have t1 := tc.below hb1 tc.pos
    have b1 := hbc.trans (hb1.mono hbc.size)
    clear tc hbc hb1
    go_wp2_with fail
    refine (node_any p s _ t1 Zp.out Zs.out).mono ?_
    rintro e w2 ⟨rfl, hb2⟩
    rw [HNY.out]
    have t2 := t1.below hb2 t1.pos
    have b2 := b1.trans (hb2.mono b1.size)
    clear t1 b1 hb2
    go_wp2_with fail
    refine (nodeBytes_any l r _ (by rw [Zl.out]; omega) (by rw [Zr.out]; omega)).mono ?_
    rintro e w3 ⟨A3, c3, rfl, s3, k3, m3, hb3⟩
    have t3 := t2.below hb3 t2.pos
    have b3 := b2.trans (hb3.mono b2.size)
    clear t2 b2 hb3
    go_wp2_with fail
    refine (nodeBytes_any p s _ (by rw [Zp.out]; omega) (by rw [Zs.out]; omega)).mono ?_
    rintro e w4 ⟨A4, c4, rfl, s4, k4, m4, hb4⟩
    have t4 := t3.below hb4 t3.pos
    have s34 := s3.below hb4
    have b4 := b3.trans (hb4.mono b3.size)
    clear t3 b3 hb4 s3
    go_wp2_with fail
    refine (between_any A3 (l.size + r.size + 1) c3 (1 :: (l.data.toList ++ r.data.toList)) A4 (p.size + s.size + 1) c4 (1 :: (p.data.toList ++ s.data.toList)) _ t4 ZZ1.out s34 ZZ2.out s4 (by rw [Zl.out, Zr.out]; omega) (by rw [Zp.out, Zs.out]; omega) k3 (by unfold maxLen at m3; omega) k4 (by unfold maxLen at m4; omega) k HK.out).mono ?_
    rintro e w5 ⟨A', n', c', B', l', d', rfl, told, hb5⟩
    have t5 := t4.below hb5 t4.pos
    have b5 := b4.trans (hb5.mono b4.size)
    clear t4 s34 s4 b4 hb5 k3 k4 m3 m4
    have k6 : At (w5.alloc (.cells #[.slice none 0 0, .slice none 0 0] 36)) w5.heap.size 36 [.slice none 0 0, .slice none 0 0] := At.new_ w5 _ 36 _ rfl
    have l6 : Below w5.heap.size w5 (w5.alloc (.cells #[.slice none 0 0, .slice none 0 0] 36)) := (Below.refl _ _).alloc (Nat.le_refl _) _
    go_upto_region 9 with (refine wpList_storeB rfl rfl 36 (.tmp 19) (.tmp 98) rfl clashTy w5.heap.size rfl [.slice A' n' c', .slice B' l' d'] rfl 36 _ k6 rfl rfl slices_one ?_; intro x6 kx6 ox6)
    have q6 := ox6.below _ _ l6 (Nat.le_refl _)
    have t8 := t5.below q6 t5.pos
    have told8 := told.below q6
    have b8 := b5.trans (q6.mono b5.size)
    have b8 := b8.drew
    have kx6 := kx6.drew
    have t8 : Tab x6.drew := t8
    have told8 : Told (l.size + r.size + 1) (p.size + s.size + 1) (1 :: (l.data.toList ++ r.data.toList)) (1 :: (p.data.toList ++ s.data.toList)) k x6.drew A' n' c' B' l' d' := told8
    clear t5 b5 k6 l6 ox6 q6 told
    generalize w5.heap.size = G at *
    have HCA : Hid (∀ w', Below x6.drew.heap.size x6.drew w' → w'.cell? ⟨G, 0, none⟩ = some (.slice A' n' c')) := fun w' hb => ((kx6.below hb kx6.lt).cell 0).trans rfl
    have HCB : Hid (∀ w', Below x6.drew.heap.size x6.drew w' → w'.cell? ⟨G, 1, none⟩ = some (.slice B' l' d')) := fun w' hb => ((kx6.below hb kx6.lt).cell 1).trans rfl
    clear kx6
    by_cases hlp : l = p
    · have e1 : (l.toList == p.toList) = true := beq_yes hlp
      by_cases hrs : r = s
      · have e2 : (r.toList == s.toList) = true := beq_yes hrs
        have K0 : k = false := by rw [← HK.out]; exact decide_eq_false fun h => h.1 (H2.out.2 ⟨hlp, hrs⟩)
        subst K0
        clear hlp hrs told8
        refine reg_begin (by kernel_rfl) ?_
        change wpAnyH _ _ _ _ _ 27 #[false, false, false, false, false, false, false, false, false, false, false, false, false, false, false, false, false, false, false, false, false, false, false, false, false, false, false] _ _
        refine reg_take (i := 0) (d := some 100) (v := (.bool false)) rfl rfl (by kernel_rfl) (by kernel_rfl) (by kernel_rfl) (fun _ _ _ h => h) (by rfl) (by intro w' hSw; go_simp) ?_
        try simp only [Act.put, List.setIfInBounds_toArray, List.set_cons_zero, List.set_cons_succ]
        refine reg_take (i := 1) (d := some 101) (v := (.string l)) rfl rfl (by kernel_rfl) (by kernel_rfl) (by kernel_rfl) (fun _ _ _ h => h) (by rfl) (by intro w' hSw; go_simp) ?_
        try simp only [Act.put, List.setIfInBounds_toArray, List.set_cons_zero, List.set_cons_succ]
        refine reg_take (i := 2) (d := some 102) (v := (.string p)) rfl rfl (by kernel_rfl) (by kernel_rfl) (by kernel_rfl) (fun _ _ _ h => h) (by rfl) (by intro w' hSw; go_simp) ?_
        try simp only [Act.put, List.setIfInBounds_toArray, List.set_cons_zero, List.set_cons_succ]
        refine reg_take (i := 3) (d := some 103) (v := (.bool false)) rfl rfl (by kernel_rfl) (by kernel_rfl) (by kernel_rfl) (fun _ _ _ h => h) (by rfl) (by intro w' hSw; go_simp) ?_
        try simp only [Act.put, List.setIfInBounds_toArray, List.set_cons_zero, List.set_cons_succ]
        refine reg_take (i := 4) (d := some 104) (v := (.bool false)) rfl rfl (by kernel_rfl) (by kernel_rfl) (by kernel_rfl) (fun _ _ _ h => h) (by rfl) (by intro w' hSw; go_simp) ?_
        try simp only [Act.put, List.setIfInBounds_toArray, List.set_cons_zero, List.set_cons_succ]
        refine reg_take (i := 5) (d := some 105) (v := (.string r)) rfl rfl (by kernel_rfl) (by kernel_rfl) (by kernel_rfl) (fun _ _ _ h => h) (by rfl) (by intro w' hSw; go_simp) ?_
        try simp only [Act.put, List.setIfInBounds_toArray, List.set_cons_zero, List.set_cons_succ]
        refine reg_take (i := 6) (d := some 106) (v := (.string s)) rfl rfl (by kernel_rfl) (by kernel_rfl) (by kernel_rfl) (fun _ _ _ h => h) (by rfl) (by intro w' hSw; go_simp) ?_
        try simp only [Act.put, List.setIfInBounds_toArray, List.set_cons_zero, List.set_cons_succ]
        refine reg_take (i := 7) (d := some 107) (v := (.bool false)) rfl rfl (by kernel_rfl) (by kernel_rfl) (by kernel_rfl) (fun _ _ _ h => h) (by rfl) (by intro w' hSw; go_simp) ?_
        try simp only [Act.put, List.setIfInBounds_toArray, List.set_cons_zero, List.set_cons_succ]
        refine reg_take (i := 8) (d := some 108) (v := (.bool false)) rfl rfl (by kernel_rfl) (by kernel_rfl) (by kernel_rfl) (fun _ _ _ h => h) (by rfl) (by intro w' hSw; go_simp) ?_
        try simp only [Act.put, List.setIfInBounds_toArray, List.set_cons_zero, List.set_cons_succ]
        refine reg_take (i := 9) (d := some 109) (v := (.bool false)) rfl rfl (by kernel_rfl) (by kernel_rfl) (by kernel_rfl) (fun _ _ _ h => h) (by rfl) (by intro w' hSw; go_simp) ?_
        try simp only [Act.put, List.setIfInBounds_toArray, List.set_cons_zero, List.set_cons_succ]
        refine reg_skip (i := 10) (d := some 110) rfl rfl (by kernel_rfl) (by kernel_rfl) (by kernel_rfl) (fun _ _ _ h => h) (by rfl) ?_
        try simp only [Act.put, List.setIfInBounds_toArray, List.set_cons_zero, List.set_cons_succ]
        refine reg_skip (i := 11) (d := some 111) rfl rfl (by kernel_rfl) (by kernel_rfl) (by kernel_rfl) (fun _ _ _ h => h) (by rfl) ?_
        try simp only [Act.put, List.setIfInBounds_toArray, List.set_cons_zero, List.set_cons_succ]
        refine reg_skip (i := 12) (d := some 112) rfl rfl (by kernel_rfl) (by kernel_rfl) (by kernel_rfl) (fun _ _ _ h => h) (by rfl) ?_
        try simp only [Act.put, List.setIfInBounds_toArray, List.set_cons_zero, List.set_cons_succ]
        refine reg_take (i := 13) (d := some 113) (v := (.bool false)) rfl rfl (by kernel_rfl) (by kernel_rfl) (by kernel_rfl) (fun _ _ _ h => h) (by rfl) (by intro w' hSw; go_simp) ?_
        try simp only [Act.put, List.setIfInBounds_toArray, List.set_cons_zero, List.set_cons_succ]
        refine reg_take (i := 14) (d := some 114) (v := (.bool false)) rfl rfl (by kernel_rfl) (by kernel_rfl) (by kernel_rfl) (fun _ _ _ h => h) (by rfl) (by intro w' hSw; go_simp) ?_
        try simp only [Act.put, List.setIfInBounds_toArray, List.set_cons_zero, List.set_cons_succ]
        refine reg_take (i := 15) (d := some 115) (v := (.bool false)) rfl rfl (by kernel_rfl) (by kernel_rfl) (by kernel_rfl) (fun _ _ _ h => h) (by rfl) (by intro w' hSw; go_simp) ?_
        try simp only [Act.put, List.setIfInBounds_toArray, List.set_cons_zero, List.set_cons_succ]
        refine reg_take (i := 16) (d := some 116) (v := (.bool false)) rfl rfl (by kernel_rfl) (by kernel_rfl) (by kernel_rfl) (fun _ _ _ h => h) (by rfl) (by intro w' hSw; go_simp) ?_
        try simp only [Act.put, List.setIfInBounds_toArray, List.set_cons_zero, List.set_cons_succ]
        refine reg_take (i := 17) (d := some 117) (v := (.bool false)) rfl rfl (by kernel_rfl) (by kernel_rfl) (by kernel_rfl) (fun _ _ _ h => h) (by rfl) (by intro w' hSw; go_simp) ?_
        try simp only [Act.put, List.setIfInBounds_toArray, List.set_cons_zero, List.set_cons_succ]
        refine reg_skip (i := 18) (d := some 118) rfl rfl (by kernel_rfl) (by kernel_rfl) (by kernel_rfl) (fun _ _ _ h => h) (by rfl) ?_
        try simp only [Act.put, List.setIfInBounds_toArray, List.set_cons_zero, List.set_cons_succ]
        refine reg_skip (i := 19) (d := some 119) rfl rfl (by kernel_rfl) (by kernel_rfl) (by kernel_rfl) (fun _ _ _ h => h) (by rfl) ?_
        try simp only [Act.put, List.setIfInBounds_toArray, List.set_cons_zero, List.set_cons_succ]
        refine reg_skip (i := 20) (d := some 120) rfl rfl (by kernel_rfl) (by kernel_rfl) (by kernel_rfl) (fun _ _ _ h => h) (by rfl) ?_
        try simp only [Act.put, List.setIfInBounds_toArray, List.set_cons_zero, List.set_cons_succ]
        refine reg_skip (i := 21) (d := some 121) rfl rfl (by kernel_rfl) (by kernel_rfl) (by kernel_rfl) (fun _ _ _ h => h) (by rfl) ?_
        try simp only [Act.put, List.setIfInBounds_toArray, List.set_cons_zero, List.set_cons_succ]
        refine reg_skip (i := 22) (d := some 122) rfl rfl (by kernel_rfl) (by kernel_rfl) (by kernel_rfl) (fun _ _ _ h => h) (by rfl) ?_
        try simp only [Act.put, List.setIfInBounds_toArray, List.set_cons_zero, List.set_cons_succ]
        refine reg_skip (i := 23) (d := some 123) rfl rfl (by kernel_rfl) (by kernel_rfl) (by kernel_rfl) (fun _ _ _ h => h) (by rfl) ?_
        try simp only [Act.put, List.setIfInBounds_toArray, List.set_cons_zero, List.set_cons_succ]
        refine reg_skip (i := 24) (d := some 124) rfl rfl (by kernel_rfl) (by kernel_rfl) (by kernel_rfl) (fun _ _ _ h => h) (by rfl) ?_
        try simp only [Act.put, List.setIfInBounds_toArray, List.set_cons_zero, List.set_cons_succ]
        refine reg_take (i := 25) (d := some 125) (v := (.bool false)) rfl rfl (by kernel_rfl) (by kernel_rfl) (by kernel_rfl) (fun _ _ _ h => h) (by rfl) (by intro w' hSw; go_simp) ?_
        try simp only [Act.put, List.setIfInBounds_toArray, List.set_cons_zero, List.set_cons_succ]
        refine reg_take (i := 26) (d := some 126) (v := (.bool false)) rfl rfl (by kernel_rfl) (by kernel_rfl) (by kernel_rfl) (fun _ _ _ h => h) (by rfl) (by intro w' hSw; go_simp) ?_
        try simp only [Act.put, List.setIfInBounds_toArray, List.set_cons_zero, List.set_cons_succ]
        refine wpAnyH_done (by kernel_rfl) ?_ _
        go_simp
        go_wp2_with fail
        refine (knows_any _ t8).mono ?_
        rintro e wk ⟨rfl, hbk⟩
        go_wp2_with fail
        go_ret
        exact ⟨rfl, b8.trans (hbk.mono b8.size)⟩
      · have e2 : (r.toList == s.toList) = false := beq_no hrs
        by_cases hs : sha (1 :: (l.data.toList ++ r.data.toList)) = sha (1 :: (p.data.toList ++ s.data.toList))
        · have K1 : k = true := by rw [← HK.out]; exact decide_eq_true ⟨fun h => hrs (H2.out.1 h).2, hs⟩
          have e3 : (NX.toList == NY.toList) = true := beq_yes (by rw [← HNX.out, ← HNY.out, hs])
          subst K1
          obtain ⟨rfl, rfl, u1, u2, u3, u4, u5, u6⟩ := told8 rfl
          clear hlp hrs hs told8 u2 u3 u5 u6
          refine reg_begin (by kernel_rfl) ?_
          change wpAnyH _ _ _ _ _ 27 #[false, false, false, false, false, false, false, false, false, false, false, false, false, false, false, false, false, false, false, false, false, false, false, false, false, false, false] _ _
          refine reg_take (i := 0) (d := some 100) (v := (.bool true)) rfl rfl (by kernel_rfl) (by kernel_rfl) (by kernel_rfl) (fun _ _ _ h => h) (by rfl) (by intro w' hSw; go_simp) ?_
          try simp only [Act.put, List.setIfInBounds_toArray, List.set_cons_zero, List.set_cons_succ]
          refine reg_take (i := 1) (d := some 101) (v := (.string l)) rfl rfl (by kernel_rfl) (by kernel_rfl) (by kernel_rfl) (fun _ _ _ h => h) (by rfl) (by intro w' hSw; go_simp) ?_
          try simp only [Act.put, List.setIfInBounds_toArray, List.set_cons_zero, List.set_cons_succ]
          refine reg_take (i := 2) (d := some 102) (v := (.string p)) rfl rfl (by kernel_rfl) (by kernel_rfl) (by kernel_rfl) (fun _ _ _ h => h) (by rfl) (by intro w' hSw; go_simp) ?_
          try simp only [Act.put, List.setIfInBounds_toArray, List.set_cons_zero, List.set_cons_succ]
          refine reg_take (i := 3) (d := some 103) (v := (.bool false)) rfl rfl (by kernel_rfl) (by kernel_rfl) (by kernel_rfl) (fun _ _ _ h => h) (by rfl) (by intro w' hSw; go_simp) ?_
          try simp only [Act.put, List.setIfInBounds_toArray, List.set_cons_zero, List.set_cons_succ]
          refine reg_take (i := 4) (d := some 104) (v := (.bool false)) rfl rfl (by kernel_rfl) (by kernel_rfl) (by kernel_rfl) (fun _ _ _ h => h) (by rfl) (by intro w' hSw; go_simp) ?_
          try simp only [Act.put, List.setIfInBounds_toArray, List.set_cons_zero, List.set_cons_succ]
          refine reg_take (i := 5) (d := some 105) (v := (.string r)) rfl rfl (by kernel_rfl) (by kernel_rfl) (by kernel_rfl) (fun _ _ _ h => h) (by rfl) (by intro w' hSw; go_simp) ?_
          try simp only [Act.put, List.setIfInBounds_toArray, List.set_cons_zero, List.set_cons_succ]
          refine reg_take (i := 6) (d := some 106) (v := (.string s)) rfl rfl (by kernel_rfl) (by kernel_rfl) (by kernel_rfl) (fun _ _ _ h => h) (by rfl) (by intro w' hSw; go_simp) ?_
          try simp only [Act.put, List.setIfInBounds_toArray, List.set_cons_zero, List.set_cons_succ]
          refine reg_take (i := 7) (d := some 107) (v := (.bool true)) rfl rfl (by kernel_rfl) (by kernel_rfl) (by kernel_rfl) (fun _ _ _ h => h) (by rfl) (by intro w' hSw; go_simp) ?_
          try simp only [Act.put, List.setIfInBounds_toArray, List.set_cons_zero, List.set_cons_succ]
          refine reg_take (i := 8) (d := some 108) (v := (.bool true)) rfl rfl (by kernel_rfl) (by kernel_rfl) (by kernel_rfl) (fun _ _ _ h => h) (by rfl) (by intro w' hSw; go_simp) ?_
          try simp only [Act.put, List.setIfInBounds_toArray, List.set_cons_zero, List.set_cons_succ]
          refine reg_take (i := 9) (d := some 109) (v := (.bool true)) rfl rfl (by kernel_rfl) (by kernel_rfl) (by kernel_rfl) (fun _ _ _ h => h) (by rfl) (by intro w' hSw; go_simp) ?_
          try simp only [Act.put, List.setIfInBounds_toArray, List.set_cons_zero, List.set_cons_succ]
          refine reg_take (i := 10) (d := some 110) (v := (.string NX)) rfl rfl (by kernel_rfl) (by kernel_rfl) (by kernel_rfl) (fun _ _ _ h => h) (by rfl) (by intro w' hSw; go_simp) ?_
          try simp only [Act.put, List.setIfInBounds_toArray, List.set_cons_zero, List.set_cons_succ]
          refine reg_take (i := 11) (d := some 111) (v := (.string NY)) rfl rfl (by kernel_rfl) (by kernel_rfl) (by kernel_rfl) (fun _ _ _ h => h) (by rfl) (by intro w' hSw; go_simp) ?_
          try simp only [Act.put, List.setIfInBounds_toArray, List.set_cons_zero, List.set_cons_succ]
          refine reg_take (i := 12) (d := some 112) (v := (.bool true)) rfl rfl (by kernel_rfl) (by kernel_rfl) (by kernel_rfl) (fun _ _ _ h => h) (by rfl) (by intro w' hSw; go_simp) ?_
          try simp only [Act.put, List.setIfInBounds_toArray, List.set_cons_zero, List.set_cons_succ]
          refine reg_take (i := 13) (d := some 113) (v := (.bool true)) rfl rfl (by kernel_rfl) (by kernel_rfl) (by kernel_rfl) (fun _ _ _ h => h) (by rfl) (by intro w' hSw; go_simp) ?_
          try simp only [Act.put, List.setIfInBounds_toArray, List.set_cons_zero, List.set_cons_succ]
          refine reg_take (i := 14) (d := some 114) (v := (.bool false)) rfl rfl (by kernel_rfl) (by kernel_rfl) (by kernel_rfl) (fun _ _ _ h => h) (by rfl) (by intro w' hSw; go_simp) ?_
          try simp only [Act.put, List.setIfInBounds_toArray, List.set_cons_zero, List.set_cons_succ]
          refine reg_take (i := 15) (d := some 115) (v := (.bool false)) rfl rfl (by kernel_rfl) (by kernel_rfl) (by kernel_rfl) (fun _ _ _ h => h) (by rfl) (by intro w' hSw; go_simp) ?_
          try simp only [Act.put, List.setIfInBounds_toArray, List.set_cons_zero, List.set_cons_succ]
          refine reg_take (i := 16) (d := some 116) (v := (.bool true)) rfl rfl (by kernel_rfl) (by kernel_rfl) (by kernel_rfl) (fun _ _ _ h => h) (by rfl) (by intro w' hSw; go_simp) ?_
          try simp only [Act.put, List.setIfInBounds_toArray, List.set_cons_zero, List.set_cons_succ]
          refine reg_take (i := 17) (d := some 117) (v := (.bool true)) rfl rfl (by kernel_rfl) (by kernel_rfl) (by kernel_rfl) (fun _ _ _ h => h) (by rfl) (by intro w' hSw; go_simp) ?_
          try simp only [Act.put, List.setIfInBounds_toArray, List.set_cons_zero, List.set_cons_succ]
          refine reg_take (i := 18) (d := some 118) (v := (.pointer (some ⟨G, 0, none⟩))) rfl rfl (by kernel_rfl) (by kernel_rfl) (by kernel_rfl) (fun _ _ _ h => h) (by rfl) (by intro w' hSw; go_simp) ?_
          try simp only [Act.put, List.setIfInBounds_toArray, List.set_cons_zero, List.set_cons_succ]
          refine reg_take (i := 19) (d := some 119) (v := (.slice A' (l.size + r.size + 1) c')) rfl rfl (by kernel_rfl) (by kernel_rfl) (by kernel_rfl) (fun _ _ _ h => h) (by rfl) (by intro w' hSw; have h9 := HCA.out _ hSw; go_simp) ?_
          try simp only [Act.put, List.setIfInBounds_toArray, List.set_cons_zero, List.set_cons_succ]
          refine reg_take (i := 21) (d := some 121) (v := (.pointer (some ⟨G, 1, none⟩))) rfl rfl (by kernel_rfl) (by kernel_rfl) (by kernel_rfl) (fun _ _ _ h => h) (by rfl) (by intro w' hSw; go_simp) ?_
          try simp only [Act.put, List.setIfInBounds_toArray, List.set_cons_zero, List.set_cons_succ]
          refine reg_take (i := 22) (d := some 122) (v := (.slice B' (p.size + s.size + 1) d')) rfl rfl (by kernel_rfl) (by kernel_rfl) (by kernel_rfl) (fun _ _ _ h => h) (by rfl) (by intro w' hSw; have h9 := HCB.out _ hSw; go_simp) ?_
          try simp only [Act.put, List.setIfInBounds_toArray, List.set_cons_zero, List.set_cons_succ]
          refine reg_call (i := 20) rfl (by kernel_rfl) (by rfl) fun K hK => ?_
          go_simp
          refine (refSum_any A' _ c' (1 :: (l.data.toList ++ r.data.toList)) _ ZZ1.out u1 (by rw [Zl.out, Zr.out]; omega)).mono ?_
          rintro e w9 ⟨rfl, hb9⟩
          refine hK.out _ _ hb9 ?_
          rw [HNX.out]
          have u4 := u4.below hb9
          have t8 := t8.below hb9 t8.pos
          have b8 := b8.trans (hb9.mono b8.size)
          clear hK K
          try simp only [List.setIfInBounds_toArray, List.set_cons_zero, List.set_cons_succ]
          refine reg_call (i := 23) rfl (by kernel_rfl) (by rfl) fun K hK => ?_
          go_simp
          refine (refSum_any B' _ d' (1 :: (p.data.toList ++ s.data.toList)) _ ZZ2.out u4 (by rw [Zp.out, Zs.out]; omega)).mono ?_
          rintro e w10 ⟨rfl, hb10⟩
          refine hK.out _ _ hb10 ?_
          rw [HNY.out]
          have t8 := t8.below hb10 t8.pos
          have b8 := b8.trans (hb10.mono b8.size)
          clear hK K
          try simp only [List.setIfInBounds_toArray, List.set_cons_zero, List.set_cons_succ]
          refine reg_take (i := 24) (d := some 124) (v := (.bool false)) rfl rfl (by kernel_rfl) (by kernel_rfl) (by kernel_rfl) (fun _ _ _ h => h) (by rfl) (by intro w' hSw; go_simp) ?_
          try simp only [Act.put, List.setIfInBounds_toArray, List.set_cons_zero, List.set_cons_succ]
          refine reg_take (i := 25) (d := some 125) (v := (.bool false)) rfl rfl (by kernel_rfl) (by kernel_rfl) (by kernel_rfl) (fun _ _ _ h => h) (by rfl) (by intro w' hSw; go_simp) ?_
          try simp only [Act.put, List.setIfInBounds_toArray, List.set_cons_zero, List.set_cons_succ]
          refine reg_take (i := 26) (d := some 126) (v := (.bool false)) rfl rfl (by kernel_rfl) (by kernel_rfl) (by kernel_rfl) (fun _ _ _ h => h) (by rfl) (by intro w' hSw; go_simp) ?_
          try simp only [Act.put, List.setIfInBounds_toArray, List.set_cons_zero, List.set_cons_succ]
          refine wpAnyH_done (by kernel_rfl) ?_ _
          go_simp
          go_wp2_with fail
          refine (knows_any _ t8).mono ?_
          rintro e wk ⟨rfl, hbk⟩
          go_wp2_with fail
          go_ret
          exact ⟨rfl, b8.trans (hbk.mono b8.size)⟩
        · have K1 : k = false := by rw [← HK.out]; exact decide_eq_false fun h => hs h.2
          have e3 : (NX.toList == NY.toList) = false := beq_no (by rw [← HNX.out, ← HNY.out]; exact fun h => hs (mk_inj.1 h))
          subst K1
          clear hlp hrs hs told8
          refine reg_begin (by kernel_rfl) ?_
          change wpAnyH _ _ _ _ _ 27 #[false, false, false, false, false, false, false, false, false, false, false, false, false, false, false, false, false, false, false, false, false, false, false, false, false, false, false] _ _
          refine reg_take (i := 0) (d := some 100) (v := (.bool false)) rfl rfl (by kernel_rfl) (by kernel_rfl) (by kernel_rfl) (fun _ _ _ h => h) (by rfl) (by intro w' hSw; go_simp) ?_
          try simp only [Act.put, List.setIfInBounds_toArray, List.set_cons_zero, List.set_cons_succ]
          refine reg_take (i := 1) (d := some 101) (v := (.string l)) rfl rfl (by kernel_rfl) (by kernel_rfl) (by kernel_rfl) (fun _ _ _ h => h) (by rfl) (by intro w' hSw; go_simp) ?_
          try simp only [Act.put, List.setIfInBounds_toArray, List.set_cons_zero, List.set_cons_succ]
          refine reg_take (i := 2) (d := some 102) (v := (.string p)) rfl rfl (by kernel_rfl) (by kernel_rfl) (by kernel_rfl) (fun _ _ _ h => h) (by rfl) (by intro w' hSw; go_simp) ?_
          try simp only [Act.put, List.setIfInBounds_toArray, List.set_cons_zero, List.set_cons_succ]
          refine reg_take (i := 3) (d := some 103) (v := (.bool false)) rfl rfl (by kernel_rfl) (by kernel_rfl) (by kernel_rfl) (fun _ _ _ h => h) (by rfl) (by intro w' hSw; go_simp) ?_
          try simp only [Act.put, List.setIfInBounds_toArray, List.set_cons_zero, List.set_cons_succ]
          refine reg_take (i := 4) (d := some 104) (v := (.bool false)) rfl rfl (by kernel_rfl) (by kernel_rfl) (by kernel_rfl) (fun _ _ _ h => h) (by rfl) (by intro w' hSw; go_simp) ?_
          try simp only [Act.put, List.setIfInBounds_toArray, List.set_cons_zero, List.set_cons_succ]
          refine reg_take (i := 5) (d := some 105) (v := (.string r)) rfl rfl (by kernel_rfl) (by kernel_rfl) (by kernel_rfl) (fun _ _ _ h => h) (by rfl) (by intro w' hSw; go_simp) ?_
          try simp only [Act.put, List.setIfInBounds_toArray, List.set_cons_zero, List.set_cons_succ]
          refine reg_take (i := 6) (d := some 106) (v := (.string s)) rfl rfl (by kernel_rfl) (by kernel_rfl) (by kernel_rfl) (fun _ _ _ h => h) (by rfl) (by intro w' hSw; go_simp) ?_
          try simp only [Act.put, List.setIfInBounds_toArray, List.set_cons_zero, List.set_cons_succ]
          refine reg_take (i := 7) (d := some 107) (v := (.bool true)) rfl rfl (by kernel_rfl) (by kernel_rfl) (by kernel_rfl) (fun _ _ _ h => h) (by rfl) (by intro w' hSw; go_simp) ?_
          try simp only [Act.put, List.setIfInBounds_toArray, List.set_cons_zero, List.set_cons_succ]
          refine reg_take (i := 8) (d := some 108) (v := (.bool true)) rfl rfl (by kernel_rfl) (by kernel_rfl) (by kernel_rfl) (fun _ _ _ h => h) (by rfl) (by intro w' hSw; go_simp) ?_
          try simp only [Act.put, List.setIfInBounds_toArray, List.set_cons_zero, List.set_cons_succ]
          refine reg_take (i := 9) (d := some 109) (v := (.bool true)) rfl rfl (by kernel_rfl) (by kernel_rfl) (by kernel_rfl) (fun _ _ _ h => h) (by rfl) (by intro w' hSw; go_simp) ?_
          try simp only [Act.put, List.setIfInBounds_toArray, List.set_cons_zero, List.set_cons_succ]
          refine reg_take (i := 10) (d := some 110) (v := (.string NX)) rfl rfl (by kernel_rfl) (by kernel_rfl) (by kernel_rfl) (fun _ _ _ h => h) (by rfl) (by intro w' hSw; go_simp) ?_
          try simp only [Act.put, List.setIfInBounds_toArray, List.set_cons_zero, List.set_cons_succ]
          refine reg_take (i := 11) (d := some 111) (v := (.string NY)) rfl rfl (by kernel_rfl) (by kernel_rfl) (by kernel_rfl) (fun _ _ _ h => h) (by rfl) (by intro w' hSw; go_simp) ?_
          try simp only [Act.put, List.setIfInBounds_toArray, List.set_cons_zero, List.set_cons_succ]
          refine reg_take (i := 12) (d := some 112) (v := (.bool false)) rfl rfl (by kernel_rfl) (by kernel_rfl) (by kernel_rfl) (fun _ _ _ h => h) (by rfl) (by intro w' hSw; go_simp) ?_
          try simp only [Act.put, List.setIfInBounds_toArray, List.set_cons_zero, List.set_cons_succ]
          refine reg_take (i := 13) (d := some 113) (v := (.bool false)) rfl rfl (by kernel_rfl) (by kernel_rfl) (by kernel_rfl) (fun _ _ _ h => h) (by rfl) (by intro w' hSw; go_simp) ?_
          try simp only [Act.put, List.setIfInBounds_toArray, List.set_cons_zero, List.set_cons_succ]
          refine reg_take (i := 14) (d := some 114) (v := (.bool false)) rfl rfl (by kernel_rfl) (by kernel_rfl) (by kernel_rfl) (fun _ _ _ h => h) (by rfl) (by intro w' hSw; go_simp) ?_
          try simp only [Act.put, List.setIfInBounds_toArray, List.set_cons_zero, List.set_cons_succ]
          refine reg_take (i := 15) (d := some 115) (v := (.bool false)) rfl rfl (by kernel_rfl) (by kernel_rfl) (by kernel_rfl) (fun _ _ _ h => h) (by rfl) (by intro w' hSw; go_simp) ?_
          try simp only [Act.put, List.setIfInBounds_toArray, List.set_cons_zero, List.set_cons_succ]
          refine reg_take (i := 16) (d := some 116) (v := (.bool false)) rfl rfl (by kernel_rfl) (by kernel_rfl) (by kernel_rfl) (fun _ _ _ h => h) (by rfl) (by intro w' hSw; go_simp) ?_
          try simp only [Act.put, List.setIfInBounds_toArray, List.set_cons_zero, List.set_cons_succ]
          refine reg_take (i := 17) (d := some 117) (v := (.bool false)) rfl rfl (by kernel_rfl) (by kernel_rfl) (by kernel_rfl) (fun _ _ _ h => h) (by rfl) (by intro w' hSw; go_simp) ?_
          try simp only [Act.put, List.setIfInBounds_toArray, List.set_cons_zero, List.set_cons_succ]
          refine reg_skip (i := 18) (d := some 118) rfl rfl (by kernel_rfl) (by kernel_rfl) (by kernel_rfl) (fun _ _ _ h => h) (by rfl) ?_
          try simp only [Act.put, List.setIfInBounds_toArray, List.set_cons_zero, List.set_cons_succ]
          refine reg_skip (i := 19) (d := some 119) rfl rfl (by kernel_rfl) (by kernel_rfl) (by kernel_rfl) (fun _ _ _ h => h) (by rfl) ?_
          try simp only [Act.put, List.setIfInBounds_toArray, List.set_cons_zero, List.set_cons_succ]
          refine reg_skip (i := 20) (d := some 120) rfl rfl (by kernel_rfl) (by kernel_rfl) (by kernel_rfl) (fun _ _ _ h => h) (by rfl) ?_
          try simp only [Act.put, List.setIfInBounds_toArray, List.set_cons_zero, List.set_cons_succ]
          refine reg_skip (i := 21) (d := some 121) rfl rfl (by kernel_rfl) (by kernel_rfl) (by kernel_rfl) (fun _ _ _ h => h) (by rfl) ?_
          try simp only [Act.put, List.setIfInBounds_toArray, List.set_cons_zero, List.set_cons_succ]
          refine reg_skip (i := 22) (d := some 122) rfl rfl (by kernel_rfl) (by kernel_rfl) (by kernel_rfl) (fun _ _ _ h => h) (by rfl) ?_
          try simp only [Act.put, List.setIfInBounds_toArray, List.set_cons_zero, List.set_cons_succ]
          refine reg_skip (i := 23) (d := some 123) rfl rfl (by kernel_rfl) (by kernel_rfl) (by kernel_rfl) (fun _ _ _ h => h) (by rfl) ?_
          try simp only [Act.put, List.setIfInBounds_toArray, List.set_cons_zero, List.set_cons_succ]
          refine reg_skip (i := 24) (d := some 124) rfl rfl (by kernel_rfl) (by kernel_rfl) (by kernel_rfl) (fun _ _ _ h => h) (by rfl) ?_
          try simp only [Act.put, List.setIfInBounds_toArray, List.set_cons_zero, List.set_cons_succ]
          refine reg_take (i := 25) (d := some 125) (v := (.bool false)) rfl rfl (by kernel_rfl) (by kernel_rfl) (by kernel_rfl) (fun _ _ _ h => h) (by rfl) (by intro w' hSw; go_simp) ?_
          try simp only [Act.put, List.setIfInBounds_toArray, List.set_cons_zero, List.set_cons_succ]
          refine reg_take (i := 26) (d := some 126) (v := (.bool false)) rfl rfl (by kernel_rfl) (by kernel_rfl) (by kernel_rfl) (fun _ _ _ h => h) (by rfl) (by intro w' hSw; go_simp) ?_
          try simp only [Act.put, List.setIfInBounds_toArray, List.set_cons_zero, List.set_cons_succ]
          refine wpAnyH_done (by kernel_rfl) ?_ _
          go_simp
          go_wp2_with fail
          refine (knows_any _ t8).mono ?_
          rintro e wk ⟨rfl, hbk⟩
          go_wp2_with fail
          go_ret
          exact ⟨rfl, b8.trans (hbk.mono b8.size)⟩
    · have e1 : (l.toList == p.toList) = false := beq_no hlp
      by_cases hs : sha (1 :: (l.data.toList ++ r.data.toList)) = sha (1 :: (p.data.toList ++ s.data.toList))
      · have K1 : k = true := by rw [← HK.out]; exact decide_eq_true ⟨fun h => hlp (H2.out.1 h).1, hs⟩
        have e3 : (NX.toList == NY.toList) = true := beq_yes (by rw [← HNX.out, ← HNY.out, hs])
        subst K1
        obtain ⟨rfl, rfl, u1, u2, u3, u4, u5, u6⟩ := told8 rfl
        clear hlp hs told8 u2 u3 u5 u6
        refine reg_begin (by kernel_rfl) ?_
        change wpAnyH _ _ _ _ _ 27 #[false, false, false, false, false, false, false, false, false, false, false, false, false, false, false, false, false, false, false, false, false, false, false, false, false, false, false] _ _
        refine reg_take (i := 0) (d := some 100) (v := (.bool true)) rfl rfl (by kernel_rfl) (by kernel_rfl) (by kernel_rfl) (fun _ _ _ h => h) (by rfl) (by intro w' hSw; go_simp) ?_
        try simp only [Act.put, List.setIfInBounds_toArray, List.set_cons_zero, List.set_cons_succ]
        refine reg_take (i := 1) (d := some 101) (v := (.string l)) rfl rfl (by kernel_rfl) (by kernel_rfl) (by kernel_rfl) (fun _ _ _ h => h) (by rfl) (by intro w' hSw; go_simp) ?_
        try simp only [Act.put, List.setIfInBounds_toArray, List.set_cons_zero, List.set_cons_succ]
        refine reg_take (i := 2) (d := some 102) (v := (.string p)) rfl rfl (by kernel_rfl) (by kernel_rfl) (by kernel_rfl) (fun _ _ _ h => h) (by rfl) (by intro w' hSw; go_simp) ?_
        try simp only [Act.put, List.setIfInBounds_toArray, List.set_cons_zero, List.set_cons_succ]
        refine reg_take (i := 3) (d := some 103) (v := (.bool true)) rfl rfl (by kernel_rfl) (by kernel_rfl) (by kernel_rfl) (fun _ _ _ h => h) (by rfl) (by intro w' hSw; go_simp) ?_
        try simp only [Act.put, List.setIfInBounds_toArray, List.set_cons_zero, List.set_cons_succ]
        refine reg_take (i := 4) (d := some 104) (v := (.bool true)) rfl rfl (by kernel_rfl) (by kernel_rfl) (by kernel_rfl) (fun _ _ _ h => h) (by rfl) (by intro w' hSw; go_simp) ?_
        try simp only [Act.put, List.setIfInBounds_toArray, List.set_cons_zero, List.set_cons_succ]
        refine reg_skip (i := 5) (d := some 105) rfl rfl (by kernel_rfl) (by kernel_rfl) (by kernel_rfl) (fun _ _ _ h => h) (by rfl) ?_
        try simp only [Act.put, List.setIfInBounds_toArray, List.set_cons_zero, List.set_cons_succ]
        refine reg_skip (i := 6) (d := some 106) rfl rfl (by kernel_rfl) (by kernel_rfl) (by kernel_rfl) (fun _ _ _ h => h) (by rfl) ?_
        try simp only [Act.put, List.setIfInBounds_toArray, List.set_cons_zero, List.set_cons_succ]
        refine reg_skip (i := 7) (d := some 107) rfl rfl (by kernel_rfl) (by kernel_rfl) (by kernel_rfl) (fun _ _ _ h => h) (by rfl) ?_
        try simp only [Act.put, List.setIfInBounds_toArray, List.set_cons_zero, List.set_cons_succ]
        refine reg_take (i := 8) (d := some 108) (v := (.bool true)) rfl rfl (by kernel_rfl) (by kernel_rfl) (by kernel_rfl) (fun _ _ _ h => h) (by rfl) (by intro w' hSw; go_simp) ?_
        try simp only [Act.put, List.setIfInBounds_toArray, List.set_cons_zero, List.set_cons_succ]
        refine reg_take (i := 9) (d := some 109) (v := (.bool true)) rfl rfl (by kernel_rfl) (by kernel_rfl) (by kernel_rfl) (fun _ _ _ h => h) (by rfl) (by intro w' hSw; go_simp) ?_
        try simp only [Act.put, List.setIfInBounds_toArray, List.set_cons_zero, List.set_cons_succ]
        refine reg_take (i := 10) (d := some 110) (v := (.string NX)) rfl rfl (by kernel_rfl) (by kernel_rfl) (by kernel_rfl) (fun _ _ _ h => h) (by rfl) (by intro w' hSw; go_simp) ?_
        try simp only [Act.put, List.setIfInBounds_toArray, List.set_cons_zero, List.set_cons_succ]
        refine reg_take (i := 11) (d := some 111) (v := (.string NY)) rfl rfl (by kernel_rfl) (by kernel_rfl) (by kernel_rfl) (fun _ _ _ h => h) (by rfl) (by intro w' hSw; go_simp) ?_
        try simp only [Act.put, List.setIfInBounds_toArray, List.set_cons_zero, List.set_cons_succ]
        refine reg_take (i := 12) (d := some 112) (v := (.bool true)) rfl rfl (by kernel_rfl) (by kernel_rfl) (by kernel_rfl) (fun _ _ _ h => h) (by rfl) (by intro w' hSw; go_simp) ?_
        try simp only [Act.put, List.setIfInBounds_toArray, List.set_cons_zero, List.set_cons_succ]
        refine reg_take (i := 13) (d := some 113) (v := (.bool true)) rfl rfl (by kernel_rfl) (by kernel_rfl) (by kernel_rfl) (fun _ _ _ h => h) (by rfl) (by intro w' hSw; go_simp) ?_
        try simp only [Act.put, List.setIfInBounds_toArray, List.set_cons_zero, List.set_cons_succ]
        refine reg_take (i := 14) (d := some 114) (v := (.bool false)) rfl rfl (by kernel_rfl) (by kernel_rfl) (by kernel_rfl) (fun _ _ _ h => h) (by rfl) (by intro w' hSw; go_simp) ?_
        try simp only [Act.put, List.setIfInBounds_toArray, List.set_cons_zero, List.set_cons_succ]
        refine reg_take (i := 15) (d := some 115) (v := (.bool false)) rfl rfl (by kernel_rfl) (by kernel_rfl) (by kernel_rfl) (fun _ _ _ h => h) (by rfl) (by intro w' hSw; go_simp) ?_
        try simp only [Act.put, List.setIfInBounds_toArray, List.set_cons_zero, List.set_cons_succ]
        refine reg_take (i := 16) (d := some 116) (v := (.bool true)) rfl rfl (by kernel_rfl) (by kernel_rfl) (by kernel_rfl) (fun _ _ _ h => h) (by rfl) (by intro w' hSw; go_simp) ?_
        try simp only [Act.put, List.setIfInBounds_toArray, List.set_cons_zero, List.set_cons_succ]
        refine reg_take (i := 17) (d := some 117) (v := (.bool true)) rfl rfl (by kernel_rfl) (by kernel_rfl) (by kernel_rfl) (fun _ _ _ h => h) (by rfl) (by intro w' hSw; go_simp) ?_
        try simp only [Act.put, List.setIfInBounds_toArray, List.set_cons_zero, List.set_cons_succ]
        refine reg_take (i := 18) (d := some 118) (v := (.pointer (some ⟨G, 0, none⟩))) rfl rfl (by kernel_rfl) (by kernel_rfl) (by kernel_rfl) (fun _ _ _ h => h) (by rfl) (by intro w' hSw; go_simp) ?_
        try simp only [Act.put, List.setIfInBounds_toArray, List.set_cons_zero, List.set_cons_succ]
        refine reg_take (i := 19) (d := some 119) (v := (.slice A' (l.size + r.size + 1) c')) rfl rfl (by kernel_rfl) (by kernel_rfl) (by kernel_rfl) (fun _ _ _ h => h) (by rfl) (by intro w' hSw; have h9 := HCA.out _ hSw; go_simp) ?_
        try simp only [Act.put, List.setIfInBounds_toArray, List.set_cons_zero, List.set_cons_succ]
        refine reg_take (i := 21) (d := some 121) (v := (.pointer (some ⟨G, 1, none⟩))) rfl rfl (by kernel_rfl) (by kernel_rfl) (by kernel_rfl) (fun _ _ _ h => h) (by rfl) (by intro w' hSw; go_simp) ?_
        try simp only [Act.put, List.setIfInBounds_toArray, List.set_cons_zero, List.set_cons_succ]
        refine reg_take (i := 22) (d := some 122) (v := (.slice B' (p.size + s.size + 1) d')) rfl rfl (by kernel_rfl) (by kernel_rfl) (by kernel_rfl) (fun _ _ _ h => h) (by rfl) (by intro w' hSw; have h9 := HCB.out _ hSw; go_simp) ?_
        try simp only [Act.put, List.setIfInBounds_toArray, List.set_cons_zero, List.set_cons_succ]
        refine reg_call (i := 20) rfl (by kernel_rfl) (by rfl) fun K hK => ?_
        go_simp
        refine (refSum_any A' _ c' (1 :: (l.data.toList ++ r.data.toList)) _ ZZ1.out u1 (by rw [Zl.out, Zr.out]; omega)).mono ?_
        rintro e w9 ⟨rfl, hb9⟩
        refine hK.out _ _ hb9 ?_
        rw [HNX.out]
        have u4 := u4.below hb9
        have t8 := t8.below hb9 t8.pos
        have b8 := b8.trans (hb9.mono b8.size)
        clear hK K
        try simp only [List.setIfInBounds_toArray, List.set_cons_zero, List.set_cons_succ]
        refine reg_call (i := 23) rfl (by kernel_rfl) (by rfl) fun K hK => ?_
        go_simp
        refine (refSum_any B' _ d' (1 :: (p.data.toList ++ s.data.toList)) _ ZZ2.out u4 (by rw [Zp.out, Zs.out]; omega)).mono ?_
        rintro e w10 ⟨rfl, hb10⟩
        refine hK.out _ _ hb10 ?_
        rw [HNY.out]
        have t8 := t8.below hb10 t8.pos
        have b8 := b8.trans (hb10.mono b8.size)
        clear hK K
        try simp only [List.setIfInBounds_toArray, List.set_cons_zero, List.set_cons_succ]
        refine reg_take (i := 24) (d := some 124) (v := (.bool false)) rfl rfl (by kernel_rfl) (by kernel_rfl) (by kernel_rfl) (fun _ _ _ h => h) (by rfl) (by intro w' hSw; go_simp) ?_
        try simp only [Act.put, List.setIfInBounds_toArray, List.set_cons_zero, List.set_cons_succ]
        refine reg_take (i := 25) (d := some 125) (v := (.bool false)) rfl rfl (by kernel_rfl) (by kernel_rfl) (by kernel_rfl) (fun _ _ _ h => h) (by rfl) (by intro w' hSw; go_simp) ?_
        try simp only [Act.put, List.setIfInBounds_toArray, List.set_cons_zero, List.set_cons_succ]
        refine reg_take (i := 26) (d := some 126) (v := (.bool false)) rfl rfl (by kernel_rfl) (by kernel_rfl) (by kernel_rfl) (fun _ _ _ h => h) (by rfl) (by intro w' hSw; go_simp) ?_
        try simp only [Act.put, List.setIfInBounds_toArray, List.set_cons_zero, List.set_cons_succ]
        refine wpAnyH_done (by kernel_rfl) ?_ _
        go_simp
        go_wp2_with fail
        refine (knows_any _ t8).mono ?_
        rintro e wk ⟨rfl, hbk⟩
        go_wp2_with fail
        go_ret
        exact ⟨rfl, b8.trans (hbk.mono b8.size)⟩
      · have K1 : k = false := by rw [← HK.out]; exact decide_eq_false fun h => hs h.2
        have e3 : (NX.toList == NY.toList) = false := beq_no (by rw [← HNX.out, ← HNY.out]; exact fun h => hs (mk_inj.1 h))
        subst K1
        clear hlp hs told8
        refine reg_begin (by kernel_rfl) ?_
        change wpAnyH _ _ _ _ _ 27 #[false, false, false, false, false, false, false, false, false, false, false, false, false, false, false, false, false, false, false, false, false, false, false, false, false, false, false] _ _
        refine reg_take (i := 0) (d := some 100) (v := (.bool false)) rfl rfl (by kernel_rfl) (by kernel_rfl) (by kernel_rfl) (fun _ _ _ h => h) (by rfl) (by intro w' hSw; go_simp) ?_
        try simp only [Act.put, List.setIfInBounds_toArray, List.set_cons_zero, List.set_cons_succ]
        refine reg_take (i := 1) (d := some 101) (v := (.string l)) rfl rfl (by kernel_rfl) (by kernel_rfl) (by kernel_rfl) (fun _ _ _ h => h) (by rfl) (by intro w' hSw; go_simp) ?_
        try simp only [Act.put, List.setIfInBounds_toArray, List.set_cons_zero, List.set_cons_succ]
        refine reg_take (i := 2) (d := some 102) (v := (.string p)) rfl rfl (by kernel_rfl) (by kernel_rfl) (by kernel_rfl) (fun _ _ _ h => h) (by rfl) (by intro w' hSw; go_simp) ?_
        try simp only [Act.put, List.setIfInBounds_toArray, List.set_cons_zero, List.set_cons_succ]
        refine reg_take (i := 3) (d := some 103) (v := (.bool true)) rfl rfl (by kernel_rfl) (by kernel_rfl) (by kernel_rfl) (fun _ _ _ h => h) (by rfl) (by intro w' hSw; go_simp) ?_
        try simp only [Act.put, List.setIfInBounds_toArray, List.set_cons_zero, List.set_cons_succ]
        refine reg_take (i := 4) (d := some 104) (v := (.bool true)) rfl rfl (by kernel_rfl) (by kernel_rfl) (by kernel_rfl) (fun _ _ _ h => h) (by rfl) (by intro w' hSw; go_simp) ?_
        try simp only [Act.put, List.setIfInBounds_toArray, List.set_cons_zero, List.set_cons_succ]
        refine reg_skip (i := 5) (d := some 105) rfl rfl (by kernel_rfl) (by kernel_rfl) (by kernel_rfl) (fun _ _ _ h => h) (by rfl) ?_
        try simp only [Act.put, List.setIfInBounds_toArray, List.set_cons_zero, List.set_cons_succ]
        refine reg_skip (i := 6) (d := some 106) rfl rfl (by kernel_rfl) (by kernel_rfl) (by kernel_rfl) (fun _ _ _ h => h) (by rfl) ?_
        try simp only [Act.put, List.setIfInBounds_toArray, List.set_cons_zero, List.set_cons_succ]
        refine reg_skip (i := 7) (d := some 107) rfl rfl (by kernel_rfl) (by kernel_rfl) (by kernel_rfl) (fun _ _ _ h => h) (by rfl) ?_
        try simp only [Act.put, List.setIfInBounds_toArray, List.set_cons_zero, List.set_cons_succ]
        refine reg_take (i := 8) (d := some 108) (v := (.bool true)) rfl rfl (by kernel_rfl) (by kernel_rfl) (by kernel_rfl) (fun _ _ _ h => h) (by rfl) (by intro w' hSw; go_simp) ?_
        try simp only [Act.put, List.setIfInBounds_toArray, List.set_cons_zero, List.set_cons_succ]
        refine reg_take (i := 9) (d := some 109) (v := (.bool true)) rfl rfl (by kernel_rfl) (by kernel_rfl) (by kernel_rfl) (fun _ _ _ h => h) (by rfl) (by intro w' hSw; go_simp) ?_
        try simp only [Act.put, List.setIfInBounds_toArray, List.set_cons_zero, List.set_cons_succ]
        refine reg_take (i := 10) (d := some 110) (v := (.string NX)) rfl rfl (by kernel_rfl) (by kernel_rfl) (by kernel_rfl) (fun _ _ _ h => h) (by rfl) (by intro w' hSw; go_simp) ?_
        try simp only [Act.put, List.setIfInBounds_toArray, List.set_cons_zero, List.set_cons_succ]
        refine reg_take (i := 11) (d := some 111) (v := (.string NY)) rfl rfl (by kernel_rfl) (by kernel_rfl) (by kernel_rfl) (fun _ _ _ h => h) (by rfl) (by intro w' hSw; go_simp) ?_
        try simp only [Act.put, List.setIfInBounds_toArray, List.set_cons_zero, List.set_cons_succ]
        refine reg_take (i := 12) (d := some 112) (v := (.bool false)) rfl rfl (by kernel_rfl) (by kernel_rfl) (by kernel_rfl) (fun _ _ _ h => h) (by rfl) (by intro w' hSw; go_simp) ?_
        try simp only [Act.put, List.setIfInBounds_toArray, List.set_cons_zero, List.set_cons_succ]
        refine reg_take (i := 13) (d := some 113) (v := (.bool false)) rfl rfl (by kernel_rfl) (by kernel_rfl) (by kernel_rfl) (fun _ _ _ h => h) (by rfl) (by intro w' hSw; go_simp) ?_
        try simp only [Act.put, List.setIfInBounds_toArray, List.set_cons_zero, List.set_cons_succ]
        refine reg_take (i := 14) (d := some 114) (v := (.bool false)) rfl rfl (by kernel_rfl) (by kernel_rfl) (by kernel_rfl) (fun _ _ _ h => h) (by rfl) (by intro w' hSw; go_simp) ?_
        try simp only [Act.put, List.setIfInBounds_toArray, List.set_cons_zero, List.set_cons_succ]
        refine reg_take (i := 15) (d := some 115) (v := (.bool false)) rfl rfl (by kernel_rfl) (by kernel_rfl) (by kernel_rfl) (fun _ _ _ h => h) (by rfl) (by intro w' hSw; go_simp) ?_
        try simp only [Act.put, List.setIfInBounds_toArray, List.set_cons_zero, List.set_cons_succ]
        refine reg_take (i := 16) (d := some 116) (v := (.bool false)) rfl rfl (by kernel_rfl) (by kernel_rfl) (by kernel_rfl) (fun _ _ _ h => h) (by rfl) (by intro w' hSw; go_simp) ?_
        try simp only [Act.put, List.setIfInBounds_toArray, List.set_cons_zero, List.set_cons_succ]
        refine reg_take (i := 17) (d := some 117) (v := (.bool false)) rfl rfl (by kernel_rfl) (by kernel_rfl) (by kernel_rfl) (fun _ _ _ h => h) (by rfl) (by intro w' hSw; go_simp) ?_
        try simp only [Act.put, List.setIfInBounds_toArray, List.set_cons_zero, List.set_cons_succ]
        refine reg_skip (i := 18) (d := some 118) rfl rfl (by kernel_rfl) (by kernel_rfl) (by kernel_rfl) (fun _ _ _ h => h) (by rfl) ?_
        try simp only [Act.put, List.setIfInBounds_toArray, List.set_cons_zero, List.set_cons_succ]
        refine reg_skip (i := 19) (d := some 119) rfl rfl (by kernel_rfl) (by kernel_rfl) (by kernel_rfl) (fun _ _ _ h => h) (by rfl) ?_
        try simp only [Act.put, List.setIfInBounds_toArray, List.set_cons_zero, List.set_cons_succ]
        refine reg_skip (i := 20) (d := some 120) rfl rfl (by kernel_rfl) (by kernel_rfl) (by kernel_rfl) (fun _ _ _ h => h) (by rfl) ?_
        try simp only [Act.put, List.setIfInBounds_toArray, List.set_cons_zero, List.set_cons_succ]
        refine reg_skip (i := 21) (d := some 121) rfl rfl (by kernel_rfl) (by kernel_rfl) (by kernel_rfl) (fun _ _ _ h => h) (by rfl) ?_
        try simp only [Act.put, List.setIfInBounds_toArray, List.set_cons_zero, List.set_cons_succ]
        refine reg_skip (i := 22) (d := some 122) rfl rfl (by kernel_rfl) (by kernel_rfl) (by kernel_rfl) (fun _ _ _ h => h) (by rfl) ?_
        try simp only [Act.put, List.setIfInBounds_toArray, List.set_cons_zero, List.set_cons_succ]
        refine reg_skip (i := 23) (d := some 123) rfl rfl (by kernel_rfl) (by kernel_rfl) (by kernel_rfl) (fun _ _ _ h => h) (by rfl) ?_
        try simp only [Act.put, List.setIfInBounds_toArray, List.set_cons_zero, List.set_cons_succ]
        refine reg_skip (i := 24) (d := some 124) rfl rfl (by kernel_rfl) (by kernel_rfl) (by kernel_rfl) (fun _ _ _ h => h) (by rfl) ?_
        try simp only [Act.put, List.setIfInBounds_toArray, List.set_cons_zero, List.set_cons_succ]
        refine reg_take (i := 25) (d := some 125) (v := (.bool false)) rfl rfl (by kernel_rfl) (by kernel_rfl) (by kernel_rfl) (fun _ _ _ h => h) (by rfl) (by intro w' hSw; go_simp) ?_
        try simp only [Act.put, List.setIfInBounds_toArray, List.set_cons_zero, List.set_cons_succ]
        refine reg_take (i := 26) (d := some 126) (v := (.bool false)) rfl rfl (by kernel_rfl) (by kernel_rfl) (by kernel_rfl) (fun _ _ _ h => h) (by rfl) (by intro w' hSw; go_simp) ?_
        try simp only [Act.put, List.setIfInBounds_toArray, List.set_cons_zero, List.set_cons_succ]
        refine wpAnyH_done (by kernel_rfl) ?_ _
        go_simp
        go_wp2_with fail
        refine (knows_any _ t8).mono ?_
        rintro e wk ⟨rfl, hbk⟩
        go_wp2_with fail
        go_ret
        exact ⟨rfl, b8.trans (hbk.mono b8.size)⟩
end Go.Proofs.YtkoelgkcgkeodaaDoor.SealW
