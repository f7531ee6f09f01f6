/- Texts of one proof, joined. -/
import Derived.Test.YtihkfomldbjpoaaDoorJ6
/- cons: recomputed, accepted, Check. -/
namespace Go.Proofs.YtihkfomldbjpoaaDoor.CoW
open Go.RowKit TreeW ConsW TrW
open ShaW Sha
theorem run_rest (w' : World) (A : Option Addr) (l c : Nat) (h : 1 ≤ l) : (Instr.slice 24 (.slice A l c) (some (.int .i64 1)) none none).run Tryd.prog w' = .ok (.slice (if c = 1 then A else A.map (·.add 1)) (l - 1) (c - 1)) w' := by
  have := run_from (P := Tryd.prog) strsTy w' A l c 1 .i64 h
  exact this
set_option maxRecDepth 1000000 in
set_option maxHeartbeats 4000000 in
theorem recomputed_any (m n : Nat) (one two : ByteArray) (A : Option Addr) (l c : Nat) (ss : List ByteArray) (w : World) (hT : Tab w) (h1 : 1 ≤ m) (h2 : m < n) (hn : n ≤ 1099511627776) (h4 : one.size = 32) (hl : ss.length = l) (hs : Sl w A (scells ss)) (hlc : l ≤ c) (hc63 : c ≤ 9223372036854775807) (hd : Digs ss) :
    Calls Tryd.prog 92 #[.int .i64 (m : Int), .int .i64 (n : Int), .string one, .string two, .slice A l c] w fun e w' => ∃ b, e = .returned (.bool b) ∧ (b = true ↔ ro m n true one ss = some (one, two)) ∧ Below w.heap.size w w' := by
  have hpos := hT.pos
  have HT := Lib.hid (fun W (hb : Below w.heap.size w W) => hT.below hb hpos)
  have HL := Lib.hid hl
  have HD := Lib.hid hd
  have H4 := Lib.hid h4
  have HA0 := Lib.hid (At2.start (n := n) h1)
  obtain ⟨R, hR⟩ : ∃ R, R = ro m n true one ss := ⟨_, rfl⟩
  rw [← hR]
  have HRO := Lib.hid hR
  clear hl hd h4 hT hpos hR
  go_enter Tryd.func92, Tryd.ntmps92
  go_wp2_with fail
  go_step3
  go_wp2_with fail
  go_loopw [11, 12] (fun vi vj wr => ∃ i j : Nat, vi = .int .i64 (i : Int) ∧ vj = .int .i64 (j : Int) ∧ Hid (At2 m n i j) ∧ w = wr) (fun vi _ _ => (intOf vi).toNat)
  case atStart => exact ⟨m - 1, n - 1, by go_num, by go_num, HA0, rfl⟩
  case round =>
    obtain ⟨i, j, rfl, rfl, HA, rfl⟩ := hrel
    have hij := HA.out.le (by omega)
    have hij1 : i ≤ j := by omega
    have hj40 : j < 1099511627776 := by omega
    clear hij
    have hand := and_one i (by omega)
    by_cases hod : i % 2 = 1
    · rw [hod] at hand
      have HU := Lib.hid (HA.out.up hod)
      go_wp2_with fail
      clear hand
      go_roundw
      case rel => exact ⟨i / 2, j / 2, by go_num, by go_num, HU, by first | rfl | trivial⟩
      case measure => simp [intOf]; omega
    · have hev : i % 2 = 0 := by omega
      have HR0 : Hid (R = first2 nd i true (steps2 40 i j) one ss) := by
        show _ = _
        rw [HRO.out]
        exact HA.out.roots nd hev h1 h2 40 (by rw [show (2 : Nat) ^ 40 = 1099511627776 by decide]; exact hj40) true one ss
      rw [hev] at hand
      clear hod hev HA HA0
      by_cases hi0 : i = 0
      · have HRR : Hid (R = run2 nd (steps2 40 i j) one one (ss.drop 0)) := by show _ = _; rw [HR0.out, begun_wh nd _ _ _ ⟨hi0, rfl⟩, List.drop_zero]
        have HF32 := H4
        have HLL := HL
        have HDD := HD
        have hsl := hs
        have hip : ¬ (i : Int) > 0 := by omega
        clear HR0 hi0 hs
        go_wp2_with fail
        clear hand hip
        go_wp2_with fail
        go_step3
        go_wp2_with fail
        go_loopw [11, 12, 13, 14, 44] (fun vi vj vf vs vk wr => ∃ (i j k : Nat) (f s : ByteArray), i ≤ j ∧ j < 1099511627776 ∧ k ≤ l ∧ vi = .int .i64 (i : Int) ∧ vj = .int .i64 (j : Int) ∧ vf = .string f ∧ vs = .string s ∧ vk = .int .i64 (k : Int) ∧ Hid (f.size = 32) ∧ Hid (s.size = 32) ∧ Hid (R = run2 nd (steps2 40 i j) f s (ss.drop k)) ∧ Below w.heap.size w wr) (fun _ _ _ _ vk _ => l - (intOf vk).toNat)
        case atStart => exact ⟨i, j, 0, one, one, hij1, hj40, Nat.zero_le _, rfl, rfl, rfl, rfl, rfl, HF32, HF32, HRR, Below.refl _ _⟩
        case round =>
          clear HRR HF32 hj40 hij1
          obtain ⟨i, j, k, f, s, hij, hj40, hk, rfl, rfl, rfl, rfl, rfl, HF, HS, HR, hbel⟩ := hrel
          by_cases hlt : k < l
          · obtain ⟨b, o, rfl, hblt, hcell⟩ := hsl.get (j := k) (by rw [scells_len, HLL.out]; exact hlt)
            have hget := get_of (ss := ss) (j := k) (by rw [HLL.out]; exact hlt)
            obtain ⟨d, hd⟩ : ∃ d, ss.getD k ⟨#[]⟩ = d := ⟨_, rfl⟩
            rw [hd] at hget
            have hc0 := (hbel.cell (p := ⟨b, o + k, none⟩) hblt).trans (hcell k _ (scells_at hget))
            have HDR := Lib.hid (drop_get hget)
            have H32 := Lib.hid (HDD.out d (List.mem_of_getElem? hget))
            clear hcell hget hd
            go_wp2_with fail
            go_loopw [11, 12, 13, 14] (fun vi vj vf vs wi => ∃ (i j : Nat), i ≤ j ∧ j < 1099511627776 ∧ vi = .int .i64 (i : Int) ∧ vj = .int .i64 (j : Int) ∧ vf = .string f ∧ vs = .string s ∧ Hid (R = run2 nd (steps2 40 i j) f s (ss.drop k)) ∧ wr = wi) (fun _ vj _ _ _ => (intOf vj).toNat)
            case atStart => exact ⟨i, j, hij, hj40, rfl, rfl, rfl, rfl, HR, rfl⟩
            case round =>
              clear HR hij hj40
              obtain ⟨i, j, hij, hj40, rfl, rfl, rfl, rfl, HR, rfl⟩ := hrel
              by_cases hj0 : 0 < j
              · have hjp : (j : Int) > 0 := by omega
                have hand := and_one i (by omega)
                by_cases hod : i % 2 = 1
                · have HN : Hid (R = run2 nd (steps2 40 (i / 2) (j / 2)) (nd d f) (nd d s) (ss.drop (k + 1))) := by
                    show _ = _
                    rw [HR.out, HDR.out, st_left hij hj40 hod]; rfl
                  rw [hod] at hand
                  by_cases hl : i < j
                  · go_wp2_with fail
                    refine (cnode_any d f _ (HT.out _ hbel) H32.out HF.out).mono ?_
                    rintro e w3 ⟨rfl, hb3⟩
                    have b3 := hbel.trans (hb3.mono hbel.size)
                    go_wp2_with fail
                    refine (cnode_any d s _ (HT.out _ b3) H32.out HS.out).mono ?_
                    rintro e w4 ⟨rfl, hb4⟩
                    have b4 := b3.trans (hb4.mono b3.size)
                    clear hand hjp
                    go_wp2_with fail
                    go_roundw
                    case rel => first | exact ⟨i / 2, j / 2, k + 1, nd d f, nd d s, by omega, by omega, by omega, by go_num, by go_num, rfl, rfl, by go_num, nd_size _ _, nd_size _ _, HN, b4⟩ | ((repeat apply Exists.intro); exact ⟨⟨i / 2, j / 2, k + 1, nd d f, nd d s, by omega, by omega, by omega, by go_num, by go_num, rfl, rfl, by go_num, nd_size _ _, nd_size _ _, HN, b4⟩, rfl⟩)
                    case measure => simp [intOf]; omega
                  · go_wp2_with fail
                    refine (cnode_any d f _ (HT.out _ hbel) H32.out HF.out).mono ?_
                    rintro e w3 ⟨rfl, hb3⟩
                    have b3 := hbel.trans (hb3.mono hbel.size)
                    go_wp2_with fail
                    refine (cnode_any d s _ (HT.out _ b3) H32.out HS.out).mono ?_
                    rintro e w4 ⟨rfl, hb4⟩
                    have b4 := b3.trans (hb4.mono b3.size)
                    clear hand hjp
                    go_wp2_with fail
                    go_roundw
                    case rel => first | exact ⟨i / 2, j / 2, k + 1, nd d f, nd d s, by omega, by omega, by omega, by go_num, by go_num, rfl, rfl, by go_num, nd_size _ _, nd_size _ _, HN, b4⟩ | ((repeat apply Exists.intro); exact ⟨⟨i / 2, j / 2, k + 1, nd d f, nd d s, by omega, by omega, by omega, by go_num, by go_num, rfl, rfl, by go_num, nd_size _ _, nd_size _ _, HN, b4⟩, rfl⟩)
                    case measure => simp [intOf]; omega
                · have hev : i % 2 = 0 := by omega
                  rw [hev] at hand
                  by_cases hl : i < j
                  · have HN : Hid (R = run2 nd (steps2 40 (i / 2) (j / 2)) f (nd s d) (ss.drop (k + 1))) := by
                      show _ = _
                      rw [HR.out, HDR.out, st_right hij hj40 hev hl]; rfl
                    clear hod hev
                    go_wp2_with fail
                    refine (cnode_any s d _ (HT.out _ hbel) HS.out H32.out).mono ?_
                    rintro e w3 ⟨rfl, hb3⟩
                    have b3 := hbel.trans (hb3.mono hbel.size)
                    clear hand hjp
                    go_wp2_with fail
                    go_roundw
                    case rel => first | exact ⟨i / 2, j / 2, k + 1, f, nd s d, by omega, by omega, by omega, by go_num, by go_num, rfl, rfl, by go_num, HF, nd_size _ _, HN, b3⟩ | ((repeat apply Exists.intro); exact ⟨⟨i / 2, j / 2, k + 1, f, nd s d, by omega, by omega, by omega, by go_num, by go_num, rfl, rfl, by go_num, HF, nd_size _ _, HN, b3⟩, rfl⟩)
                    case measure => simp [intOf]; omega
                  · have HN : Hid (R = run2 nd (steps2 40 (i / 2) (j / 2)) f s (ss.drop k)) := by
                      show _ = _
                      rw [HR.out, st_skip hij hj40 hev hl]
                    clear hod hev
                    go_wp2_with fail
                    clear hand hjp
                    go_roundw
                    case rel => exact ⟨i / 2, j / 2, by omega, by omega, by go_num, by go_num, rfl, rfl, HN, by first | rfl | trivial⟩
                    case measure => simp [intOf]; omega
              · have HN : Hid (R = none) := by
                  show _ = _
                  have h1 : j = 0 := by omega
                  have h2 : i = 0 := by omega
                  rw [HR.out, HDR.out, h1, h2, steps2_zero]; rfl
                have hjp : ¬ (j : Int) > 0 := by omega
                go_wp2_with fail
                try rw [Exit.noGoto_ret]
                go_ret
                exact ⟨false, rfl, ⟨(fun h => by cases h), fun h => by rw [HN.out] at h; cases h⟩, hbel⟩
          · have hkl : k = l := by omega
            have HE : Hid (ss.drop k = []) := List.drop_eq_nil_of_le (by rw [HLL.out]; omega)
            by_cases hj0 : j = 0
            · have HN : Hid (R = some (f, s)) := by
                show _ = _
                have h2 : i = 0 := by omega
                rw [HR.out, HE.out, hj0, h2, steps2_zero]; rfl
              subst hj0
              by_cases h1 : f = one
              · by_cases h2 : s = two
                · have e1 := SealW.beq_yes h1
                  have e2 := SealW.beq_yes h2
                  have HQ : Hid (R = some (one, two)) := by show _ = _; rw [HN.out, h1, h2]
                  clear h1 h2
                  go_wp2_with fail
                  try rw [Exit.noGoto_ret]
                  go_ret
                  exact ⟨true, rfl, ⟨fun _ => HQ.out, fun _ => rfl⟩, hbel⟩
                · have e1 := SealW.beq_yes h1
                  have e2 := SealW.beq_no h2
                  have HQ : Hid (R ≠ some (one, two)) := by show _ ≠ _; rw [HN.out]; exact fun h => h2 (by cases h; rfl)
                  clear h1 h2
                  go_wp2_with fail
                  try rw [Exit.noGoto_ret]
                  go_ret
                  exact ⟨false, rfl, ⟨(fun h => by cases h), fun h => absurd h HQ.out⟩, hbel⟩
              · have e1 := SealW.beq_no h1
                have HQ : Hid (R ≠ some (one, two)) := by show _ ≠ _; rw [HN.out]; exact fun h => h1 (by cases h; rfl)
                clear h1
                go_wp2_with fail
                try rw [Exit.noGoto_ret]
                go_ret
                exact ⟨false, rfl, ⟨(fun h => by cases h), fun h => absurd h HQ.out⟩, hbel⟩
            · have HN : Hid (R = none) := by
                show _ = _
                rw [HR.out, HE.out, st_short nd hij (by omega) hj40]
              have hjn : ((j : Int) == 0) = false := by simpa using hj0
              go_wp2_with fail
              try rw [Exit.noGoto_ret]
              go_ret
              exact ⟨false, rfl, ⟨(fun h => by cases h), fun h => by rw [HN.out] at h; cases h⟩, hbel⟩
      · have hip : 0 < i := by omega
        by_cases hl0 : l = 0
        · have HN : Hid (R = none) := by
            show _ = _
            rw [HR0.out, List.eq_nil_of_length_eq_zero (HL.out.trans hl0)]
            exact begun_nil nd _ _ (fun h => hi0 h.1)
          subst hl0
          clear hi0
          go_wp2_with fail
          try rw [Exit.noGoto_ret]
          go_ret
          exact ⟨false, rfl, ⟨(fun h => by cases h), fun h => by rw [HN.out] at h; cases h⟩, Below.refl _ _⟩
        obtain ⟨x, xs, hx⟩ : ∃ x xs, ss = x :: xs := by
          cases ss with
          | nil => have := HL.out; simp at this; omega
          | cons x xs => exact ⟨x, xs, rfl⟩
        obtain ⟨q, hq⟩ : ∃ q, q = l - 1 := ⟨_, rfl⟩
        have HRR : Hid (R = run2 nd (steps2 40 i j) x x (xs.drop 0)) := by show _ = _; rw [HR0.out, hx, begun_cons nd _ _ _ _ (fun h => hi0 h.1), List.drop_zero]
        have HLL : Hid (xs.length = q) := by show _ = _; have := HL.out; rw [hx] at this; simp at this; omega
        have HDD : Hid (Digs xs) := fun y hy => HD.out y (by rw [hx]; exact List.mem_cons_of_mem _ hy)
        have HF32 : Hid (x.size = 32) := HD.out x (by rw [hx]; exact List.mem_cons_self)
        have hsl : Sl w (if c = 1 then A else A.map (·.add 1)) (scells xs) := by
          have := hs.cut 1 c (by rw [scells_len, HL.out]; omega)
          rwa [scells_drop, hx, List.drop_succ_cons, List.drop_zero] at this
        obtain ⟨b, o, rfl, hblt, hcell⟩ := hs.get (j := 0) (by rw [scells_len, HL.out]; omega)
        have hc0 := hcell 0 _ (scells_at (x := x) (by rw [hx]; rfl))
        rw [Nat.add_zero] at hc0
        have HRU := Lib.hid (fun w' => run_rest w' (some ⟨b, o, none⟩) l c (by omega))
        obtain ⟨A2, hA2⟩ : ∃ A2, A2 = (if c = 1 then (some ⟨b, o, none⟩ : Option Addr) else (some ⟨b, o, none⟩ : Option Addr).map (·.add 1)) := ⟨_, rfl⟩
        rw [← hA2] at hsl HRU
        rw [← hq] at HRU
        obtain ⟨c2, hc2⟩ : ∃ c2, c2 = c - 1 := ⟨_, rfl⟩
        rw [← hc2] at HRU
        have hlp : (0 : Int) < (l : Int) := by omega
        have hlne : ((l : Int) == 0) = false := by simpa using hl0
        have hql : q ≤ l := by omega
        clear hcell hA2 hx HR0 hi0 hs hq hc2
        go_wp2_with fail
        refine regB_begin (w.heap.size) (by kernel_rfl) ?_
        change wpAnyH _ _ _ _ _ 7 #[false, false, false, false, false, false, false] _ _
        refine regB_take (i := 0) (d := some 36) (v := (.slice (some ⟨b, o, none⟩) l c)) rfl rfl (by kernel_rfl) (by kernel_rfl) (by kernel_rfl) (fun _ _ _ h => h) (by rfl) (by intro w' hSw; go_simp) ?_
        try simp only [Act.put, List.setIfInBounds_toArray, List.set_cons_zero, List.set_cons_succ]
        refine regB_take (i := 1) (d := some 37) (v := (.pointer (some ⟨b, o, none⟩))) rfl rfl (by kernel_rfl) (by kernel_rfl) (by kernel_rfl) (fun _ _ _ h => h) (by rfl) (by intro w' hSw; go_simp) ?_
        try simp only [Act.put, List.setIfInBounds_toArray, List.set_cons_zero, List.set_cons_succ]
        refine regB_take (i := 3) (d := some 39) (v := (.slice (some ⟨b, o, none⟩) l c)) rfl rfl (by kernel_rfl) (by kernel_rfl) (by kernel_rfl) (fun _ _ _ h => h) (by rfl) (by intro w' hSw; go_simp) ?_
        try simp only [Act.put, List.setIfInBounds_toArray, List.set_cons_zero, List.set_cons_succ]
        refine regB_take (i := 4) (d := some 40) (v := (.slice A2 q c2)) rfl rfl (by kernel_rfl) (by kernel_rfl) (by kernel_rfl) (fun _ _ _ h => h) (by rfl) (by intro w' hSw; have h9 := HRU.out w'; go_simp) ?_
        try simp only [Act.put, List.setIfInBounds_toArray, List.set_cons_zero, List.set_cons_succ]
        refine regB_call (i := 2) rfl (by kernel_rfl) (by rfl) fun K hK => ?_
        refine oper_yields (d := some 38) (v := (.string x)) rfl (by go_simp) ?_
        refine hK.out _ _ (Below.refl _ _) ?_
        clear hK K
        try simp only [Act.put, List.setIfInBounds_toArray, List.set_cons_zero, List.set_cons_succ]
        refine regB_take (i := 5) (d := some 13) (v := (.string x)) rfl rfl (by kernel_rfl) (by kernel_rfl) (by kernel_rfl) (fun _ _ _ h => h) (by rfl) (by intro w' hSw; go_simp) ?_
        try simp only [Act.put, List.setIfInBounds_toArray, List.set_cons_zero, List.set_cons_succ]
        refine regB_take (i := 6) (d := some 4) (v := (.slice A2 q c2)) rfl rfl (by kernel_rfl) (by kernel_rfl) (by kernel_rfl) (fun _ _ _ h => h) (by rfl) (by intro w' hSw; go_simp) ?_
        try simp only [Act.put, List.setIfInBounds_toArray, List.set_cons_zero, List.set_cons_succ]
        refine wpAnyH_done (by kernel_rfl) ?_ _
        clear hand hc0 hblt hlp hlne hl0
        go_wp2_with fail
        go_step3
        go_wp2_with fail
        go_loopw [11, 12, 13, 14, 44] (fun vi vj vf vs vk wr => ∃ (i j k : Nat) (f s : ByteArray), i ≤ j ∧ j < 1099511627776 ∧ k ≤ q ∧ vi = .int .i64 (i : Int) ∧ vj = .int .i64 (j : Int) ∧ vf = .string f ∧ vs = .string s ∧ vk = .int .i64 (k : Int) ∧ Hid (f.size = 32) ∧ Hid (s.size = 32) ∧ Hid (R = run2 nd (steps2 40 i j) f s (xs.drop k)) ∧ Below w.heap.size w wr) (fun _ _ _ _ vk _ => q - (intOf vk).toNat)
        case atStart => exact ⟨i, j, 0, x, x, hij1, hj40, Nat.zero_le _, rfl, rfl, rfl, rfl, rfl, HF32, HF32, HRR, (Below.refl _ _).drew⟩
        case round =>
          clear HRR HF32 hj40 hij1
          obtain ⟨i, j, k, f, s, hij, hj40, hk, rfl, rfl, rfl, rfl, rfl, HF, HS, HR, hbel⟩ := hrel
          by_cases hlt : k < q
          · obtain ⟨b, o, rfl, hblt, hcell⟩ := hsl.get (j := k) (by rw [scells_len, HLL.out]; exact hlt)
            have hget := get_of (ss := xs) (j := k) (by rw [HLL.out]; exact hlt)
            obtain ⟨d, hd⟩ : ∃ d, xs.getD k ⟨#[]⟩ = d := ⟨_, rfl⟩
            rw [hd] at hget
            have hc0 := (hbel.cell (p := ⟨b, o + k, none⟩) hblt).trans (hcell k _ (scells_at hget))
            have HDR := Lib.hid (drop_get hget)
            have H32 := Lib.hid (HDD.out d (List.mem_of_getElem? hget))
            clear hcell hget hd
            go_wp2_with fail
            go_loopw [11, 12, 13, 14] (fun vi vj vf vs wi => ∃ (i j : Nat), i ≤ j ∧ j < 1099511627776 ∧ vi = .int .i64 (i : Int) ∧ vj = .int .i64 (j : Int) ∧ vf = .string f ∧ vs = .string s ∧ Hid (R = run2 nd (steps2 40 i j) f s (xs.drop k)) ∧ wr = wi) (fun _ vj _ _ _ => (intOf vj).toNat)
            case atStart => exact ⟨i, j, hij, hj40, rfl, rfl, rfl, rfl, HR, rfl⟩
            case round =>
              clear HR hij hj40
              obtain ⟨i, j, hij, hj40, rfl, rfl, rfl, rfl, HR, rfl⟩ := hrel
              by_cases hj0 : 0 < j
              · have hjp : (j : Int) > 0 := by omega
                have hand := and_one i (by omega)
                by_cases hod : i % 2 = 1
                · have HN : Hid (R = run2 nd (steps2 40 (i / 2) (j / 2)) (nd d f) (nd d s) (xs.drop (k + 1))) := by
                    show _ = _
                    rw [HR.out, HDR.out, st_left hij hj40 hod]; rfl
                  rw [hod] at hand
                  by_cases hl : i < j
                  · go_wp2_with fail
                    refine (cnode_any d f _ (HT.out _ hbel) H32.out HF.out).mono ?_
                    rintro e w3 ⟨rfl, hb3⟩
                    have b3 := hbel.trans (hb3.mono hbel.size)
                    go_wp2_with fail
                    refine (cnode_any d s _ (HT.out _ b3) H32.out HS.out).mono ?_
                    rintro e w4 ⟨rfl, hb4⟩
                    have b4 := b3.trans (hb4.mono b3.size)
                    clear hand hjp
                    go_wp2_with fail
                    go_roundw
                    case rel => first | exact ⟨i / 2, j / 2, k + 1, nd d f, nd d s, by omega, by omega, by omega, by go_num, by go_num, rfl, rfl, by go_num, nd_size _ _, nd_size _ _, HN, b4⟩ | ((repeat apply Exists.intro); exact ⟨⟨i / 2, j / 2, k + 1, nd d f, nd d s, by omega, by omega, by omega, by go_num, by go_num, rfl, rfl, by go_num, nd_size _ _, nd_size _ _, HN, b4⟩, rfl⟩)
                    case measure => simp [intOf]; omega
                  · go_wp2_with fail
                    refine (cnode_any d f _ (HT.out _ hbel) H32.out HF.out).mono ?_
                    rintro e w3 ⟨rfl, hb3⟩
                    have b3 := hbel.trans (hb3.mono hbel.size)
                    go_wp2_with fail
                    refine (cnode_any d s _ (HT.out _ b3) H32.out HS.out).mono ?_
                    rintro e w4 ⟨rfl, hb4⟩
                    have b4 := b3.trans (hb4.mono b3.size)
                    clear hand hjp
                    go_wp2_with fail
                    go_roundw
                    case rel => first | exact ⟨i / 2, j / 2, k + 1, nd d f, nd d s, by omega, by omega, by omega, by go_num, by go_num, rfl, rfl, by go_num, nd_size _ _, nd_size _ _, HN, b4⟩ | ((repeat apply Exists.intro); exact ⟨⟨i / 2, j / 2, k + 1, nd d f, nd d s, by omega, by omega, by omega, by go_num, by go_num, rfl, rfl, by go_num, nd_size _ _, nd_size _ _, HN, b4⟩, rfl⟩)
                    case measure => simp [intOf]; omega
                · have hev : i % 2 = 0 := by omega
                  rw [hev] at hand
                  by_cases hl : i < j
                  · have HN : Hid (R = run2 nd (steps2 40 (i / 2) (j / 2)) f (nd s d) (xs.drop (k + 1))) := by
                      show _ = _
                      rw [HR.out, HDR.out, st_right hij hj40 hev hl]; rfl
                    clear hod hev
                    go_wp2_with fail
                    refine (cnode_any s d _ (HT.out _ hbel) HS.out H32.out).mono ?_
                    rintro e w3 ⟨rfl, hb3⟩
                    have b3 := hbel.trans (hb3.mono hbel.size)
                    clear hand hjp
                    go_wp2_with fail
                    go_roundw
                    case rel => first | exact ⟨i / 2, j / 2, k + 1, f, nd s d, by omega, by omega, by omega, by go_num, by go_num, rfl, rfl, by go_num, HF, nd_size _ _, HN, b3⟩ | ((repeat apply Exists.intro); exact ⟨⟨i / 2, j / 2, k + 1, f, nd s d, by omega, by omega, by omega, by go_num, by go_num, rfl, rfl, by go_num, HF, nd_size _ _, HN, b3⟩, rfl⟩)
                    case measure => simp [intOf]; omega
                  · have HN : Hid (R = run2 nd (steps2 40 (i / 2) (j / 2)) f s (xs.drop k)) := by
                      show _ = _
                      rw [HR.out, st_skip hij hj40 hev hl]
                    clear hod hev
                    go_wp2_with fail
                    clear hand hjp
                    go_roundw
                    case rel => exact ⟨i / 2, j / 2, by omega, by omega, by go_num, by go_num, rfl, rfl, HN, by first | rfl | trivial⟩
                    case measure => simp [intOf]; omega
              · have HN : Hid (R = none) := by
                  show _ = _
                  have h1 : j = 0 := by omega
                  have h2 : i = 0 := by omega
                  rw [HR.out, HDR.out, h1, h2, steps2_zero]; rfl
                have hjp : ¬ (j : Int) > 0 := by omega
                go_wp2_with fail
                try rw [Exit.noGoto_ret]
                go_ret
                exact ⟨false, rfl, ⟨(fun h => by cases h), fun h => by rw [HN.out] at h; cases h⟩, hbel⟩
          · have hkl : k = q := by omega
            have HE : Hid (xs.drop k = []) := List.drop_eq_nil_of_le (by rw [HLL.out]; omega)
            by_cases hj0 : j = 0
            · have HN : Hid (R = some (f, s)) := by
                show _ = _
                have h2 : i = 0 := by omega
                rw [HR.out, HE.out, hj0, h2, steps2_zero]; rfl
              subst hj0
              by_cases h1 : f = one
              · by_cases h2 : s = two
                · have e1 := SealW.beq_yes h1
                  have e2 := SealW.beq_yes h2
                  have HQ : Hid (R = some (one, two)) := by show _ = _; rw [HN.out, h1, h2]
                  clear h1 h2
                  go_wp2_with fail
                  try rw [Exit.noGoto_ret]
                  go_ret
                  exact ⟨true, rfl, ⟨fun _ => HQ.out, fun _ => rfl⟩, hbel⟩
                · have e1 := SealW.beq_yes h1
                  have e2 := SealW.beq_no h2
                  have HQ : Hid (R ≠ some (one, two)) := by show _ ≠ _; rw [HN.out]; exact fun h => h2 (by cases h; rfl)
                  clear h1 h2
                  go_wp2_with fail
                  try rw [Exit.noGoto_ret]
                  go_ret
                  exact ⟨false, rfl, ⟨(fun h => by cases h), fun h => absurd h HQ.out⟩, hbel⟩
              · have e1 := SealW.beq_no h1
                have HQ : Hid (R ≠ some (one, two)) := by show _ ≠ _; rw [HN.out]; exact fun h => h1 (by cases h; rfl)
                clear h1
                go_wp2_with fail
                try rw [Exit.noGoto_ret]
                go_ret
                exact ⟨false, rfl, ⟨(fun h => by cases h), fun h => absurd h HQ.out⟩, hbel⟩
            · have HN : Hid (R = none) := by
                show _ = _
                rw [HR.out, HE.out, st_short nd hij (by omega) hj40]
              have hjn : ((j : Int) == 0) = false := by simpa using hj0
              go_wp2_with fail
              try rw [Exit.noGoto_ret]
              go_ret
              exact ⟨false, rfl, ⟨(fun h => by cases h), fun h => by rw [HN.out] at h; cases h⟩, hbel⟩

theorem accepted_any (m n : Nat) (one two : ByteArray) (A : Option Addr) (l c : Nat) (ss : List ByteArray) (w : World) (hT : Tab w) (h2 : m ≤ n) (hn : n ≤ 1099511627776) (h4 : one.size = 32) (hl : ss.length = l) (hs : Sl w A (scells ss)) (hlc : l ≤ c) (hc63 : c ≤ 9223372036854775807) (hd : Digs ss) :
    Calls Tryd.prog 66 #[.int .i64 (m : Int), .int .i64 (n : Int), .string one, .string two, .slice A l c] w fun e w' => ∃ b, e = .returned (.bool b) ∧ (b = true ↔ acc m n one two ss) ∧ Below w.heap.size w w' := by
  have HL := Lib.hid hl
  have HD := Lib.hid hd
  have H4 := Lib.hid h4
  clear hl hd h4
  by_cases h0 : m = 0
  · subst h0
    by_cases hz : l = 0
    · have HN : Hid (ss = []) := List.eq_nil_of_length_eq_zero (by rw [HL.out]; exact hz)
      subst hz
      by_cases he : one = ed
      · have e1 := SealW.beq_yes he
        have HA : Hid (acc 0 n one two ss) := (accept_zero nd ed (n := n) (one := one) (two := two) (p := ss)).2 ⟨HN.out, he⟩
        clear he
        go_enter Tryd.func66, Tryd.ntmps66
        go_wp2_with fail
        refine (sum_wide none 0 0 [] _ hT rfl Sl.nil (by omega) (by omega) (by omega)).mono ?_
        rw [show (⟨(sha []).toArray⟩ : ByteArray) = ed from rfl]
        rintro e w1 ⟨rfl, hb1⟩
        go_wp2_with fail
        go_ret
        exact ⟨true, rfl, ⟨fun _ => HA.out, fun _ => rfl⟩, hb1⟩
      · have e1 := SealW.beq_no he
        have HA : Hid (¬ acc 0 n one two ss) := fun h => he ((accept_zero nd ed).1 h).2
        clear he
        go_enter Tryd.func66, Tryd.ntmps66
        go_wp2_with fail
        refine (sum_wide none 0 0 [] _ hT rfl Sl.nil (by omega) (by omega) (by omega)).mono ?_
        rw [show (⟨(sha []).toArray⟩ : ByteArray) = ed from rfl]
        rintro e w1 ⟨rfl, hb1⟩
        go_wp2_with fail
        go_ret
        exact ⟨false, rfl, ⟨(fun h => by cases h), fun h => absurd h HA.out⟩, hb1⟩
    · have HA : Hid (¬ acc 0 n one two ss) := fun h => hz (by rw [← HL.out, ((accept_zero nd ed).1 h).1]; rfl)
      have hne : ((l : Int) == 0) = false := by simpa using hz
      go_enter Tryd.func66, Tryd.ntmps66
      go_wp2_with fail
      go_ret
      exact ⟨false, rfl, ⟨(fun h => by cases h), fun h => absurd h HA.out⟩, Below.refl _ _⟩
  have hne : ((m : Int) == 0) = false := by simpa using h0
  have HAP := Lib.hid (accept_pos nd ed (n := n) (one := one) (two := two) (p := ss) h0)
  by_cases hmn : m = n
  · subst hmn
    have HRA := Lib.hid (roots_true nd m one ss)
    by_cases hz : l = 0
    · subst hz
      by_cases he : one = two
      · have e1 := SealW.beq_yes he
        have HA : Hid (acc m m one two ss) := HAP.out.2 (by rw [HRA.out, if_pos HL.out, he])
        clear he
        go_enter Tryd.func66, Tryd.ntmps66
        go_wp2_with fail
        go_ret
        exact ⟨true, rfl, ⟨fun _ => HA.out, fun _ => rfl⟩, Below.refl _ _⟩
      · have e1 := SealW.beq_no he
        have HA : Hid (¬ acc m m one two ss) := fun h => he (by
          have h2 := HAP.out.1 h
          rw [HRA.out, if_pos HL.out] at h2
          cases h2; rfl)
        clear he
        go_enter Tryd.func66, Tryd.ntmps66
        go_wp2_with fail
        go_ret
        exact ⟨false, rfl, ⟨(fun h => by cases h), fun h => absurd h HA.out⟩, Below.refl _ _⟩
    · have hnl : ((l : Int) == 0) = false := by simpa using hz
      have HA : Hid (¬ acc m m one two ss) := fun h => hz (by
          have h2 := HAP.out.1 h
          rw [HRA.out] at h2
          split at h2
          · rw [← HL.out]; assumption
          · cases h2)
      go_enter Tryd.func66, Tryd.ntmps66
      go_wp2_with fail
      go_ret
      exact ⟨false, rfl, ⟨(fun h => by cases h), fun h => absurd h HA.out⟩, Below.refl _ _⟩
  have hne2 : ((m : Int) == (n : Int)) = false := by simpa using (show ¬ (m : Int) = (n : Int) by omega)
  go_enter Tryd.func66, Tryd.ntmps66
  go_wp2_with fail
  refine (recomputed_any m n one two A l c ss _ hT (by omega) (by omega) hn H4.out HL.out hs hlc hc63 HD.out).mono ?_
  rintro e w1 ⟨b, rfl, hb, hb1⟩
  have HB : Hid (b = true ↔ acc m n one two ss) := hb.trans HAP.out.symm
  clear hb
  go_wp2_with fail
  go_ret
  exact ⟨b, rfl, HB.out, hb1⟩
theorem Check_arg (m n : Int) (one two : ByteArray) (A : Option Addr) (l c : Nat) (w : World) (h : ¬ fair m n one two) :
    Calls Tryd.prog 31 #[.int .i64 m, .int .i64 n, .string one, .string two, .slice A l c] w fun e w' => e = .returned (.int .i64 1) ∧ Below w.heap.size w w' := by
  by_cases h1 : 0 ≤ m
  · have k1 : ¬ m < 0 := by omega
    by_cases h2 : m ≤ n
    · have k2 : ¬ n < m := by omega
      by_cases h3 : n ≤ 1099511627776
      · have k3 : ¬ n > 1099511627776 := by omega
        by_cases h4 : one.size = 32
        · have h5 : ¬ two.size = 32 := fun h5 => h ⟨h1, h2, h3, h4, h5⟩
          have e4 : (one.size : Int) = 32 := by omega
          have e5 : ¬ (two.size : Int) = 32 := by omega
          clear h h4 h5
          go_enter Tryd.func31, Tryd.ntmps31
          go_wp2_with fail
          go_ret
          exact ⟨rfl, Below.refl _ _⟩
        · have e4 : ¬ (one.size : Int) = 32 := by omega
          clear h h4
          go_enter Tryd.func31, Tryd.ntmps31
          go_wp2_with fail
          go_ret
          exact ⟨rfl, Below.refl _ _⟩
      · have k3 : n > 1099511627776 := by omega
        clear h
        go_enter Tryd.func31, Tryd.ntmps31
        go_wp2_with fail
        go_ret
        exact ⟨rfl, Below.refl _ _⟩
    · have k2 : n < m := by omega
      clear h
      go_enter Tryd.func31, Tryd.ntmps31
      go_wp2_with fail
      go_ret
      exact ⟨rfl, Below.refl _ _⟩
  · have k1 : m < 0 := by omega
    clear h
    go_enter Tryd.func31, Tryd.ntmps31
    go_wp2_with fail
    go_ret
    exact ⟨rfl, Below.refl _ _⟩
theorem Check_yes (m n : Nat) (one two : ByteArray) (A : Option Addr) (l c : Nat) (ss : List ByteArray) (w : World) (hT : Tab w) (h2 : m ≤ n) (hn : n ≤ 1099511627776) (h4 : one.size = 32) (h5 : two.size = 32) (hl : ss.length = l) (hs : Sl w A (scells ss)) (hlc : l ≤ c) (hc63 : c ≤ 9223372036854775807)
    (hd : Digs ss) (ha : acc m n one two ss) :
    Calls Tryd.prog 31 #[.int .i64 (m : Int), .int .i64 (n : Int), .string one, .string two, .slice A l c] w fun e w' => e = .returned (.int .i64 0) ∧ Below w.heap.size w w' := by
  have k1 : ¬ (m : Int) < 0 := by omega
  have k2 : ¬ (n : Int) < (m : Int) := by omega
  have k3 : ¬ (n : Int) > 1099511627776 := by omega
  have e4 : (one.size : Int) = 32 := by omega
  have e5 : (two.size : Int) = 32 := by omega
  have HL := Lib.hid hl
  have HD := Lib.hid hd
  have HDY : Hid (decide (Digs ss) = true) := decide_eq_true hd
  have HA := Lib.hid ha
  have H4 := Lib.hid h4
  clear hl hd ha h4 h5
  go_enter Tryd.func31, Tryd.ntmps31
  go_wp2_with fail
  refine (cdigests_any A l c ss _ HL.out hs (by omega)).mono ?_
  rintro e w1 ⟨rfl, rfl⟩
  rw [HDY.out]
  go_wp2_with fail
  refine (accepted_any m n one two A l c ss _ hT h2 hn H4.out HL.out hs hlc hc63 HD.out).mono ?_
  rintro e w1 ⟨b, rfl, hb, hb1⟩
  have hbt : b = true := hb.2 HA.out
  subst hbt
  clear hb
  go_wp2_with fail
  go_ret
  exact ⟨rfl, hb1⟩
theorem Check_no (m n : Nat) (one two : ByteArray) (A : Option Addr) (l c : Nat) (ss : List ByteArray) (w : World) (hT : Tab w) (h2 : m ≤ n) (hn : n ≤ 1099511627776) (h4 : one.size = 32) (h5 : two.size = 32) (hl : ss.length = l) (hs : Sl w A (scells ss)) (hlc : l ≤ c) (hc63 : c ≤ 9223372036854775807)
    (h : ¬ (Digs ss ∧ acc m n one two ss)) :
    Calls Tryd.prog 31 #[.int .i64 (m : Int), .int .i64 (n : Int), .string one, .string two, .slice A l c] w fun e w' => e = .returned (.int .i64 6) ∧ Below w.heap.size w w' := by
  have k1 : ¬ (m : Int) < 0 := by omega
  have k2 : ¬ (n : Int) < (m : Int) := by omega
  have k3 : ¬ (n : Int) > 1099511627776 := by omega
  have e4 : (one.size : Int) = 32 := by omega
  have e5 : (two.size : Int) = 32 := by omega
  have HL := Lib.hid hl
  have H4 := Lib.hid h4
  by_cases hd : Digs ss
  · have HD := Lib.hid hd
    have HDY : Hid (decide (Digs ss) = true) := decide_eq_true hd
    have HA : Hid (¬ acc m n one two ss) := fun ha => h ⟨hd, ha⟩
    clear hl hd h h4 h5
    go_enter Tryd.func31, Tryd.ntmps31
    go_wp2_with fail
    refine (cdigests_any A l c ss _ HL.out hs (by omega)).mono ?_
    rintro e w1 ⟨rfl, rfl⟩
    rw [HDY.out]
    go_wp2_with fail
    refine (accepted_any m n one two A l c ss _ hT h2 hn H4.out HL.out hs hlc hc63 HD.out).mono ?_
    rintro e w1 ⟨b, rfl, hb, hb1⟩
    have hbt : b = false := by
      cases b with
      | false => rfl
      | true => exact absurd (hb.1 rfl) HA.out
    subst hbt
    clear hb
    go_wp2_with fail
    go_ret
    exact ⟨rfl, hb1⟩
  · have HDN : Hid (decide (Digs ss) = false) := decide_eq_false hd
    clear hl hd h h4 h5
    go_enter Tryd.func31, Tryd.ntmps31
    go_wp2_with fail
    refine (cdigests_any A l c ss _ HL.out hs (by omega)).mono ?_
    rintro e w1 ⟨rfl, rfl⟩
    rw [HDN.out]
    go_wp2_with fail
    go_ret
    exact ⟨rfl, Below.refl _ _⟩
end Go.Proofs.YtihkfomldbjpoaaDoor.CoW

/- clash: Cons. -/
namespace Go.Proofs.YtihkfomldbjpoaaDoor.ClW
open Go.RowKit TreeW ConsW TrW ClashW
open ShaW Sha
open CoW
theorem computed_any : ∀ f, CP f := by
  intro f
  induction f with
  | zero => intro T base A m c B d A' n c' B' d' a b D lp cp ps pa one x y w0 w hT h0 hbel hTT la lb hD hlp hdg hlc hcp h1 hmn hf; omega
  | succ f ih => exact cp_all (computed_equal f ih) (computed_left f ih) (computed_right f ih)
/-- A proof that isn't accepted. -/
theorem check_not (m n : Nat) (one two : ByteArray) (A : Option Addr) (l c : Nat) (ss : List ByteArray) (w : World) (hT : Tab w) (hn : n ≤ 1099511627776) (h4 : one.size = 32) (h5 : two.size = 32) (hl : ss.length = l) (hs : Sl w A (scells ss)) (hlc : l ≤ c) (hc63 : c ≤ 9223372036854775807)
    (h : ¬ (m ≤ n ∧ Digs ss ∧ acc m n one two ss)) :
    Calls Tryd.prog 31 #[.int .i64 (m : Int), .int .i64 (n : Int), .string one, .string two, .slice A l c] w fun e w' => ∃ z : Int, z ≠ 0 ∧ e = .returned (.int .i64 z) ∧ Below w.heap.size w w' := by
  by_cases h2 : m ≤ n
  · exact (Check_no m n one two A l c ss w hT h2 hn h4 h5 hl hs hlc hc63 (fun k => h ⟨h2, k⟩)).mono fun e w' ⟨e1, e2⟩ => ⟨6, by decide, e1, e2⟩
  · exact (Check_arg (m : Int) (n : Int) one two A l c w (fun k => h2 (by have := k.2.1; omega))).mono fun e w' ⟨e1, e2⟩ => ⟨1, by decide, e1, e2⟩
set_option maxRecDepth 1000000 in
set_option maxHeartbeats 8000000 in
theorem Cons_any (A : Option Addr) (m c : Nat) (vs : List Value) (a : List (List UInt8)) (B : Option Addr) (n cb : Nat) (us : List Value) (b : List (List UInt8)) (C : Option Addr) (lp cp : Nat) (ps : List ByteArray) (w : World) (hT : Tab w)
    (hl : a.length = m) (hA : Sl w A vs) (hR : RowsAt w vs a) (hlb : b.length = n) (hB : Sl w B us) (hS : RowsAt w us b) (hlc : m ≤ c) (hlcb : n ≤ cb) (hm40 : m ≤ 1099511627776) (hl40 : n ≤ 1099511627776) (hbd : ∀ x ∈ a, x.length ≤ 100000000000) (hbb : ∀ x ∈ b, x.length ≤ 100000000000)
    (hlp : ps.length = lp) (hC : Sl w C (scells ps)) (hlpc : lp ≤ cp) (hcp : cp ≤ 9223372036854775807) :
    Calls Tryd.prog 22 #[.slice A m c, .slice B n cb, .slice C lp cp] w fun e w' => ∃ A' n' c' B' m' d' q, e = .returned (.tuple #[.agg #[.slice A' n' c', .slice B' m' d'], .bool q]) ∧ TC w.heap.size w' (cc a b ps) A' n' c' B' m' d' q ∧ Below w.heap.size w w' := by
  have h0 : At (w.alloc (.cells #[.slice none 0 0, .slice none 0 0] 29)) w.heap.size 29 [.slice none 0 0, .slice none 0 0] := At.new_ w _ 29 _ rfl
  have b0 : Below w.heap.size w (w.alloc (.cells #[.slice none 0 0, .slice none 0 0] 29)) := (Below.refl _ _).alloc (Nat.le_refl _) _
  have HL := Lib.hid hl
  have HLB := Lib.hid hlb
  have HLP := Lib.hid hlp
  have HR := Lib.hid hR
  have HS := Lib.hid hS
  have HBD := Lib.hid hbd
  have HBB := Lib.hid hbb
  have HT := Lib.hid (fun W (hb : Below w.heap.size w W) => hT.below hb hT.pos)
  clear hl hlb hlp hR hS hbd hbb hT
  by_cases hm0 : m = 0
  · subst hm0
    have HNO := Lib.hid (cc_no (a := a) (b := b) (ps := ps) (fun h => h.1 HL.out))
    go_enter Tryd.func22, Tryd.ntmps22
    go_wp2_with (refine wpList_storeB rfl rfl 29 (.tmp 6) (.tmp 14) rfl SealW.clashTy w.heap.size rfl [.slice none 0 0, .slice none 0 0] rfl 29 _ h0 rfl rfl slices_one ?_; intro x1 k1 o1)
    have b2 := o1.below _ _ b0 (Nat.le_refl _)
    rw [HNO.out]
    exact bodyPost_ret (v := .tuple #[.agg #[.slice none 0 0, .slice none 0 0], .bool false]) (results_cellA2 rfl SealW.clashTy _ _ w.heap.size 29 [.slice none 0 0, .slice none 0 0] rfl k1 rfl _ rfl) rfl
      ⟨none, 0, 0, none, 0, 0, false, rfl, TC.none_ _ _, b2⟩
  · have hne : ((m : Int) == 0) = false := by simpa using (show ¬ (m : Int) = 0 by omega)
    have h1 : 1 ≤ m := by omega
    have ZA := Lib.hid (rt_size _ _ (Nat.le_refl _) (lf_digs a))
    have ZB := Lib.hid (rt_size _ _ (Nat.le_refl _) (lf_digs b))
    obtain ⟨ra, hra⟩ : ∃ r, rt (a.map lf) = r := ⟨_, rfl⟩
    obtain ⟨rb, hrb⟩ : ∃ r, rt (b.map lf) = r := ⟨_, rfl⟩
    rw [hra] at ZA
    rw [hrb] at ZB
    have RA := Lib.hid hra
    have RB := Lib.hid hrb
    clear hra hrb hm0
    go_enter Tryd.func22, Tryd.ntmps22
    go_wp2_with fail
    refine (newList_any A m c vs a _ (HT.out _ b0) HL.out (hA.below b0) (HR.out.below b0) hlc hm40 HBD.out).mono ?_
    rintro e w1 ⟨A1, c1, rfl, la, hb1⟩
    have b1 := b0.trans (hb1.mono b0.size)
    have h1a := h0.below hb1 h0.lt
    clear h0 b0 hb1
    go_wp2_with fail
    refine (newList_any B n cb us b _ (HT.out _ b1) HLB.out (hB.below b1) (HS.out.below b1) hlcb hl40 HBB.out).mono ?_
    rintro e w2 ⟨A2, c2, rfl, lb, hb2⟩
    have b2 := b1.trans (hb2.mono b1.size)
    have h2 := h1a.below hb2 h1a.lt
    have la := la.below hb2
    clear h1a b1 hb2
    have q0 : Below w2.heap.size w2 ((w2.alloc (.cells #[.slice none 0 0, .slice none 0 0] 62)).alloc (.cells #[.slice none 0 0, .slice none 0 0] 62)) := ((Below.refl _ _).alloc (Nat.le_refl _) _).alloc (by simp) _
    have k8 : At ((w2.alloc (.cells #[.slice none 0 0, .slice none 0 0] 62)).alloc (.cells #[.slice none 0 0, .slice none 0 0] 62)) w2.heap.size 62 [.slice none 0 0, .slice none 0 0] := (At.new_ w2 _ 62 [.slice none 0 0, .slice none 0 0] rfl).alloc _
    have k9 : At ((w2.alloc (.cells #[.slice none 0 0, .slice none 0 0] 62)).alloc (.cells #[.slice none 0 0, .slice none 0 0] 62)) (w2.heap.size + 1) 62 [.slice none 0 0, .slice none 0 0] := At.new_ _ _ 62 _ (by simp)
    go_upto_region 4 with (first
      | (refine wpList_storeB rfl rfl 62 (.tmp 8) (.tmp 16) rfl listTy w2.heap.size rfl [.slice A m c, .slice A1 m c1] rfl 62 _ k8 rfl rfl slices_one ?_; intro x3 k8a o3; have k9a := o3.at_ k9 (Nat.succ_ne_self _); have q3 := o3.below _ _ q0 (Nat.le_refl _))
      | (refine wpList_storeB rfl rfl 62 (.tmp 9) (.tmp 18) rfl listTy (w2.heap.size + 1) rfl [.slice B n cb, .slice A2 n c2] rfl 62 _ k9a rfl rfl slices_one ?_; intro x4 k9b o4; have k8b := o4.at_ k8a (Nat.ne_of_lt (Nat.lt_succ_self _)); have q4 := o4.below _ _ q3 (Nat.le_succ _)))
    have b4 := b2.trans (q4.mono b2.size)
    have h4 := h2.below q4 h2.lt
    have la := la.below q4
    have lb := lb.below q4
    have l8 := k8b.lt
    have l9 := k9b.lt
    have f80 := k8b.cell 0
    have f81 := k8b.cell 1
    have f90 := k9b.cell 0
    have f91 := k9b.cell 1
    simp only [List.getElem?_cons_zero, List.getElem?_cons_succ] at f80 f81 f90 f91
    clear q0 k8 k9 k8a k9a o3 o4 q3 b2 h2 q4
    generalize w2.heap.size = G at *
    by_cases hok : m ≤ n ∧ Digs ps ∧ acc m n ra rb ps
    · obtain ⟨hmn, hdg, hac⟩ := hok
      have HYES := Lib.hid (cc_yes (a := a) (b := b) (ps := ps) ⟨by rw [HL.out]; omega, by rw [HL.out, HLB.out]; exact hmn, hdg, by rw [HL.out, HLB.out, RA.out, RB.out]; exact hac⟩)
      rw [HL.out, HLB.out, RA.out] at HYES
      have HRO : Hid (ro m n true ra ps = some (ra, rb)) := (accept_pos nd ed (by omega)).1 hac
      have HDG := Lib.hid hdg
      have HAC := Lib.hid hac
      clear hdg hac
      have b4 := b4.drew
      have h4 := h4.drew
      have la := la.below ((Below.refl _ _).drew)
      have lb := lb.below ((Below.refl _ _).drew)
      have k8b := k8b.drew
      have k9b := k9b.drew
      refine reg_begin (by kernel_rfl) ?_
      change wpAnyH _ _ _ _ _ 11 #[false, false, false, false, false, false, false, false, false, false, false] _ _
      refine reg_take (i := 0) (d := some 19) (v := (.slice A m c)) rfl rfl (by kernel_rfl) (by kernel_rfl) (by kernel_rfl) (fun _ _ _ h => h) (by rfl) (by intro w' hSw; go_simp) ?_
      try simp only [Act.put, List.setIfInBounds_toArray, List.set_cons_zero, List.set_cons_succ]
      refine reg_take (i := 1) (d := some 20) (v := (.int .i64 (m : Int))) rfl rfl (by kernel_rfl) (by kernel_rfl) (by kernel_rfl) (fun _ _ _ h => h) (by rfl) (by intro w' hSw; go_simp) ?_
      try simp only [Act.put, List.setIfInBounds_toArray, List.set_cons_zero, List.set_cons_succ]
      refine reg_take (i := 2) (d := some 21) (v := (.slice B n cb)) rfl rfl (by kernel_rfl) (by kernel_rfl) (by kernel_rfl) (fun _ _ _ h => h) (by rfl) (by intro w' hSw; go_simp) ?_
      try simp only [Act.put, List.setIfInBounds_toArray, List.set_cons_zero, List.set_cons_succ]
      refine reg_take (i := 3) (d := some 22) (v := (.int .i64 (n : Int))) rfl rfl (by kernel_rfl) (by kernel_rfl) (by kernel_rfl) (fun _ _ _ h => h) (by rfl) (by intro w' hSw; go_simp) ?_
      try simp only [Act.put, List.setIfInBounds_toArray, List.set_cons_zero, List.set_cons_succ]
      refine reg_take (i := 4) (d := some 23) (v := (.agg #[.slice A m c, .slice A1 m c1])) rfl rfl (by kernel_rfl) (by kernel_rfl) (by kernel_rfl) (fun _ _ _ h => h) (by rfl) (by intro w' hSw; have f0 := (hSw.cell (p := ⟨G, 0, none⟩) l8).trans f80; have f1 := (hSw.cell (p := ⟨G, 1, none⟩) l8).trans f81; go_simp) ?_
      try simp only [Act.put, List.setIfInBounds_toArray, List.set_cons_zero, List.set_cons_succ]
      refine reg_take (i := 6) (d := some 25) (v := (.agg #[.slice B n cb, .slice A2 n c2])) rfl rfl (by kernel_rfl) (by kernel_rfl) (by kernel_rfl) (fun _ _ _ h => h) (by rfl) (by intro w' hSw; have f0 := (hSw.cell (p := ⟨G + 1, 0, none⟩) l9).trans f90; have f1 := (hSw.cell (p := ⟨G + 1, 1, none⟩) l9).trans f91; go_simp) ?_
      try simp only [Act.put, List.setIfInBounds_toArray, List.set_cons_zero, List.set_cons_succ]
      refine reg_take (i := 8) (d := some 27) (v := (.slice C lp cp)) rfl rfl (by kernel_rfl) (by kernel_rfl) (by kernel_rfl) (fun _ _ _ h => h) (by rfl) (by intro w' hSw; go_simp) ?_
      try simp only [Act.put, List.setIfInBounds_toArray, List.set_cons_zero, List.set_cons_succ]
      refine reg_call (i := 5) rfl (by kernel_rfl) (by rfl) fun K hK => ?_
      go_simp
      refine (rootL_any A m c A1 c1 a _ (HT.out _ b4) la).mono ?_
      rintro e w6 ⟨rfl, hb6⟩
      rw [RA.out]
      have la := la.below hb6
      have lb := lb.below hb6
      have b6 := b4.trans (hb6.mono b4.size)
      have h6 := h4.below hb6 h4.lt
      have k8b := k8b.below hb6 k8b.lt
      have k9b := k9b.below hb6 k9b.lt
      have z6 := hb6.size
      refine hK.out _ _ hb6 ?_
      clear hK K
      try simp only [List.setIfInBounds_toArray, List.set_cons_zero, List.set_cons_succ]
      refine reg_call (i := 7) rfl (by kernel_rfl) (by rfl) fun K hK => ?_
      go_simp
      refine (rootL_any B n cb A2 c2 b _ (HT.out _ b6) lb).mono ?_
      rintro e w7 ⟨rfl, hb7⟩
      rw [RB.out]
      have la := la.below hb7
      have lb := lb.below hb7
      have b7 := b6.trans (hb7.mono b6.size)
      have h7 := h6.below hb7 h6.lt
      have k8b := k8b.below hb7 k8b.lt
      have k9b := k9b.below hb7 k9b.lt
      refine hK.out _ _ hb7 ?_
      clear hK K
      try simp only [List.setIfInBounds_toArray, List.set_cons_zero, List.set_cons_succ]
      refine reg_call (i := 9) rfl (by kernel_rfl) (by rfl) fun K hK => ?_
      go_simp
      refine (Check_yes m n ra rb C lp cp ps _ (HT.out _ b7) hmn hl40 ZA.out ZB.out HLP.out (hC.below b7) hlpc hcp HDG.out HAC.out).mono ?_
      rintro e w9 ⟨rfl, hb9⟩
      have la := la.below hb9
      have lb := lb.below hb9
      have b9 := b7.trans (hb9.mono b7.size)
      have h9 := h7.below hb9 h7.lt
      have k8b := k8b.below hb9 k8b.lt
      have k9b := k9b.below hb9 k9b.lt
      refine hK.out _ _ hb9 ?_
      clear hK K
      try simp only [List.setIfInBounds_toArray, List.set_cons_zero, List.set_cons_succ]
      refine reg_take (i := 10) (d := some 29) (v := (.bool false)) rfl rfl (by kernel_rfl) (by kernel_rfl) (by kernel_rfl) (fun _ _ _ h => h) (by rfl) (by intro w' hSw; go_simp) ?_
      try simp only [Act.put, List.setIfInBounds_toArray, List.set_cons_zero, List.set_cons_succ]
      refine wpAnyH_done (by kernel_rfl) ?_ _
      clear f80 f81 f90 f91
      have f80 := k8b.cell 0
      have f81 := k8b.cell 1
      have f90 := k9b.cell 0
      have f91 := k9b.cell 1
      simp only [List.getElem?_cons_zero, List.getElem?_cons_succ] at f80 f81 f90 f91
      go_wp2_with fail
      refine (computed_any n (fun _ => False) w9.heap.size A m c A1 c1 B n cb A2 c2 a b C lp cp ps false ra ra rb w9 _ (HT.out _ b9) rfl (Below.refl _ _) (fun _ h => h.elim) la lb (hC.below b9) HLP.out HDG.out hlpc hcp h1 hmn (Nat.le_refl _) (fun _ => RA.out.symm) ZA.out HRO.out).mono ?_
      rintro e w10 ⟨v1, v2, v3, rfl, ⟨o, p, q, fs, gs, hs, co, hO, hP, hQ, lno, lnp, lnq⟩, hb10⟩
      have b10 := b9.trans (hb10.mono b9.size)
      have h10 := h9.below hb10 h9.lt
      obtain ⟨B1, d1, rfl, sl1, _, ll1, _, _⟩ := own_slice co.a1
      obtain ⟨B2, d2, rfl, sl2, _, ll2, _, _⟩ := own_slice co.a2
      obtain ⟨B3, d3, rfl, sl3, _, ll3, _, _⟩ := own_slice co.a3
      obtain ⟨n1, hn1⟩ : ∃ n, o.length = n := ⟨_, rfl⟩
      obtain ⟨n2, hn2⟩ : ∃ n, p.length = n := ⟨_, rfl⟩
      obtain ⟨n3, hn3⟩ : ∃ n, q.length = n := ⟨_, rfl⟩
      rw [hn1] at ll1 lno ⊢
      rw [hn2] at ll2 lnp ⊢
      rw [hn3] at ll3 lnq ⊢
      have F1 := co.f1
      have F2 := co.f2
      have F3 := co.f3
      have LL1 := Lib.hid ll1
      have LL2 := Lib.hid ll2
      have LL3 := Lib.hid ll3
      have HO := Lib.hid hO
      have HP := Lib.hid hP
      have HQ := Lib.hid hQ
      have HF3 : Hid ([fs, gs, hs].flatten = fs ++ (gs ++ (hs ++ []))) := Lib.hid rfl
      have HFL : Hid ([fs, gs, hs].flatten.length = n1 + n2 + n3) := by show _ = _; simp [LL1.out, LL2.out, LL3.out, Nat.add_assoc]
      have kc : At (w10.alloc (.cells #[.string ⟨#[]⟩, .string ⟨#[]⟩, .slice none 0 0, .slice none 0 0, .slice none 0 0] 77)) w10.heap.size 77 [.string ⟨#[]⟩, .string ⟨#[]⟩, .slice none 0 0, .slice none 0 0, .slice none 0 0] := At.new_ w10 _ 77 _ rfl
      have qc : Below w10.heap.size w10 (w10.alloc (.cells #[.string ⟨#[]⟩, .string ⟨#[]⟩, .slice none 0 0, .slice none 0 0, .slice none 0 0] 77)) := (Below.refl _ _).alloc (Nat.le_refl _) _
      clear co ll1 ll2 ll3 hn1 hn2 hn3 hO hP hQ hb10 la lb h9 b9 f80 f81 f90 f91 k8b k9b
      go_upto_region 7 with (refine wpList_storeB rfl rfl 77 (.tmp 10) (.tmp 34) rfl courseTy w10.heap.size rfl [.string ra, .string rb, .slice B1 n1 d1, .slice B2 n2 d2, .slice B3 n3 d3] rfl 77 _ kc rfl rfl (five_one rfl rfl rfl) ?_; intro x11 kd o11)
      have q11 := o11.below _ _ qc (Nat.le_refl _)
      have b11 := b10.trans (q11.mono b10.size)
      have h11 := h10.below q11 h10.lt
      have sl1 := sl1.below q11
      have sl2 := sl2.below q11
      have sl3 := sl3.below q11
      have F1 := F1.below q11
      have F2 := F2.below q11
      have F3 := F3.below q11
      have g2 := kd.cell 2
      have g3 := kd.cell 3
      have g4 := kd.cell 4
      simp only [List.getElem?_cons_zero, List.getElem?_cons_succ] at g2 g3 g4
      have ks : At (x11.alloc (.cells #[.slice B1 n1 d1, .slice B2 n2 d2, .slice B3 n3 d3] 59)) x11.heap.size 59 [.slice B1 n1 d1, .slice B2 n2 d2, .slice B3 n3 d3] := At.new_ x11 _ 59 _ rfl
      have qs : Below x11.heap.size x11 (x11.alloc (.cells #[.slice B1 n1 d1, .slice B2 n2 d2, .slice B3 n3 d3] 59)) := (Below.refl _ _).alloc (Nat.le_refl _) _
      have sl1 := sl1.below qs
      have sl2 := sl2.below qs
      have sl3 := sl3.below qs
      have b12 := b11.trans (qs.mono b11.size)
      have h12 := h11.below qs h11.lt
      have F1 := F1.below qs
      have F2 := F2.below qs
      have F3 := F3.below qs
      have HPV : Hid (PartsV (x11.alloc (.cells #[.slice B1 n1 d1, .slice B2 n2 d2, .slice B3 n3 d3] 59)) [.slice B1 n1 d1, .slice B2 n2 d2, .slice B3 n3 d3] [fs, gs, hs]) := by
        intro j hj
        match j with
        | 0 => exact ⟨B1, d1, by simp [LL1.out], sl1⟩
        | 1 => exact ⟨B2, d2, by simp [LL2.out], sl2⟩
        | 2 => exact ⟨B3, d3, by simp [LL3.out], sl3⟩
        | j + 3 => simp at hj; omega
      have FF := Fds.app (Fds.app (Fds.app (Fds.nil _ _) F3) F2) F1
      have FF1 := Lib.hid FF
      clear kc qc o11 q11 b10 h10 b11 qs sl1 sl2 sl3 F1 F2 F3 kd FF h11
      go_wp2_with fail
      refine (concat_any (some ⟨x11.heap.size, 0, none⟩) 3 3 [.slice B1 n1 d1, .slice B2 n2 d2, .slice B3 n3 d3] [fs, gs, hs] _ rfl rfl (Sl.of_at_all ks) HPV.out (by omega) (by rw [HFL.out]; omega) (by rw [HF3.out]; exact FF1.out.one)).mono ?_
      rintro e w13 ⟨A13, c13, rfl, sl13, hb13⟩
      rw [HFL.out]
      rw [HF3.out] at sl13
      have b13 := b12.trans (hb13.mono b12.size)
      have h13 := h12.below hb13 h12.lt
      have FF := FF1.out.below hb13
      clear b12 h12 hb13 g2 g3 g4 ks HPV FF1
      go_wp2_with fail
      refine (first_any _ A13 (n1 + n2 + n3) c13 _ _ _ (by rw [← HF3.out]; exact HFL.out) sl13 FF (by omega)).mono ?_
      rintro e w5 ⟨A5, n5, c5, B5, m5, d5, z5, rfl, t5, hb5⟩
      have b5 := b13.trans (hb5.mono b13.size)
      have h5 := h13.below hb5 h13.lt
      have hlt5 := h13.lt
      rw [fo_app, fo_app, fo_app, HO.out, HP.out, HQ.out, show fo [] = none from rfl, orE_last] at t5
      clear b13 h13 hb5 sl13 FF
      go_wp2_with (refine wpList_storeB rfl rfl 29 (.tmp 6) (.tmp 44) rfl SealW.clashTy w.heap.size rfl [.slice A5 n5 c5, .slice B5 m5 d5] rfl 29 _ h5 rfl rfl slices_one ?_; intro x6 k6 o6)
      have b6 := o6.below _ _ b5 (Nat.le_refl _)
      rw [HYES.out]
      exact bodyPost_ret (v := .tuple #[.agg #[.slice A5 n5 c5, .slice B5 m5 d5], .bool z5]) (results_cellA2 rfl SealW.clashTy _ _ w.heap.size 29 [.slice A5 n5 c5, .slice B5 m5 d5] rfl k6 rfl _ rfl) rfl
        ⟨A5, n5, c5, B5, m5, d5, z5, rfl, (t5.only o6 hlt5).base (Nat.le_of_lt hlt5), b6⟩
    · have HNO := Lib.hid (cc_no (a := a) (b := b) (ps := ps) (fun h => hok ⟨by have := h.2.1; rwa [HL.out, HLB.out] at this, h.2.2.1, by have := h.2.2.2; rwa [HL.out, HLB.out, RA.out, RB.out] at this⟩))
      have HOK := Lib.hid hok
      clear hok
      have b4 := b4.drew
      have h4 := h4.drew
      have la := la.below ((Below.refl _ _).drew)
      have lb := lb.below ((Below.refl _ _).drew)
      have k8b := k8b.drew
      have k9b := k9b.drew
      refine reg_begin (by kernel_rfl) ?_
      change wpAnyH _ _ _ _ _ 11 #[false, false, false, false, false, false, false, false, false, false, false] _ _
      refine reg_take (i := 0) (d := some 19) (v := (.slice A m c)) rfl rfl (by kernel_rfl) (by kernel_rfl) (by kernel_rfl) (fun _ _ _ h => h) (by rfl) (by intro w' hSw; go_simp) ?_
      try simp only [Act.put, List.setIfInBounds_toArray, List.set_cons_zero, List.set_cons_succ]
      refine reg_take (i := 1) (d := some 20) (v := (.int .i64 (m : Int))) rfl rfl (by kernel_rfl) (by kernel_rfl) (by kernel_rfl) (fun _ _ _ h => h) (by rfl) (by intro w' hSw; go_simp) ?_
      try simp only [Act.put, List.setIfInBounds_toArray, List.set_cons_zero, List.set_cons_succ]
      refine reg_take (i := 2) (d := some 21) (v := (.slice B n cb)) rfl rfl (by kernel_rfl) (by kernel_rfl) (by kernel_rfl) (fun _ _ _ h => h) (by rfl) (by intro w' hSw; go_simp) ?_
      try simp only [Act.put, List.setIfInBounds_toArray, List.set_cons_zero, List.set_cons_succ]
      refine reg_take (i := 3) (d := some 22) (v := (.int .i64 (n : Int))) rfl rfl (by kernel_rfl) (by kernel_rfl) (by kernel_rfl) (fun _ _ _ h => h) (by rfl) (by intro w' hSw; go_simp) ?_
      try simp only [Act.put, List.setIfInBounds_toArray, List.set_cons_zero, List.set_cons_succ]
      refine reg_take (i := 4) (d := some 23) (v := (.agg #[.slice A m c, .slice A1 m c1])) rfl rfl (by kernel_rfl) (by kernel_rfl) (by kernel_rfl) (fun _ _ _ h => h) (by rfl) (by intro w' hSw; have f0 := (hSw.cell (p := ⟨G, 0, none⟩) l8).trans f80; have f1 := (hSw.cell (p := ⟨G, 1, none⟩) l8).trans f81; go_simp) ?_
      try simp only [Act.put, List.setIfInBounds_toArray, List.set_cons_zero, List.set_cons_succ]
      refine reg_take (i := 6) (d := some 25) (v := (.agg #[.slice B n cb, .slice A2 n c2])) rfl rfl (by kernel_rfl) (by kernel_rfl) (by kernel_rfl) (fun _ _ _ h => h) (by rfl) (by intro w' hSw; have f0 := (hSw.cell (p := ⟨G + 1, 0, none⟩) l9).trans f90; have f1 := (hSw.cell (p := ⟨G + 1, 1, none⟩) l9).trans f91; go_simp) ?_
      try simp only [Act.put, List.setIfInBounds_toArray, List.set_cons_zero, List.set_cons_succ]
      refine reg_take (i := 8) (d := some 27) (v := (.slice C lp cp)) rfl rfl (by kernel_rfl) (by kernel_rfl) (by kernel_rfl) (fun _ _ _ h => h) (by rfl) (by intro w' hSw; go_simp) ?_
      try simp only [Act.put, List.setIfInBounds_toArray, List.set_cons_zero, List.set_cons_succ]
      refine reg_call (i := 5) rfl (by kernel_rfl) (by rfl) fun K hK => ?_
      go_simp
      refine (rootL_any A m c A1 c1 a _ (HT.out _ b4) la).mono ?_
      rintro e w6 ⟨rfl, hb6⟩
      rw [RA.out]
      have la := la.below hb6
      have lb := lb.below hb6
      have b6 := b4.trans (hb6.mono b4.size)
      have h6 := h4.below hb6 h4.lt
      have k8b := k8b.below hb6 k8b.lt
      have k9b := k9b.below hb6 k9b.lt
      have z6 := hb6.size
      refine hK.out _ _ hb6 ?_
      clear hK K
      try simp only [List.setIfInBounds_toArray, List.set_cons_zero, List.set_cons_succ]
      refine reg_call (i := 7) rfl (by kernel_rfl) (by rfl) fun K hK => ?_
      go_simp
      refine (rootL_any B n cb A2 c2 b _ (HT.out _ b6) lb).mono ?_
      rintro e w7 ⟨rfl, hb7⟩
      rw [RB.out]
      have la := la.below hb7
      have lb := lb.below hb7
      have b7 := b6.trans (hb7.mono b6.size)
      have h7 := h6.below hb7 h6.lt
      have k8b := k8b.below hb7 k8b.lt
      have k9b := k9b.below hb7 k9b.lt
      refine hK.out _ _ hb7 ?_
      clear hK K
      try simp only [List.setIfInBounds_toArray, List.set_cons_zero, List.set_cons_succ]
      refine reg_call (i := 9) rfl (by kernel_rfl) (by rfl) fun K hK => ?_
      go_simp
      refine (check_not m n ra rb C lp cp ps _ (HT.out _ b7) hl40 ZA.out ZB.out HLP.out (hC.below b7) hlpc hcp HOK.out).mono ?_
      rintro e w9 ⟨z, hz, rfl, hb9⟩
      have la := la.below hb9
      have lb := lb.below hb9
      have b9 := b7.trans (hb9.mono b7.size)
      have h9 := h7.below hb9 h7.lt
      have k8b := k8b.below hb9 k8b.lt
      have k9b := k9b.below hb9 k9b.lt
      have hz1 : (z == 0) = false := by simpa using hz
      have hz2 : ¬ z = 0 := hz
      refine hK.out _ _ hb9 ?_
      clear hK K
      try simp only [List.setIfInBounds_toArray, List.set_cons_zero, List.set_cons_succ]
      refine reg_take (i := 10) (d := some 29) (v := (.bool true)) rfl rfl (by kernel_rfl) (by kernel_rfl) (by kernel_rfl) (fun _ _ _ h => h) (by rfl) (by intro w' hSw; go_simp) ?_
      try simp only [Act.put, List.setIfInBounds_toArray, List.set_cons_zero, List.set_cons_succ]
      refine wpAnyH_done (by kernel_rfl) ?_ _
      go_wp2_with (refine wpList_storeB rfl rfl 29 (.tmp 6) (.tmp 30) rfl SealW.clashTy w.heap.size rfl [.slice none 0 0, .slice none 0 0] rfl 29 _ h9 rfl rfl slices_one ?_; intro x1 k1 o1)
      have b10 := o1.below _ _ b9 (Nat.le_refl _)
      rw [HNO.out]
      exact bodyPost_ret (v := .tuple #[.agg #[.slice none 0 0, .slice none 0 0], .bool false]) (results_cellA2 rfl SealW.clashTy _ _ w.heap.size 29 [.slice none 0 0, .slice none 0 0] rfl k1 rfl _ rfl) rfl
        ⟨none, 0, 0, none, 0, 0, false, rfl, TC.none_ _ _, b10⟩
end Go.Proofs.YtihkfomldbjpoaaDoor.ClW

/- clash: the code's contracts: Leaf, Two, Posts, Head, Cons. -/


/- tree: siblings, Path. -/
namespace Go.Proofs.YtihkfomldbjpoaaDoor.TrW
open Go.RowKit TreeW
open ShaW Sha
set_option maxRecDepth 1000000 in
set_option maxHeartbeats 2000000 in
theorem siblings_any : ∀ (m : Nat) (A : Option Addr) (l c : Nat) (ss : List ByteArray) (i : Nat) (_hm : l ≤ m) (w : World) (_hT : Tab w) (_hl : ss.length = l) (_hs : Sl w A (scells ss)) (_hd : Digs ss) (_hi : i < l) (_hlc : l ≤ c) (_hl40 : l ≤ 1099511627776),
    Calls Tryd.prog 64 #[.slice A l c, .int .i64 (i : Int)] w fun e w' => ∃ v, e = .returned v ∧ OwS w.heap.size w' v (path nd ed ss i) ∧ Below w.heap.size w w' := by
  intro m
  induction m with
  | zero => intro A l c ss i hm w hT hl hs hd hi; omega
  | succ m ih =>
    intro A l c ss i hm w hT hl hs hd hi hlc hl40
    by_cases h2 : l < 2
    · have HPA : Hid (path nd ed ss i = []) := path_one nd ed ss i (by omega)
      clear hl hs hd ih
      go_enter Tryd.func64, Tryd.ntmps64
      go_wp2_with fail
      refine (split_out (l : Int) _ (.inl (by omega))).mono ?_
      rintro e w1 ⟨rfl, rfl⟩
      go_wp2_with fail
      go_ret
      exact ⟨_, rfl, by rw [HPA.out]; exact OwS.nil _ _, Below.refl _ _⟩
    obtain ⟨k, q, c2, A2, hk, k1, kl, kq, q1, qc, cc, tk, dq, sP, sQ, hto, hfr⟩ := halves (c := c) hl hs (by omega) hlc
    have HK := Lib.hid hk
    have HP := Lib.hid tk
    have HQ := Lib.hid dq
    have HTO := Lib.hid hto
    have HFR := Lib.hid hfr
    have HD := Lib.hid hd
    have hpos := hT.pos
    have HT := Lib.hid (fun W (hb : Below w.heap.size w W) => hT.below hb hpos)
    have b0 : Below w.heap.size w w.drew := (Below.refl _ _).drew
    have hne : ((k : Int) == 0) = false := by have : ¬ (k : Int) = 0 := by omega
                                              simpa using this
    have HPT := path_two nd ed ss i (by omega)
    rw [hl, ← hk] at HPT
    clear hl hs hd hT hpos hk tk dq hto hfr
    by_cases hik : i < k
    · rw [if_pos hik] at HPT
      have HPA := Lib.hid HPT
      have k5 : (i : Int) < (k : Int) := by omega
      clear HPT
      go_enter Tryd.func64, Tryd.ntmps64
      go_wp2_with fail
      refine (split_in l _ (by omega) hl40).mono ?_
      rintro e w1 ⟨rfl, rfl⟩
      rw [← HK.out]
      go_wp2_with fail
      refine regB_begin (w.heap.size) (by kernel_rfl) ?_
      change wpAnyH _ _ _ _ _ 12 #[false, false, false, false, false, false, false, false, false, false, false, false] _ _
      refine regB_take (i := 0) (d := some 29) (v := (.slice A l c)) rfl rfl (by kernel_rfl) (by kernel_rfl) (by kernel_rfl) (fun _ _ _ h => h) (by rfl) (by intro w' hSw; go_simp) ?_
      try simp only [Act.put, List.setIfInBounds_toArray, List.set_cons_zero, List.set_cons_succ]
      refine regB_take (i := 1) (d := some 30) (v := (.int .i64 (k : Int))) rfl rfl (by kernel_rfl) (by kernel_rfl) (by kernel_rfl) (fun _ _ _ h => h) (by rfl) (by intro w' hSw; go_simp) ?_
      try simp only [Act.put, List.setIfInBounds_toArray, List.set_cons_zero, List.set_cons_succ]
      refine regB_take (i := 2) (d := some 31) (v := (.slice A k c)) rfl rfl (by kernel_rfl) (by kernel_rfl) (by kernel_rfl) (fun _ _ _ h => h) (by rfl) (by intro w' hSw; have h9 := HTO.out w'; go_simp) ?_
      try simp only [Act.put, List.setIfInBounds_toArray, List.set_cons_zero, List.set_cons_succ]
      refine regB_take (i := 3) (d := some 32) (v := (.int .i64 (i : Int))) rfl rfl (by kernel_rfl) (by kernel_rfl) (by kernel_rfl) (fun _ _ _ h => h) (by rfl) (by intro w' hSw; go_simp) ?_
      try simp only [Act.put, List.setIfInBounds_toArray, List.set_cons_zero, List.set_cons_succ]
      refine regB_take (i := 5) (d := some 34) (v := (.slice A l c)) rfl rfl (by kernel_rfl) (by kernel_rfl) (by kernel_rfl) (fun _ _ _ h => h) (by rfl) (by intro w' hSw; go_simp) ?_
      try simp only [Act.put, List.setIfInBounds_toArray, List.set_cons_zero, List.set_cons_succ]
      refine regB_take (i := 6) (d := some 35) (v := (.int .i64 (k : Int))) rfl rfl (by kernel_rfl) (by kernel_rfl) (by kernel_rfl) (fun _ _ _ h => h) (by rfl) (by intro w' hSw; go_simp) ?_
      try simp only [Act.put, List.setIfInBounds_toArray, List.set_cons_zero, List.set_cons_succ]
      refine regB_take (i := 7) (d := some 36) (v := (.slice A2 q c2)) rfl rfl (by kernel_rfl) (by kernel_rfl) (by kernel_rfl) (fun _ _ _ h => h) (by rfl) (by intro w' hSw; have h9 := HFR.out w'; go_simp) ?_
      try simp only [Act.put, List.setIfInBounds_toArray, List.set_cons_zero, List.set_cons_succ]
      refine regB_call (i := 4) rfl (by kernel_rfl) (by rfl) fun K hK => ?_
      go_simp
      refine (ih A k c (ss.take k) i (by omega) _ (HT.out _ b0) HP.out (sP.below b0) (HD.out.take k) (by omega) (by omega) (by omega)).mono ?_
      rintro e w2 ⟨v2, rfl, hown2, hb2⟩
      have hown2 := hown2.base b0.size
      have b2 := b0.trans (hb2.mono b0.size)
      refine hK.out _ _ (hb2.mono b0.size) ?_
      clear hK K
      try simp only [List.setIfInBounds_toArray, List.set_cons_zero, List.set_cons_succ]
      refine regB_call (i := 8) rfl (by kernel_rfl) (by rfl) fun K hK => ?_
      go_simp
      refine (root_any A2 q c2 (ss.drop k) _ (HT.out _ b2) HQ.out (sQ.below b2) (HD.out.drop k) (by omega)).mono ?_
      rintro e w3 ⟨rfl, hb3⟩
      have b3 := b2.trans (hb3.mono b2.size)
      have hown3 := hown2.below hb3
      clear hown2
      refine hK.out _ _ (hb3.mono b2.size) ?_
      clear hK K
      try simp only [List.setIfInBounds_toArray, List.set_cons_zero, List.set_cons_succ]
      refine regB_call (i := 9) rfl (by kernel_rfl) (by rfl) fun K hK => ?_
      go_simp
      have b4 := b3.alloc b3.size (.cells #[.string (rt (ss.drop k))] 9)
      refine hK.out _ _ ((Below.refl _ _).alloc b3.size _) ?_
      clear hK K
      try simp only [List.setIfInBounds_toArray, List.set_cons_zero, List.set_cons_succ]
      refine regB_call (i := 10) rfl (by kernel_rfl) (by rfl) fun K hK => ?_
      obtain ⟨P0, hP0⟩ : ∃ P0, P0 = path nd ed (ss.take k) i := ⟨_, rfl⟩
      rw [← hP0] at hown3
      obtain ⟨p, hp⟩ : ∃ p, p = P0.length := ⟨_, rfl⟩
      have hp40 : p ≤ l := by rw [hp, hP0]; exact Nat.le_trans (path_le (ss.take k) i) (by rw [HP.out]; omega)
      have hown4 : w3.ownsRow w.heap.size 9 1 v2 p (scells P0) := by rw [hp]; exact hown3
      refine oper_app (some 39) rfl (.tmp 33) (.tmp 38) 24 rfl strsTy w.heap.size v2 p (scells P0) rfl (hown4.alloc _) (some ⟨w3.heap.size, 0, none⟩) 1 1 (scells [(rt (ss.drop k))]) rfl rfl (new_str w3 _) (scells_one _) (by omega) b4.size ?_
      intro v5 w5 hown5 hgr5 hbl5
      have b5 := below_app b4 hgr5 (hown4.alloc _) (Nat.le_refl _) b4.size
      try simp only [Act.put]
      refine hK.out _ _ (below_app (Below.refl _ _) hgr5 (hown4.alloc _) (Nat.le_refl _) b4.size) ?_
      clear hK K
      try simp only [List.setIfInBounds_toArray, List.set_cons_zero, List.set_cons_succ]
      refine regB_take (i := 11) (d := some 4) (v := v5) rfl rfl (by kernel_rfl) (by kernel_rfl) (by kernel_rfl) (fun _ _ _ h => h) (by rfl) (by intro w' hSw; go_simp) ?_
      try simp only [Act.put, List.setIfInBounds_toArray, List.set_cons_zero, List.set_cons_succ]
      refine wpAnyH_done (by kernel_rfl) ?_ _
      have hown6 := snoc_ownS hp hown5
      clear hown3 hown4 hown5 hgr5 hbl5 b4 b3 b2 hb2 hb3 b0 hp hp40
      go_wp2_with fail
      go_ret
      refine ⟨v5, rfl, ?_, b5⟩
      rw [HPA.out, ← hP0]; exact hown6

    · rw [if_neg hik] at HPT
      obtain ⟨r, hr⟩ : ∃ r, i - k = r := ⟨_, rfl⟩
      rw [hr] at HPT
      have k6 : (i : Int) - (k : Int) = (r : Int) := by omega
      have k7 : IntKind.i64.wrap (r : Int) = (r : Int) := IntWalk.i64_in _ (by omega)
      have HPA := Lib.hid HPT
      have k5 : ¬ (i : Int) < (k : Int) := by omega
      clear HPT
      go_enter Tryd.func64, Tryd.ntmps64
      go_wp2_with fail
      refine (split_in l _ (by omega) hl40).mono ?_
      rintro e w1 ⟨rfl, rfl⟩
      rw [← HK.out]
      go_wp2_with fail
      refine regB_begin (w.heap.size) (by kernel_rfl) ?_
      change wpAnyH _ _ _ _ _ 14 #[false, false, false, false, false, false, false, false, false, false, false, false, false, false] _ _
      refine regB_take (i := 0) (d := some 9) (v := (.slice A l c)) rfl rfl (by kernel_rfl) (by kernel_rfl) (by kernel_rfl) (fun _ _ _ h => h) (by rfl) (by intro w' hSw; go_simp) ?_
      try simp only [Act.put, List.setIfInBounds_toArray, List.set_cons_zero, List.set_cons_succ]
      refine regB_take (i := 1) (d := some 10) (v := (.int .i64 (k : Int))) rfl rfl (by kernel_rfl) (by kernel_rfl) (by kernel_rfl) (fun _ _ _ h => h) (by rfl) (by intro w' hSw; go_simp) ?_
      try simp only [Act.put, List.setIfInBounds_toArray, List.set_cons_zero, List.set_cons_succ]
      refine regB_take (i := 2) (d := some 11) (v := (.slice A2 q c2)) rfl rfl (by kernel_rfl) (by kernel_rfl) (by kernel_rfl) (fun _ _ _ h => h) (by rfl) (by intro w' hSw; have h9 := HFR.out w'; go_simp) ?_
      try simp only [Act.put, List.setIfInBounds_toArray, List.set_cons_zero, List.set_cons_succ]
      refine regB_take (i := 3) (d := some 12) (v := (.int .i64 (i : Int))) rfl rfl (by kernel_rfl) (by kernel_rfl) (by kernel_rfl) (fun _ _ _ h => h) (by rfl) (by intro w' hSw; go_simp) ?_
      try simp only [Act.put, List.setIfInBounds_toArray, List.set_cons_zero, List.set_cons_succ]
      refine regB_take (i := 4) (d := some 13) (v := (.int .i64 (k : Int))) rfl rfl (by kernel_rfl) (by kernel_rfl) (by kernel_rfl) (fun _ _ _ h => h) (by rfl) (by intro w' hSw; go_simp) ?_
      try simp only [Act.put, List.setIfInBounds_toArray, List.set_cons_zero, List.set_cons_succ]
      refine regB_take (i := 5) (d := some 14) (v := (.int .i64 (r : Int))) rfl rfl (by kernel_rfl) (by kernel_rfl) (by kernel_rfl) (fun _ _ _ h => h) (by rfl) (by intro w' hSw; go_simp) ?_
      try simp only [Act.put, List.setIfInBounds_toArray, List.set_cons_zero, List.set_cons_succ]
      refine regB_take (i := 7) (d := some 16) (v := (.slice A l c)) rfl rfl (by kernel_rfl) (by kernel_rfl) (by kernel_rfl) (fun _ _ _ h => h) (by rfl) (by intro w' hSw; go_simp) ?_
      try simp only [Act.put, List.setIfInBounds_toArray, List.set_cons_zero, List.set_cons_succ]
      refine regB_take (i := 8) (d := some 17) (v := (.int .i64 (k : Int))) rfl rfl (by kernel_rfl) (by kernel_rfl) (by kernel_rfl) (fun _ _ _ h => h) (by rfl) (by intro w' hSw; go_simp) ?_
      try simp only [Act.put, List.setIfInBounds_toArray, List.set_cons_zero, List.set_cons_succ]
      refine regB_take (i := 9) (d := some 18) (v := (.slice A k c)) rfl rfl (by kernel_rfl) (by kernel_rfl) (by kernel_rfl) (fun _ _ _ h => h) (by rfl) (by intro w' hSw; have h9 := HTO.out w'; go_simp) ?_
      try simp only [Act.put, List.setIfInBounds_toArray, List.set_cons_zero, List.set_cons_succ]
      refine regB_call (i := 6) rfl (by kernel_rfl) (by rfl) fun K hK => ?_
      go_simp
      refine (ih A2 q c2 (ss.drop k) r (by omega) _ (HT.out _ b0) HQ.out (sQ.below b0) (HD.out.drop k) (by omega) (by omega) (by omega)).mono ?_
      rintro e w2 ⟨v2, rfl, hown2, hb2⟩
      have hown2 := hown2.base b0.size
      have b2 := b0.trans (hb2.mono b0.size)
      refine hK.out _ _ (hb2.mono b0.size) ?_
      clear hK K
      try simp only [List.setIfInBounds_toArray, List.set_cons_zero, List.set_cons_succ]
      refine regB_call (i := 10) rfl (by kernel_rfl) (by rfl) fun K hK => ?_
      go_simp
      refine (root_any A k c (ss.take k) _ (HT.out _ b2) HP.out (sP.below b2) (HD.out.take k) (by omega)).mono ?_
      rintro e w3 ⟨rfl, hb3⟩
      have b3 := b2.trans (hb3.mono b2.size)
      have hown3 := hown2.below hb3
      clear hown2
      refine hK.out _ _ (hb3.mono b2.size) ?_
      clear hK K
      try simp only [List.setIfInBounds_toArray, List.set_cons_zero, List.set_cons_succ]
      refine regB_call (i := 11) rfl (by kernel_rfl) (by rfl) fun K hK => ?_
      go_simp
      have b4 := b3.alloc b3.size (.cells #[.string (rt (ss.take k))] 9)
      refine hK.out _ _ ((Below.refl _ _).alloc b3.size _) ?_
      clear hK K
      try simp only [List.setIfInBounds_toArray, List.set_cons_zero, List.set_cons_succ]
      refine regB_call (i := 12) rfl (by kernel_rfl) (by rfl) fun K hK => ?_
      obtain ⟨P0, hP0⟩ : ∃ P0, P0 = path nd ed (ss.drop k) r := ⟨_, rfl⟩
      rw [← hP0] at hown3
      obtain ⟨p, hp⟩ : ∃ p, p = P0.length := ⟨_, rfl⟩
      have hp40 : p ≤ l := by rw [hp, hP0]; exact Nat.le_trans (path_le (ss.drop k) r) (by rw [HQ.out]; omega)
      have hown4 : w3.ownsRow w.heap.size 9 1 v2 p (scells P0) := by rw [hp]; exact hown3
      refine oper_app (some 21) rfl (.tmp 15) (.tmp 20) 24 rfl strsTy w.heap.size v2 p (scells P0) rfl (hown4.alloc _) (some ⟨w3.heap.size, 0, none⟩) 1 1 (scells [(rt (ss.take k))]) rfl rfl (new_str w3 _) (scells_one _) (by omega) b4.size ?_
      intro v5 w5 hown5 hgr5 hbl5
      have b5 := below_app b4 hgr5 (hown4.alloc _) (Nat.le_refl _) b4.size
      try simp only [Act.put]
      refine hK.out _ _ (below_app (Below.refl _ _) hgr5 (hown4.alloc _) (Nat.le_refl _) b4.size) ?_
      clear hK K
      try simp only [List.setIfInBounds_toArray, List.set_cons_zero, List.set_cons_succ]
      refine regB_take (i := 13) (d := some 4) (v := v5) rfl rfl (by kernel_rfl) (by kernel_rfl) (by kernel_rfl) (fun _ _ _ h => h) (by rfl) (by intro w' hSw; go_simp) ?_
      try simp only [Act.put, List.setIfInBounds_toArray, List.set_cons_zero, List.set_cons_succ]
      refine wpAnyH_done (by kernel_rfl) ?_ _
      have hown6 := snoc_ownS hp hown5
      clear hown3 hown4 hown5 hgr5 hbl5 b4 b3 b2 hb2 hb3 b0 hp hp40
      go_wp2_with fail
      go_ret
      refine ⟨v5, rfl, ?_, b5⟩
      rw [HPA.out, ← hP0]; exact hown6

set_option maxHeartbeats 1000000 in
theorem path_ok (A : Option Addr) (l c : Nat) (ss : List ByteArray) (i : Nat) (w : World) (hT : Tab w) (hl : ss.length = l) (hs : Sl w A (scells ss)) (hd : Digs ss) (hi : i < l) (hlc : l ≤ c) (hl40 : l ≤ 1099511627776) :
    Calls Tryd.prog 29 #[.slice A l c, .int .i64 (i : Int)] w fun e w' => ∃ v, e = .returned (.tuple #[v, .int .i64 0]) ∧ OwS w.heap.size w' v (path nd ed ss i) ∧ Below w.heap.size w w' := by
  have HDY : Hid (decide (Digs ss) = true) := decide_eq_true hd
  have HL := Lib.hid hl
  have HD := Lib.hid hd
  have k1 : ¬ (i : Int) < 0 := by omega
  have k2 : ¬ (i : Int) ≥ (l : Int) := by omega
  clear hl hd
  go_enter Tryd.func29, Tryd.ntmps29
  go_wp2_with fail
  refine (digests_any A l c ss _ HL.out hs (by omega)).mono ?_
  rintro e w1 ⟨rfl, rfl⟩
  rw [HDY.out]
  go_wp2_with fail
  refine (siblings_any l A l c ss i (Nat.le_refl _) _ hT HL.out hs HD.out hi hlc hl40).mono ?_
  rintro e w1 ⟨v, rfl, hown, hb1⟩
  go_wp2_with fail
  go_ret2
  exact ⟨v, rfl, hown, hb1⟩
set_option maxHeartbeats 1000000 in
theorem path_bad (A : Option Addr) (l c : Nat) (ss : List ByteArray) (i : Int) (w : World) (hl : ss.length = l) (hs : Sl w A (scells ss)) (hl40 : l ≤ 1099511627776) (h : i < 0 ∨ (l : Int) ≤ i ∨ ¬ Digs ss) :
    Calls Tryd.prog 29 #[.slice A l c, .int .i64 i] w fun e w' => e = .returned (.tuple #[.slice none 0 0, .int .i64 1]) ∧ w = w' := by
  by_cases h1 : i < 0
  · clear h
    go_enter Tryd.func29, Tryd.ntmps29
    go_wp2_with fail
    go_ret2
    exact ⟨rfl, rfl⟩
  by_cases h2 : i ≥ (l : Int)
  · clear h
    go_enter Tryd.func29, Tryd.ntmps29
    go_wp2_with fail
    go_ret2
    exact ⟨rfl, rfl⟩
  have hd : ¬ Digs ss := by
    rcases h with h | h | h
    · exact absurd h h1
    · exact absurd h h2
    · exact h
  have HDN : Hid (decide (Digs ss) = false) := decide_eq_false hd
  have HL := Lib.hid hl
  clear hl hd h
  go_enter Tryd.func29, Tryd.ntmps29
  go_wp2_with fail
  refine (digests_any A l c ss _ HL.out hs (by omega)).mono ?_
  rintro e w1 ⟨rfl, rfl⟩
  rw [HDN.out]
  go_wp2_with fail
  go_ret2
  exact ⟨rfl, rfl⟩
end Go.Proofs.YtihkfomldbjpoaaDoor.TrW

/- What is known of clashes. -/
namespace Go.Proofs.YtihkfomldbjpoaaDoor.ClW
open Go.RowKit TreeW ConsW TrW ClashW CoW
open ShaW Sha
theorem path2 (a b : ByteArray) : path nd ed [a, b] 0 = [b] := rfl
/-- A store of what was told, into a variable of the call's own. -/
theorem kept (W X : World) (t : TypeId) (cs : Array Value) (ho : Only W.heap.size (W.alloc (.cells cs t)) X) : Below W.heap.size W X := ho.below _ _ ((Below.refl _ _).alloc (Nat.le_refl _) _) (Nat.le_refl _)
set_option maxRecDepth 1000000 in
set_option maxHeartbeats 4000000 in
theorem knows_any (w : World) (hT : Tab w) : Calls Tryd.prog 11 #[] w fun e w' => e = .returned (.bool true) ∧ Below w.heap.size w w' := by
  have hpos := hT.pos
  have HT := Lib.hid (fun W (hb : Below w.heap.size w W) => hT.below hb hpos)
  obtain ⟨W1, hW1⟩ : ∃ W, w.alloc (.cells #[.int .u8 1] 5) = W := ⟨_, rfl⟩
  obtain ⟨W2, hW2⟩ : ∃ W, W1.alloc (.cells #[.int .u8 2] 5) = W := ⟨_, rfl⟩
  obtain ⟨G, hG⟩ : ∃ G, w.heap.size = G := ⟨_, rfl⟩
  have z1 : W1.heap.size = G + 1 := by rw [← hW1, ← hG]; simp
  have z2 : W2.heap.size = G + 2 := by rw [← hW2]; simp [z1]
  have b1 : Below w.heap.size w W1 := by rw [← hW1]; exact (Below.refl _ _).alloc (Nat.le_refl _) _
  have b12 : Below W1.heap.size W1 W2 := by rw [← hW2]; exact (Below.refl _ _).alloc (Nat.le_refl _) _
  have s1 : Sl W1 (some ⟨G, 0, none⟩) (bcells [1]) := by rw [← hW1]; exact lit_sl w 1 G hG.symm
  have s2 : Sl W2 (some ⟨G + 1, 0, none⟩) (bcells [2]) := by rw [← hW2]; exact lit_sl W1 2 _ z1.symm
  have s1 := s1.below b12
  have b2 : Below w.heap.size w W2 := b1.trans (b12.mono b1.size)
  have b23 : Below W2.heap.size W2 (W2.alloc (.cells #[.slice (some ⟨G, 0, none⟩) 1 1, .slice (some ⟨G + 1, 0, none⟩) 1 1] 23)) := (Below.refl _ _).alloc (Nat.le_refl _) _
  have k3 : Sl (W2.alloc (.cells #[.slice (some ⟨G, 0, none⟩) 1 1, .slice (some ⟨G + 1, 0, none⟩) 1 1] 23)) (some ⟨G + 2, 0, none⟩) [.slice (some ⟨G, 0, none⟩) 1 1, .slice (some ⟨G + 1, 0, none⟩) 1 1] :=
    Sl.of_at_all (At.new_ W2 _ 23 [.slice (some ⟨G, 0, none⟩) 1 1, .slice (some ⟨G + 1, 0, none⟩) 1 1] z2.symm)
  have K3 := Lib.hid k3
  have R3 : Hid (RowsAt (W2.alloc (.cells #[.slice (some ⟨G, 0, none⟩) 1 1, .slice (some ⟨G + 1, 0, none⟩) 1 1] 23)) [.slice (some ⟨G, 0, none⟩) 1 1, .slice (some ⟨G + 1, 0, none⟩) 1 1] [[1], [2]]) := by
    refine ⟨rfl, fun j hj => ?_⟩
    match j, hj with
    | 0, _ => exact ⟨_, 1, rfl, s1.below b23, by simp, by simp [maxLen]⟩
    | 1, _ => exact ⟨_, 1, rfl, s2.below b23, by simp, by simp [maxLen]⟩
    | j + 2, h => simp at h; omega
  have b3 := b2.trans (b23.mono b2.size)
  have B3 := Lib.hid b3
  have hone : ∀ x ∈ ([[1], [2]] : List (List UInt8)), x.length ≤ 100000000000 := by intro x hx; simp at hx; rcases hx with rfl | rfl <;> simp
  have HONE := Lib.hid hone
  have HLF : Hid (lcx [[1], [2]] 0 [1] (path nd ed [lf [1], lf [2]] 0) = none) := lcx_honest (bss := [[1], [2]]) (i := 0) (by simp)
  have HTW : Hid (tcx [[1], [2]] [[1], [2]] = none) := tcx_same _
  clear hT s1 s2 k3 b23 b12 b1 b2 b3 hpos hone
  go_enter Tryd.func11, Tryd.ntmps11
  go_wp2_with fail
  refine (TrW.leaves_any (some ⟨G + 2, 0, none⟩) 2 2 _ [[1], [2]] _ (HT.out _ B3.out) rfl K3.out R3.out (by omega) (fun x hx => Nat.le_trans (HONE.out x hx) (by omega))).mono ?_
  rintro e w2 ⟨v, rfl, hown, hb2⟩
  have b2 := B3.out.trans (hb2.mono B3.out.size)
  have K4 := Lib.hid (K3.out.below hb2)
  have R4 := Lib.hid (R3.out.below hb2)
  clear hW1 hW2 z1 z2 K3 R3 hb2 B3
  have HD : Hid (Digs [lf [1], lf [2]]) := lf_digs [[1], [2]]
  have HL : Hid ([[1], [2]].map lf = [lf [1], lf [2]]) := rfl
  rw [HL.out] at hown
  obtain ⟨A1, c1, rfl, hs1, hc1, hm1, _⟩ := hown.slice
  have HC1 : Hid (2 ≤ c1) := hc1
  change Sl w2 A1 (scells _) at hs1
  rw [show [lf [1], lf [2]].length = 2 from rfl]
  clear hown hc1
  go_wp2_with fail
  refine (path_ok A1 2 c1 [lf [1], lf [2]] 0 _ (HT.out _ b2) rfl hs1 HD.out (by omega) HC1.out (by omega)).mono ?_
  rintro e w3 ⟨v3, rfl, hown3, hb3⟩
  have b3 := b2.trans (hb3.mono b2.size)
  have K5 := Lib.hid (K4.out.below hb3)
  have R5 := Lib.hid (R4.out.below hb3)
  obtain ⟨A3, c3, rfl, hs3, hc3, hm3, _⟩ := hown3.slice
  change Sl w3 A3 (scells _) at hs3
  rw [path2] at hc3 hs3 ⊢
  have HC3 : Hid (1 ≤ c3 ∧ c3 ≤ 9223372036854775807) := ⟨hc3, by unfold maxLen at hm3; omega⟩
  rw [show [lf [2]].length = 1 from rfl]
  clear hown3 hb3 hs1 hc3 hm3 K4 R4 HD
  have b34 : Below w3.heap.size w3 (w3.alloc (.cells #[.int .u8 1] 5)) := (Below.refl _ _).alloc (Nat.le_refl _) _
  have s4 : Sl (w3.alloc (.cells #[.int .u8 1] 5)) (some ⟨w3.heap.size, 0, none⟩) (bcells [1]) := lit_sl w3 1 _ rfl
  have b4 := b3.trans (b34.mono b3.size)
  have K6 := Lib.hid (K5.out.below b34)
  have R6 := Lib.hid (R5.out.below b34)
  have hs4 := hs3.below b34
  clear b34 K5 R5 hs3
  go_wp2_with fail
  refine (Leaf_any (some ⟨G + 2, 0, none⟩) 2 2 _ [[1], [2]] 0 (some ⟨w3.heap.size, 0, none⟩) 1 1 [1] A3 1 c3 [lf [2]] _ (HT.out _ b4) rfl K6.out R6.out (by omega) (by omega) HONE.out rfl s4 (by omega) (by omega) (by simp) rfl hs4 HC3.out.1 HC3.out.2).mono ?_
  rintro e w5 ⟨A5, n5, c5, B5, m5, d5, q5, rfl, t5, hb5⟩
  have b5 := b4.trans (hb5.mono b4.size)
  have K7 := Lib.hid (K6.out.below hb5)
  have R7 := Lib.hid (R6.out.below hb5)
  have hq5 : q5 = false := by
    have := t5.yes
    rw [← path2 (lf [1]) (lf [2]), HLF.out] at this; exact this
  subst hq5
  clear t5 hb5 s4 hs4 K6 R6 HLF
  have k5 : At (w5.alloc (.cells #[.slice none 0 0, .slice none 0 0] 29)) w5.heap.size 29 [.slice none 0 0, .slice none 0 0] := At.new_ w5 _ 29 _ rfl
  go_wp2_with (refine wpList_storeB rfl rfl 29 (.tmp 4) (.tmp 22) rfl SealW.clashTy w5.heap.size rfl [.slice A5 n5 c5, .slice B5 m5 d5] rfl 29 _ k5 rfl rfl slices_one ?_; intro x5 kx5 ox5)
  have bx5 := kept _ _ _ _ ox5
  have b6 := b5.trans (bx5.mono b5.size)
  have K8 := K7.out.below bx5
  have R8 := R7.out.below bx5
  clear K7 R7 kx5 ox5 bx5 k5
  refine (Two_any (some ⟨G + 2, 0, none⟩) 2 2 _ [[1], [2]] (some ⟨G + 2, 0, none⟩) 2 2 _ [[1], [2]] _ (HT.out _ b6) rfl K8 R8 rfl K8 R8 (by omega) (by omega) (by omega) (by omega) HONE.out HONE.out).mono ?_
  rintro e w7 ⟨A7, n7, c7, B7, m7, d7, q7, rfl, t7, hb7⟩
  have b7 := b6.trans (hb7.mono b6.size)
  have hq7 : q7 = false := by
    have := t7.yes
    rw [HTW.out] at this; exact this
  subst hq7
  clear t7 hb7 K8 R8 HTW
  have k7 : At (w7.alloc (.cells #[.slice none 0 0, .slice none 0 0] 29)) w7.heap.size 29 [.slice none 0 0, .slice none 0 0] := At.new_ w7 _ 29 _ rfl
  go_wp2_with (refine wpList_storeB rfl rfl 29 (.tmp 6) (.tmp 28) rfl SealW.clashTy w7.heap.size rfl [.slice A7 n7 c7, .slice B7 m7 d7] rfl 29 _ k7 rfl rfl slices_one ?_; intro x7 kx7 ox7)
  have bx7 := kept _ _ _ _ ox7
  go_ret
  exact ⟨rfl, b7.trans (bx7.mono b7.size)⟩
end Go.Proofs.YtihkfomldbjpoaaDoor.ClW

/- The statements' own Great of layer 8. -/
namespace Go.Proofs.YtihkfomldbjpoaaDoor.ClW
open Go.RowKit TreeW TrW ClashW
open ShaW Sha
/-- Rows of more than 300 bytes, or more than 25 of them. -/
def Grt8 (bs : List (List UInt8)) : Prop := 25 < bs.length ∨ ∃ s ∈ bs, 300 < s.length
theorem grt8_no {bs : List (List UInt8)} (h : ¬ Grt8 bs) : bs.length ≤ 25 ∧ ∀ s ∈ bs, s.length ≤ 300 := by
  refine ⟨Nat.le_of_not_lt fun h' => h (.inl h'), fun s hs => Nat.le_of_not_lt fun h' => h (.inr ⟨s, hs, h'⟩)⟩
instance (bs : List (List UInt8)) : Decidable (Grt8 bs) := by unfold Grt8; infer_instance
set_option maxHeartbeats 1000000 in
theorem great8_any (A : Option Addr) (l c : Nat) (vs : List Value) (bs : List (List UInt8)) (w : World) (hl : bs.length = l) (hA : Sl w A vs) (hR : RowsAt w vs bs) (hl63 : l ≤ 9223372036854775807) :
    Calls Tryd.prog 9 #[.slice A l c] w fun e w' => e = .returned (.bool (decide (Grt8 bs))) ∧ w = w' := by
  have HL := Lib.hid hl
  have HRL := Lib.hid hR.1
  have HR2 := Lib.hid hR.2
  clear hl hR
  go_enter Tryd.func9, Tryd.ntmps9
  go_wp2_with fail
  go_loop [3] (fun i => ∃ j : Nat, j ≤ l ∧ i = .int .i64 (j : Int) ∧ Hid (∀ s ∈ bs.take j, s.length ≤ 300)) (fun i => l - (intOf i).toNat)
  case atStart => exact ⟨0, by omega, rfl, fun x hx => by simp at hx⟩
  case round =>
    obtain ⟨j, hj, rfl, HK⟩ := hrel
    by_cases hlt : j < l
    · have hjb : j < bs.length := by rw [HL.out]; exact hlt
      obtain ⟨b, o, rfl, hblt, hcell⟩ := hA.get (j := j) (by rw [HRL.out]; exact hjb)
      obtain ⟨B, d, hv, hB, hBd, hd⟩ := HR2.out j hjb
      have hc0 := hcell j _ hv
      have HG : Hid (bs[j]? = some (bs.getD j [])) := by
        show _ = _
        simp [List.getD, hjb]
      obtain ⟨x, hx⟩ : ∃ x, bs.getD j [] = x := ⟨_, rfl⟩
      rw [hx] at hc0 HG hBd
      obtain ⟨q, hq⟩ : ∃ q, x.length = q := ⟨_, rfl⟩
      rw [hq] at hc0 hBd
      have HQ := Lib.hid hq
      clear hcell hv hB hx hq hjb
      by_cases h3 : 300 < q
      · have h1 : (300 : Int) < (q : Int) := by omega
        have HF : Hid (decide (Grt8 bs) = true) := decide_eq_true (.inr ⟨x, List.mem_of_getElem? HG.out, by rw [HQ.out]; exact h3⟩)
        clear h3
        go_wp2_with fail
        go_ret
        exact ⟨by rw [HF.out]; rfl, rfl⟩
      · have h1 : ¬ (300 : Int) < (q : Int) := by omega
        have HN : Hid (∀ y ∈ bs.take (j + 1), y.length ≤ 300) := by
          intro y hy
          rw [List.take_add_one, HG.out] at hy
          rcases List.mem_append.1 hy with hy | hy
          · exact HK.out y hy
          · simp only [Option.toList, List.mem_singleton] at hy; subst hy; rw [HQ.out]; omega
        clear h3
        go_wp2_with fail
        go_round
        case rel => exact ⟨j + 1, by omega, by go_num, HN⟩
        case measure => simp [intOf]; omega
    · have HA : Hid (∀ s ∈ bs, s.length ≤ 300) := by
        have := HK.out
        rwa [List.take_of_length_le (by rw [HL.out]; omega)] at this
      by_cases h3 : 25 < l
      · have h1 : (25 : Int) < (l : Int) := by omega
        have HF : Hid (decide (Grt8 bs) = true) := decide_eq_true (.inl (by rw [HL.out]; exact h3))
        clear h3
        go_wp2_with fail
        go_ret
        exact ⟨by rw [HF.out]; rfl, rfl⟩
      · have h1 : ¬ (25 : Int) < (l : Int) := by omega
        have HF : Hid (decide (Grt8 bs) = false) := decide_eq_false (by
          rintro (h | ⟨s, hs, h⟩)
          · rw [HL.out] at h; exact h3 h
          · have := HA.out s hs; omega)
        clear h3
        go_wp2_with fail
        go_ret
        exact ⟨by rw [HF.out]; rfl, rfl⟩
end Go.Proofs.YtihkfomldbjpoaaDoor.ClW

/- rubrickref08: Leaf. -/
namespace Go.Proofs.YtihkfomldbjpoaaDoor.ClW
open Go.RowKit TreeW ConsW TrW ClashW
open ShaW Sha
set_option maxRecDepth 1000000 in
set_option maxHeartbeats 4000000 in
theorem refLeaf8 : ∀ (f : Nat) (A : Option Addr) (l c : Nat) (vs : List Value) (bss : List (List UInt8)) (i : Nat) (B : Option Addr) (lb db : Nat) (lbs : List UInt8) (C : Option Addr) (lp cp : Nat) (ps : List ByteArray) (_hf : l ≤ f) (w : World)
    (_hl : bss.length = l) (_hA : Sl w A vs) (_hR : RowsAt w vs bss) (_hi : i < l) (_hlc : l ≤ c) (_hl40 : l ≤ 1099511627776) (_hbd : ∀ b ∈ bss, b.length ≤ 100000000000) (_hlb : lbs.length = lb) (_hB : Sl w B (bcells lbs)) (_hlb40 : lb ≤ 100000000000) (_hlbd : lb ≤ db) (_hdb : db ≤ 9223372036854775807)
    (_hlp : ps.length = lp) (_hC : Sl w C (scells ps)) (_hd : Digs ps) (_hlpc : lp ≤ cp) (_hcp : cp ≤ 9223372036854775807) (_hst : lp = steps i l),
    Calls Tryd.prog 14 #[.slice A l c, .int .i64 (i : Int), .slice B lb db, .slice C lp cp] w fun e w' => ∃ A' n' c' B' m' d' q, e = .returned (.tuple #[.agg #[.slice A' n' c', .slice B' m' d'], .bool q]) ∧ TC w.heap.size w' (lc bss i lbs ps) A' n' c' B' m' d' q ∧ Below w.heap.size w w' := by
  intro f
  induction f with
  | zero => intro A l c vs bss i B lb db lbs C lp cp ps hf w hl hA hR hi; omega
  | succ f ih =>
    intro A l c vs bss i B lb db lbs C lp cp ps hf w hl hA hR hi hlc hl40 hbd hlb hB hlb40 hlbd hdb hlp hC hd hlpc hcp hst
    have h0 : At (w.alloc (.cells #[.slice none 0 0, .slice none 0 0] 33)) w.heap.size 33 [.slice none 0 0, .slice none 0 0] := At.new_ w _ 33 _ rfl
    have b0 : Below w.heap.size w (w.alloc (.cells #[.slice none 0 0, .slice none 0 0] 33)) := (Below.refl _ _).alloc (Nat.le_refl _) _
    have HLB := Lib.hid hlb
    have HBD := Lib.hid hbd
    have HLB1 : Hid ((0 :: lbs).length = lb + 1) := by show _ = _; rw [List.length_cons, hlb]
    by_cases h1l : l = 1
    · subst h1l
      have HONE := Lib.hid (lc_one (i := i) (x := lbs) (p := ps) hl)
      obtain ⟨ba, oa, rfl, hblt, hcell⟩ := hA.get (j := 0) (by rw [hR.1]; omega)
      obtain ⟨R0, dq, hv, hR0, hRd, hdd⟩ := hR.2 0 (by omega)
      have hc0 : w.cell? ⟨ba, oa, none⟩ = some (.slice R0 (bss.getD 0 []).length dq) := hcell 0 _ hv
      have hr40 := hbd (bss.getD 0 []) (by simp [List.getD, show 0 < bss.length by omega])
      obtain ⟨r0, hr0⟩ : ∃ r0, bss.getD 0 [] = r0 := ⟨_, rfl⟩
      rw [hr0] at HONE hR0 hRd hc0 hr40
      obtain ⟨q0, hq0⟩ : ∃ q0, r0.length = q0 := ⟨_, rfl⟩
      rw [hq0] at hRd hc0 hr40
      have HQ0 := Lib.hid hq0
      have HQ1 : Hid ((0 :: r0).length = q0 + 1) := by show _ = _; rw [List.length_cons, hq0]
      have HCELL : Hid (∀ w', Below w.heap.size w w' → w'.cell? ⟨ba, oa, none⟩ = some (.slice R0 q0 dq)) := fun w' hb => (hb.cell (p := ⟨ba, oa, none⟩) hblt).trans hc0
      have hsz : w.heap.size + 1 ≤ (w.alloc (.cells #[.slice none 0 0, .slice none 0 0] 33)).drew.heap.size := by show _ ≤ (w.alloc _).heap.size; simp
      have b1 := b0.drew
      have h1 := h0.drew
      clear hl hA hR hbd hlb hlp hC hd hst hcell hv hc0 hr0 hq0 ih h0
      go_enter Tryd.func14, Tryd.ntmps14
      go_wp2_with fail
      refine regB_begin (w.heap.size) (by kernel_rfl) ?_
      change wpAnyH _ _ _ _ _ 11 #[false, false, false, false, false, false, false, false, false, false, false] _ _
      refine regB_take (i := 0) (d := some 22) (v := (.slice B lb db)) rfl rfl (by kernel_rfl) (by kernel_rfl) (by kernel_rfl) (fun _ _ _ h => h) (by rfl) (by intro w' hSw; go_simp) ?_
      try simp only [Act.put, List.setIfInBounds_toArray, List.set_cons_zero, List.set_cons_succ]
      refine regB_take (i := 2) (d := some 24) (v := (.slice (some ⟨ba, oa, none⟩) 1 c)) rfl rfl (by kernel_rfl) (by kernel_rfl) (by kernel_rfl) (fun _ _ _ h => h) (by rfl) (by intro w' hSw; go_simp) ?_
      try simp only [Act.put, List.setIfInBounds_toArray, List.set_cons_zero, List.set_cons_succ]
      refine regB_take (i := 3) (d := some 25) (v := (.pointer (some ⟨ba, oa, none⟩))) rfl rfl (by kernel_rfl) (by kernel_rfl) (by kernel_rfl) (fun _ _ _ h => h) (by rfl) (by intro w' hSw; go_simp) ?_
      try simp only [Act.put, List.setIfInBounds_toArray, List.set_cons_zero, List.set_cons_succ]
      refine regB_take (i := 4) (d := some 26) (v := (.slice R0 q0 dq)) rfl rfl (by kernel_rfl) (by kernel_rfl) (by kernel_rfl) (fun _ _ _ h => h) (by rfl) (by intro w' hSw; have h9 := HCELL.out w' (b1.trans hSw); go_simp) ?_
      try simp only [Act.put, List.setIfInBounds_toArray, List.set_cons_zero, List.set_cons_succ]
      refine regB_call (i := 1) rfl (by kernel_rfl) (by rfl) fun K hK => ?_
      go_simp
      refine (SealW.refBytes_new 0 B lb db lbs _ HLB.out (hB.below b1) (by omega)).mono ?_
      rintro e w2 ⟨A2, c2, rfl, s2, k2, m2, a2, hb2⟩
      have b2 := b1.trans (hb2.mono b1.size)
      have a2b : ∀ b o s, A2 = some ⟨b, o, s⟩ → w.heap.size + 1 ≤ b := fun b o s h => Nat.le_trans hsz (a2 b o s h)
      have h2 := h1.below hb2 h1.lt
      refine hK.out _ _ (hb2.mono b1.size) ?_
      clear hK K
      try simp only [List.setIfInBounds_toArray, List.set_cons_zero, List.set_cons_succ]
      refine regB_call (i := 5) rfl (by kernel_rfl) (by rfl) fun K hK => ?_
      go_simp
      refine (SealW.refBytes_new 0 R0 q0 dq r0 _ HQ0.out (hR0.below b2) (by omega)).mono ?_
      rintro e w3 ⟨A3, c3, rfl, s3, k3, m3, a3, hb3⟩
      have b3 := b2.trans (hb3.mono b2.size)
      have a3b : ∀ b o s, A3 = some ⟨b, o, s⟩ → w.heap.size + 1 ≤ b := fun b o s h => Nat.le_trans (Nat.le_trans hsz hb2.size) (a3 b o s h)
      have h3 := h2.below hb3 h2.lt
      have s23 := s2.below hb3
      clear s2 h2
      refine hK.out _ _ (hb3.mono b2.size) ?_
      clear hK K
      try simp only [List.setIfInBounds_toArray, List.set_cons_zero, List.set_cons_succ]
      refine regB_call (i := 6) rfl (by kernel_rfl) (by rfl) fun K hK => ?_
      go_simp
      refine (refBetween_any (w.heap.size + 1) A2 (lb + 1) c2 (0 :: lbs) A3 (q0 + 1) c3 (0 :: r0) _ HLB1.out s23 HQ1.out s3 (by omega) (by omega) k2 m2 k3 m3 a2b a3b).mono ?_
      rintro e w5 ⟨A5, n5, c5, B5, m5, d5, q5, rfl, t5, hb5⟩
      have b5 := b3.trans (hb5.mono b3.size)
      have h5 := h3.below hb5 h3.lt
      clear h3 s23 s3
      refine hK.out _ _ (hb5.mono b3.size) ?_
      clear hK K
      try simp only [List.setIfInBounds_toArray, List.set_cons_zero, List.set_cons_succ]
      refine regB_take (i := 7) (d := some 29) (v := (.agg #[.slice A5 n5 c5, .slice B5 m5 d5])) rfl rfl (by kernel_rfl) (by kernel_rfl) (by kernel_rfl) (fun _ _ _ h => h) (by rfl) (by intro w' hSw; go_simp) ?_
      try simp only [Act.put, List.setIfInBounds_toArray, List.set_cons_zero, List.set_cons_succ]
      refine regB_take (i := 8) (d := some 30) (v := (.bool q5)) rfl rfl (by kernel_rfl) (by kernel_rfl) (by kernel_rfl) (fun _ _ _ h => h) (by rfl) (by intro w' hSw; go_simp) ?_
      try simp only [Act.put, List.setIfInBounds_toArray, List.set_cons_zero, List.set_cons_succ]
      refine regB_call (i := 9) rfl (by kernel_rfl) (by rfl) fun K hK => ?_
      refine oper_storeB rfl 33 (.tmp 8) (.tmp 29) rfl clTy w.heap.size rfl [.slice A5 n5 c5, .slice B5 m5 d5] rfl 33 _ h5 rfl rfl slices_one ?_
      intro x6 k6 o6
      have b6 := o6.below _ _ b5 (Nat.le_refl _)
      have t6 := t5.only o6 (by omega)
      refine hK.out _ _ (o6.below _ _ (Below.refl _ _) (Nat.le_refl _)) ?_
      clear hK K
      try simp only [List.setIfInBounds_toArray, List.set_cons_zero, List.set_cons_succ]
      refine regB_take (i := 10) (d := some 9) (v := (.bool q5)) rfl rfl (by kernel_rfl) (by kernel_rfl) (by kernel_rfl) (fun _ _ _ h => h) (by rfl) (by intro w' hSw; go_simp) ?_
      try simp only [Act.put, List.setIfInBounds_toArray, List.set_cons_zero, List.set_cons_succ]
      refine wpAnyH_done (by kernel_rfl) ?_ _
      go_wp2_with fail
      exact bodyPost_ret (v := .tuple #[.agg #[.slice A5 n5 c5, .slice B5 m5 d5], .bool q5]) (results_cellA2 rfl clTy _ _ w.heap.size 33 [.slice A5 n5 c5, .slice B5 m5 d5] rfl k6 rfl _ rfl) rfl ⟨A5, n5, c5, B5, m5, d5, q5, rfl, by rw [HONE.out]; exact t6.base (by omega), b6⟩

    obtain ⟨p, hl1, hst2⟩ : ∃ p, lp = 1 + p ∧ 1 + p = steps i l := by
      obtain ⟨sa, sb, _, _⟩ := split_spec (n := l) (by omega)
      by_cases hik : i < split l
      · exact ⟨steps i (split l), by rw [hst, steps_left (by omega) hik], (steps_left (by omega) hik).symm⟩
      · exact ⟨steps (i - split l) (l - split l), by rw [hst, steps_right (by omega) hik], (steps_right (by omega) hik).symm⟩
    obtain ⟨q0, d, b, o, rfl, hq, rfl, hblt, hcell, hsq, hdq, hd32, hto⟩ := path_parts hlp hC hlpc hl1 hd
    have sspec := split_spec (n := l) (by omega)
    obtain ⟨k, hk⟩ : ∃ k, k = split l := ⟨_, rfl⟩
    rw [← hk] at sspec
    obtain ⟨k1, kl, _, _⟩ := sspec
    obtain ⟨q, c2, A2, kq, qc, cc, tk, dq, vT, vD, RT, RD, htoV, hfrV⟩ := halvesV (c := c) hl hA hR kl hlc
    have HTR := Lib.hid tk
    have HDR := Lib.hid dq
    have HTO := Lib.hid hto
    have hcd := hcell _ b0
    have HQ := Lib.hid hq
    have HDQ := Lib.hid hdq
    have HD32 := Lib.hid hd32
    have HK := Lib.hid hk
    have HTL : Hid ((tp (bss.map lf)).length = 65) := tp_len (lf_digs bss)
    have HLL : Hid ((bss.map lf).length = l) := by show _ = _; rw [List.length_map, hl]
    have hne1 : ((l : Int) == 1) = false := by simpa using (show ¬ (l : Int) = 1 by omega)
    have q1 : (1 : Int) + (p : Int) - 1 = (p : Int) := by omega
    have q3 : ¬ ((1 : Int) + (p : Int) ≤ (p : Int)) := by omega
    have q4 : ¬ ((p : Int) < 0) := by omega
    have HLV := Lib.hid (fun (W : World) (hb : Below w.heap.size w W) => refLeaves_any A l c vs bss W hl (hA.below hb) ⟨hR.1, (hR.below hb).2⟩ hl40 (fun x hx => Nat.le_trans (hbd x hx) (by omega)))
    subst hl1
    by_cases hik : i < k
    · have HLC := Lib.hid (lc_left (x := lbs) (p := q0) (d := d) (by rw [hl]; exact hk) (by omega) hik)
      have hpst : p = steps i k := by have := steps_left (i := i) (n := l) (by omega) (by rw [← hk]; exact hik); rw [← hk] at this; omega
      have HP := Lib.hid hpst
      have ZC := Lib.hid (climb_size k (lf lbs) i k q0 (Nat.le_refl _) (lf_size lbs))
      have kk : (i : Int) < (k : Int) := by omega
      clear hl hA hR hbd hlb hd hst hst2 hcell hq hdq hd32 hto hk tk dq hlp hC hpst
      go_enter Tryd.func14, Tryd.ntmps14
      go_wp2_with fail
      refine (refSplit_in l _ (by omega) hl40).mono ?_
      rintro e w1 ⟨rfl, rfl⟩
      rw [← HK.out]
      go_wp2_with fail
      refine (HLV.out _ b0).mono ?_
      rintro e w2 ⟨v2, rfl, hown2, hb2⟩
      have b2 := b0.trans (hb2.mono b0.size)
      have h2 := h0.below hb2 h0.lt
      obtain ⟨A4, c4, rfl, sl4, hc4, hm4, _⟩ := hown2.slice
      rw [HLL.out] at hc4 ⊢
      clear hown2 hb2 h0 hcd
      go_wp2_with fail
      refine (refTop A4 l c4 (bss.map lf) _ HLL.out sl4 (lf_digs bss) (by omega) hc4 hl40).mono ?_
      rintro e w3 ⟨A3, c3, rfl, s3, k3, m3, a3, hb3⟩
      have b30 := b2.trans (hb3.mono b2.size)
      have h30 := h2.below hb3 h2.lt
      have a3b : ∀ b o s, A3 = some ⟨b, o, s⟩ → w.heap.size + 1 ≤ b := fun b o s h => Nat.le_trans h2.lt (a3 b o s h)
      clear hb3 h2 sl4
      go_wp2_with fail
      refine (refLeaf_any B lb db lbs _ HLB.out (hB.below b30) (by omega)).mono ?_
      rintro e w3b ⟨rfl, hb3b⟩
      have b3 := b30.trans (hb3b.mono b30.size)
      have h3 := h30.below hb3b h30.lt
      have s3 := s3.below hb3b
      clear hb3b h30 b30
      go_wp2_with fail
      refine (refClimb_any k (lf lbs) i k (some ⟨b, o, none⟩) p cp q0 (by omega) _ (lf_size lbs) HQ.out (hsq.below b3) HDQ.out (by omega) (by omega) (by omega) HP.out).mono ?_
      rintro e w4 ⟨rfl, hb4⟩
      have b4 := b3.trans (hb4.mono b3.size)
      have h4 := h3.below hb4 h3.lt
      have s4 := s3.below hb4
      clear hb4 h3 s3 b3
      go_wp2_with fail
      refine (refBytes8 (climb nd ed (lf lbs) i k q0) d _ (by rw [ZC.out, HD32.out]; omega)).mono ?_
      rw [show (climb nd ed (lf lbs) i k q0).size + d.size + 1 = 65 by rw [ZC.out, HD32.out]]
      rintro e w5 ⟨A5, c5, rfl, s5, k5, m5, a5, hb5⟩
      have b5 := b4.trans (hb5.mono b4.size)
      have h5 := h4.below hb5 h4.lt
      have s45 := s4.below hb5
      have a5b : ∀ b o s, A5 = some ⟨b, o, s⟩ → w.heap.size + 1 ≤ b := fun b o s h => Nat.le_trans h4.lt (a5 b o s h)
      have NBL : Hid ((nb (climb nd ed (lf lbs) i k q0) d).length = 65) := by show _ = _; rw [nb_len, ZC.out, HD32.out]
      clear hb5 h4 s4 b4
      go_wp2_with fail
      refine (refBetween_any (w.heap.size + 1) A5 65 c5 (nb (climb nd ed (lf lbs) i k q0) d) A3 65 c3 (tp (bss.map lf)) _ NBL.out s5 HTL.out s45 (by omega) (by omega) k5 m5 k3 m3 a5b a3b).mono ?_
      rintro e w6 ⟨A6, n6, c6, B6, m6, d6, q6, rfl, t6, hb6⟩
      have b6 := b5.trans (hb6.mono b5.size)
      have h6 := h5.below hb6 h5.lt
      have k7 : At (w6.alloc (.cells #[.slice none 0 0, .slice none 0 0] 33)) w6.heap.size 33 [.slice none 0 0, .slice none 0 0] := At.new_ w6 _ 33 _ rfl
      have l7 : Below w6.heap.size w6 (w6.alloc (.cells #[.slice none 0 0, .slice none 0 0] 33)) := (Below.refl _ _).alloc (Nat.le_refl _) _
      have h7 := h6.below l7 h6.lt
      have hg7 : w.heap.size < w6.heap.size := h6.lt
      clear hb6 h5 s45 s5 b5 h6
      obtain ⟨g7, hg⟩ : ∃ g7, w6.heap.size = g7 := ⟨_, rfl⟩
      rw [hg] at k7 hg7
      have HG7 := Lib.hid hg
      clear hg
      cases q6 with
      | true =>
        go_wp2_with (first
          | (refine wpList_storeB rfl rfl 33 (.tmp 15) (.tmp 63) rfl clTy g7 (by rw [← HG7.out]; rfl) [.slice A6 n6 c6, .slice B6 m6 d6] rfl 33 _ k7 rfl rfl slices_one ?_; intro x8 k8 o8)
          | (refine wpList_loadA rfl 33 (.tmp 15) rfl clTy g7 0 (by rw [← HG7.out]; rfl) 33 _ k8 [.slice A6 n6 c6, .slice B6 m6 d6] rfl (all_at _) ?_)
          | (refine wpList_storeB rfl rfl 33 (.tmp 8) (.tmp 66) rfl clTy w.heap.size rfl [.slice A6 n6 c6, .slice B6 m6 d6] rfl 33 _ (o8.at_ h7 (by omega)) rfl rfl slices_one ?_; intro x9 k9 o9))
        have l8 := o8.below _ _ l7 (by rw [HG7.out]; exact Nat.le_refl _)
        have b9 := o9.below _ _ (b6.trans (l8.mono b6.size)) (Nat.le_refl _)
        have t9 := ((t6.below l8).only o9 (by omega)).first (o' := lc (bss.take k) i lbs q0)
        exact bodyPost_ret (v := .tuple #[.agg #[.slice A6 n6 c6, .slice B6 m6 d6], .bool true]) (results_cellA2 rfl clTy _ _ w.heap.size 33 [.slice A6 n6 c6, .slice B6 m6 d6] rfl k9 rfl _ rfl) rfl ⟨A6, n6, c6, B6, m6, d6, true, rfl, by rw [HLC.out]; exact t9.base (by omega), b9⟩
      | false =>
        go_wp2_with (refine wpList_storeB rfl rfl 33 (.tmp 15) (.tmp 63) rfl clTy g7 (by rw [← HG7.out]; rfl) [.slice A6 n6 c6, .slice B6 m6 d6] rfl 33 _ k7 rfl rfl slices_one ?_; intro x8 k8 o8)
        have l8 := o8.below _ _ l7 (by rw [HG7.out]; exact Nat.le_refl _)
        have b8 := b6.trans (l8.mono b6.size)
        have h8 := o8.at_ h7 (by omega)
        refine (ih A k c (vs.take k) (bss.take k) i B lb db lbs (some ⟨b, o, none⟩) p cp q0 (by omega) _ HTR.out (vT.below b8) (RT.below b8) (by omega) (by omega) (by omega) (fun x hx => HBD.out x (List.mem_of_mem_take hx)) HLB.out (hB.below b8) (by omega) hlbd hdb HQ.out (hsq.below b8) HDQ.out (by omega) hcp HP.out).mono ?_
        rintro e w9 ⟨A9, n9, c9, B9, m9, d9, q9, rfl, t9, hb9⟩
        have b9 := b8.trans (hb9.mono b8.size)
        have h9 := h8.below hb9 h8.lt
        have hz8 := h8.lt
        go_wp2_with (refine wpList_storeB rfl rfl 33 (.tmp 8) (.tmp 74) rfl clTy w.heap.size rfl [.slice A9 n9 c9, .slice B9 m9 d9] rfl 33 _ h9 rfl rfl slices_one ?_; intro x10 k10 o10)
        have b10 := o10.below _ _ b9 (Nat.le_refl _)
        have t10 := TC.second t6 (t9.only o10 (by omega))
        exact bodyPost_ret (v := .tuple #[.agg #[.slice A9 n9 c9, .slice B9 m9 d9], .bool q9]) (results_cellA2 rfl clTy _ _ w.heap.size 33 [.slice A9 n9 c9, .slice B9 m9 d9] rfl k10 rfl _ rfl) rfl ⟨A9, n9, c9, B9, m9, d9, q9, rfl, by rw [HLC.out]; exact t10.base (by omega), b10⟩

    · obtain ⟨r, hr⟩ : ∃ r, i - k = r := ⟨_, rfl⟩
      have hqz : l - k = q := by omega
      have HLC0 := lc_right (x := lbs) (p := q0) (d := d) (by rw [hl]; exact hk) (by omega) hik
      rw [hl, hr, hqz] at HLC0
      have HLC := Lib.hid HLC0
      have hpst : p = steps r q := by have := steps_right (i := i) (n := l) (by omega) (by rw [← hk]; exact hik); rw [← hk, hr, hqz] at this; omega
      have HP := Lib.hid hpst
      have ZC := Lib.hid (climb_size q (lf lbs) r q q0 (Nat.le_refl _) (lf_size lbs))
      have kk : ¬ (i : Int) < (k : Int) := by omega
      have k6 : (i : Int) - (k : Int) = (r : Int) := by omega
      have k7 : (l : Int) - (k : Int) = (q : Int) := by omega
      clear hl hA hR hbd hlb hd hst hst2 hcell hq hdq hd32 hto hk tk dq hlp hC hpst HLC0
      go_enter Tryd.func14, Tryd.ntmps14
      go_wp2_with fail
      refine (refSplit_in l _ (by omega) hl40).mono ?_
      rintro e w1 ⟨rfl, rfl⟩
      rw [← HK.out]
      go_wp2_with fail
      refine (HLV.out _ b0).mono ?_
      rintro e w2 ⟨v2, rfl, hown2, hb2⟩
      have b2 := b0.trans (hb2.mono b0.size)
      have h2 := h0.below hb2 h0.lt
      obtain ⟨A4, c4, rfl, sl4, hc4, hm4, _⟩ := hown2.slice
      rw [HLL.out] at hc4 ⊢
      clear hown2 hb2 h0 hcd
      go_wp2_with fail
      refine (refTop A4 l c4 (bss.map lf) _ HLL.out sl4 (lf_digs bss) (by omega) hc4 hl40).mono ?_
      rintro e w3 ⟨A3, c3, rfl, s3, k3, m3, a3, hb3⟩
      have b30 := b2.trans (hb3.mono b2.size)
      have h30 := h2.below hb3 h2.lt
      have a3b : ∀ b o s, A3 = some ⟨b, o, s⟩ → w.heap.size + 1 ≤ b := fun b o s h => Nat.le_trans h2.lt (a3 b o s h)
      clear hb3 h2 sl4
      go_wp2_with fail
      refine (refLeaf_any B lb db lbs _ HLB.out (hB.below b30) (by omega)).mono ?_
      rintro e w3b ⟨rfl, hb3b⟩
      have b3 := b30.trans (hb3b.mono b30.size)
      have h3 := h30.below hb3b h30.lt
      have s3 := s3.below hb3b
      clear hb3b h30 b30
      go_wp2_with fail
      refine (refClimb_any q (lf lbs) r q (some ⟨b, o, none⟩) p cp q0 (by omega) _ (lf_size lbs) HQ.out (hsq.below b3) HDQ.out (by omega) (by omega) (by omega) HP.out).mono ?_
      rintro e w4 ⟨rfl, hb4⟩
      have b4 := b3.trans (hb4.mono b3.size)
      have h4 := h3.below hb4 h3.lt
      have s4 := s3.below hb4
      clear hb4 h3 s3 b3
      go_wp2_with fail
      refine (refBytes8 d (climb nd ed (lf lbs) r q q0) _ (by rw [HD32.out, ZC.out]; omega)).mono ?_
      rw [show d.size + (climb nd ed (lf lbs) r q q0).size + 1 = 65 by rw [HD32.out, ZC.out]]
      rintro e w5 ⟨A5, c5, rfl, s5, k5, m5, a5, hb5⟩
      have b5 := b4.trans (hb5.mono b4.size)
      have h5 := h4.below hb5 h4.lt
      have s45 := s4.below hb5
      have a5b : ∀ b o s, A5 = some ⟨b, o, s⟩ → w.heap.size + 1 ≤ b := fun b o s h => Nat.le_trans h4.lt (a5 b o s h)
      have NBL : Hid ((nb d (climb nd ed (lf lbs) r q q0)).length = 65) := by show _ = _; rw [nb_len, HD32.out, ZC.out]
      clear hb5 h4 s4 b4
      go_wp2_with fail
      refine (refBetween_any (w.heap.size + 1) A5 65 c5 (nb d (climb nd ed (lf lbs) r q q0)) A3 65 c3 (tp (bss.map lf)) _ NBL.out s5 HTL.out s45 (by omega) (by omega) k5 m5 k3 m3 a5b a3b).mono ?_
      rintro e w6 ⟨A6, n6, c6, B6, m6, d6, q6, rfl, t6, hb6⟩
      have b6 := b5.trans (hb6.mono b5.size)
      have h6 := h5.below hb6 h5.lt
      have k7 : At (w6.alloc (.cells #[.slice none 0 0, .slice none 0 0] 33)) w6.heap.size 33 [.slice none 0 0, .slice none 0 0] := At.new_ w6 _ 33 _ rfl
      have l7 : Below w6.heap.size w6 (w6.alloc (.cells #[.slice none 0 0, .slice none 0 0] 33)) := (Below.refl _ _).alloc (Nat.le_refl _) _
      have h7 := h6.below l7 h6.lt
      have hg7 : w.heap.size < w6.heap.size := h6.lt
      clear hb6 h5 s45 s5 b5 h6
      obtain ⟨g7, hg⟩ : ∃ g7, w6.heap.size = g7 := ⟨_, rfl⟩
      rw [hg] at k7 hg7
      have HG7 := Lib.hid hg
      clear hg
      cases q6 with
      | true =>
        go_wp2_with (first
          | (refine wpList_storeB rfl rfl 33 (.tmp 17) (.tmp 91) rfl clTy g7 (by rw [← HG7.out]; rfl) [.slice A6 n6 c6, .slice B6 m6 d6] rfl 33 _ k7 rfl rfl slices_one ?_; intro x8 k8 o8)
          | (refine wpList_loadA rfl 33 (.tmp 17) rfl clTy g7 0 (by rw [← HG7.out]; rfl) 33 _ k8 [.slice A6 n6 c6, .slice B6 m6 d6] rfl (all_at _) ?_)
          | (refine wpList_storeB rfl rfl 33 (.tmp 8) (.tmp 94) rfl clTy w.heap.size rfl [.slice A6 n6 c6, .slice B6 m6 d6] rfl 33 _ (o8.at_ h7 (by omega)) rfl rfl slices_one ?_; intro x9 k9 o9))
        have l8 := o8.below _ _ l7 (by rw [HG7.out]; exact Nat.le_refl _)
        have b9 := o9.below _ _ (b6.trans (l8.mono b6.size)) (Nat.le_refl _)
        have t9 := ((t6.below l8).only o9 (by omega)).first (o' := lc (bss.drop k) r lbs q0)
        exact bodyPost_ret (v := .tuple #[.agg #[.slice A6 n6 c6, .slice B6 m6 d6], .bool true]) (results_cellA2 rfl clTy _ _ w.heap.size 33 [.slice A6 n6 c6, .slice B6 m6 d6] rfl k9 rfl _ rfl) rfl ⟨A6, n6, c6, B6, m6, d6, true, rfl, by rw [HLC.out]; exact t9.base (by omega), b9⟩
      | false =>
        go_wp2_with (refine wpList_storeB rfl rfl 33 (.tmp 17) (.tmp 91) rfl clTy g7 (by rw [← HG7.out]; rfl) [.slice A6 n6 c6, .slice B6 m6 d6] rfl 33 _ k7 rfl rfl slices_one ?_; intro x8 k8 o8)
        have l8 := o8.below _ _ l7 (by rw [HG7.out]; exact Nat.le_refl _)
        have b8 := b6.trans (l8.mono b6.size)
        have h8 := o8.at_ h7 (by omega)
        refine (ih A2 q c2 (vs.drop k) (bss.drop k) r B lb db lbs (some ⟨b, o, none⟩) p cp q0 (by omega) _ HDR.out (vD.below b8) (RD.below b8) (by omega) (by omega) (by omega) (fun x hx => HBD.out x (List.mem_of_mem_drop hx)) HLB.out (hB.below b8) (by omega) hlbd hdb HQ.out (hsq.below b8) HDQ.out (by omega) hcp HP.out).mono ?_
        rintro e w9 ⟨A9, n9, c9, B9, m9, d9, q9, rfl, t9, hb9⟩
        have b9 := b8.trans (hb9.mono b8.size)
        have h9 := h8.below hb9 h8.lt
        have hz8 := h8.lt
        go_wp2_with (refine wpList_storeB rfl rfl 33 (.tmp 8) (.tmp 104) rfl clTy w.heap.size rfl [.slice A9 n9 c9, .slice B9 m9 d9] rfl 33 _ h9 rfl rfl slices_one ?_; intro x10 k10 o10)
        have b10 := o10.below _ _ b9 (Nat.le_refl _)
        have t10 := TC.second t6 (t9.only o10 (by omega))
        exact bodyPost_ret (v := .tuple #[.agg #[.slice A9 n9 c9, .slice B9 m9 d9], .bool q9]) (results_cellA2 rfl clTy _ _ w.heap.size 33 [.slice A9 n9 c9, .slice B9 m9 d9] rfl k10 rfl _ rfl) rfl ⟨A9, n9, c9, B9, m9, d9, q9, rfl, by rw [HLC.out]; exact t10.base (by omega), b10⟩

end Go.Proofs.YtihkfomldbjpoaaDoor.ClW

/- The statements' own Great. -/
namespace Go.Proofs.YtihkfomldbjpoaaDoor.TrW
open Go.RowKit TreeW
open ShaW Sha
/-- Texts of more than 100 bytes, or more than 100 of them. -/
def Grt (ss : List ByteArray) : Prop := 100 < ss.length ∨ ∃ s ∈ ss, 100 < s.size
theorem grt_no {ss : List ByteArray} (h : ¬ Grt ss) : ss.length ≤ 100 ∧ ∀ s ∈ ss, s.size ≤ 100 := by
  refine ⟨Nat.le_of_not_lt fun h' => h (.inl h'), fun s hs => Nat.le_of_not_lt fun h' => h (.inr ⟨s, hs, h'⟩)⟩
instance (ss : List ByteArray) : Decidable (Grt ss) := by unfold Grt; infer_instance
set_option maxHeartbeats 1000000 in
theorem great_any (A : Option Addr) (l c : Nat) (ss : List ByteArray) (w : World) (hl : ss.length = l) (hs : Sl w A (scells ss)) (hl63 : l ≤ 9223372036854775807) :
    Calls Tryd.prog 10 #[.slice A l c] w fun e w' => e = .returned (.bool (decide (Grt ss))) ∧ w = w' := by
  have HL := Lib.hid hl
  clear hl
  go_enter Tryd.func10, Tryd.ntmps10
  go_wp2_with fail
  go_loop [3] (fun i => ∃ j : Nat, j ≤ l ∧ i = .int .i64 (j : Int) ∧ Hid (∀ s ∈ ss.take j, s.size ≤ 100)) (fun i => l - (intOf i).toNat)
  case atStart => exact ⟨0, by omega, rfl, fun x hx => by simp at hx⟩
  case round =>
    obtain ⟨j, hj, rfl, HK⟩ := hrel
    by_cases hlt : j < l
    · obtain ⟨b, o, rfl, hblt, hcell⟩ := hs.get (j := j) (by rw [scells_len, HL.out]; exact hlt)
      have hget := get_of (ss := ss) (j := j) (by rw [HL.out]; exact hlt)
      obtain ⟨s, hsj⟩ : ∃ s, ss.getD j ⟨#[]⟩ = s := ⟨_, rfl⟩
      rw [hsj] at hget
      have hc0 := hcell j _ (scells_at hget)
      have HG := Lib.hid hget
      clear hcell hget hsj
      by_cases h100 : 100 < s.size
      · have h1 : (100 : Int) < (s.size : Int) := by omega
        have HF : Hid (decide (Grt ss) = true) := decide_eq_true (.inr ⟨s, List.mem_of_getElem? HG.out, h100⟩)
        clear h100
        go_wp2_with fail
        go_ret
        exact ⟨by rw [HF.out]; rfl, rfl⟩
      · have h1 : ¬ (100 : Int) < (s.size : Int) := by omega
        have HN : Hid (∀ x ∈ ss.take (j + 1), x.size ≤ 100) := by
          intro x hx
          rw [take_snoc HG.out] at hx
          rcases List.mem_append.1 hx with hx | hx
          · exact HK.out x hx
          · simp at hx; subst hx; omega
        clear h100
        go_wp2_with fail
        go_round
        case rel => exact ⟨j + 1, by omega, by go_num, HN⟩
        case measure => simp [intOf]; omega
    · have HA : Hid (∀ s ∈ ss, s.size ≤ 100) := by
        have := HK.out
        rwa [List.take_of_length_le (by rw [HL.out]; omega)] at this
      by_cases h100 : 100 < l
      · have h1 : (100 : Int) < (l : Int) := by omega
        have HF : Hid (decide (Grt ss) = true) := decide_eq_true (.inl (by rw [HL.out]; exact h100))
        clear h100
        go_wp2_with fail
        go_ret
        exact ⟨by rw [HF.out]; rfl, rfl⟩
      · have h1 : ¬ (100 : Int) < (l : Int) := by omega
        have HF : Hid (decide (Grt ss) = false) := decide_eq_false (by
          rintro (h | ⟨s, hs, h⟩)
          · rw [HL.out] at h; exact h100 h
          · have := HA.out s hs; omega)
        clear h100
        go_wp2_with fail
        go_ret
        exact ⟨by rw [HF.out]; rfl, rfl⟩
theorem great_yes (A : Option Addr) (l c : Nat) (ss : List ByteArray) (w : World) (hl : ss.length = l) (hs : Sl w A (scells ss)) (hl63 : l ≤ 9223372036854775807) (h : Grt ss) :
    Calls Tryd.prog 10 #[.slice A l c] w fun e w' => e = .returned (.bool true) ∧ w = w' := by
  have := great_any A l c ss w hl hs hl63; rwa [decide_eq_true h] at this
theorem great_not (A : Option Addr) (l c : Nat) (ss : List ByteArray) (w : World) (hl : ss.length = l) (hs : Sl w A (scells ss)) (hl63 : l ≤ 9223372036854775807) (h : ¬ Grt ss) :
    Calls Tryd.prog 10 #[.slice A l c] w fun e w' => e = .returned (.bool false) ∧ w = w' := by
  have := great_any A l c ss w hl hs hl63; rwa [decide_eq_false h] at this
end Go.Proofs.YtihkfomldbjpoaaDoor.TrW

/- ClashLeaf, ClashCons. -/
namespace Go.Proofs.YtihkfomldbjpoaaDoor.ClW
open Go.RowKit TreeW ConsW TrW ClashW CoW
open ShaW Sha
theorem TC.isNone {base : Nat} {w : World} {A : Option Addr} {n c : Nat} {B : Option Addr} {m d : Nat} {q : Bool} (h : TC base w none A n c B m d q) : q = false ∧ n = 0 ∧ m = 0 := by
  obtain ⟨x, y, hxy, lx, ly, _⟩ := h.ex
  rcases hxy with h' | ⟨_, rfl, rfl⟩
  · cases h'
  · exact ⟨h.yes, lx.symm, ly.symm⟩
set_option maxRecDepth 1000000 in
set_option maxHeartbeats 4000000 in
theorem lawLeaf (A : Option Addr) (l c : Nat) (vs : List Value) (bss : List (List UInt8)) (i : Int) (B : Option Addr) (lb db : Nat) (xs : List UInt8) (C : Option Addr) (lp cp : Nat) (ps : List ByteArray) (w : World) (hT : Tab w) (hl : bss.length = l) (hA : Sl w A vs) (hR : RowsAt w vs bss) (hlc : l ≤ c) (hc63 : c ≤ 9223372036854775807) (hlb : xs.length = lb) (hB : Sl w B (bcells xs)) (hlbd : lb ≤ db) (hdb : db ≤ 9223372036854775807) (hlp : ps.length = lp) (hC : Sl w C (scells ps)) (hlpc : lp ≤ cp) (hcp : cp ≤ 9223372036854775807) :
    Calls Tryd.prog 3 #[.slice A l c, .int .i64 i, .slice B lb db, .slice C lp cp] w fun e w' => e = .returned (.bool true) ∧ Below w.heap.size w w' := by
  have hpos := hT.pos
  have HT := Lib.hid (fun W (hb : Below w.heap.size w W) => hT.below hb hpos)
  have b0 : Below w.heap.size w w := Below.refl _ _
  have HL := Lib.hid hl
  have HR := Lib.hid hR
  have HLB := Lib.hid hlb
  have HLP := Lib.hid hlp
  by_cases hg0 : Grt8 bss
  · have HGa : Hid (decide (Grt8 bss) = true) := decide_eq_true hg0
    clear hg0 hT hpos
    clear hl hR hlb hlp
    go_enter Tryd.func3, Tryd.ntmps3
    go_wp2_with fail
    refine (great8_any A l c vs bss _ HL.out hA HR.out (by omega)).mono ?_
    rintro e w9 ⟨rfl, rfl⟩
    rw [HGa.out]
    go_wp2_with fail
    refine (knows_any _ (HT.out _ b0)).mono ?_
    rintro e wk ⟨rfl, hbk⟩
    have bk := b0.trans (hbk.mono b0.size)
    go_wp2_with fail
    go_ret
    exact ⟨rfl, bk⟩
  have HGa : Hid (decide (Grt8 bss) = false) := decide_eq_false hg0
  have hma : l ≤ 25 := by have := (grt8_no hg0).1; have := HL.out; omega
  have HBDa : Hid (∀ x ∈ bss, x.length ≤ 100000000000) := fun x hx => by have := (grt8_no hg0).2 x hx; omega
  by_cases hg1 : 300 < lb
  · have glb : (lb : Int) > 300 := by omega
    clear hg0 hg1 hT hpos
    clear hl hR hlb hlp
    go_enter Tryd.func3, Tryd.ntmps3
    go_wp2_with fail
    refine (great8_any A l c vs bss _ HL.out hA HR.out (by omega)).mono ?_
    rintro e w9 ⟨rfl, rfl⟩
    rw [HGa.out]
    go_wp2_with fail
    refine (knows_any _ (HT.out _ b0)).mono ?_
    rintro e wk ⟨rfl, hbk⟩
    have bk := b0.trans (hbk.mono b0.size)
    go_wp2_with fail
    go_ret
    exact ⟨rfl, bk⟩
  have glb : ¬ (lb : Int) > 300 := by omega
  have gmb : lb ≤ 300 := by omega
  by_cases hg2 : Grt ps
  · have HGP := Lib.hid hg2
    clear hg0 hg1 hg2 hT hpos
    clear hl hR hlb hlp
    go_enter Tryd.func3, Tryd.ntmps3
    go_wp2_with fail
    refine (great8_any A l c vs bss _ HL.out hA HR.out (by omega)).mono ?_
    rintro e w9 ⟨rfl, rfl⟩
    rw [HGa.out]
    go_wp2_with fail
    refine (great_yes C lp cp ps _ HLP.out hC (by omega) HGP.out).mono ?_
    rintro e w9 ⟨rfl, rfl⟩
    go_wp2_with fail
    refine (knows_any _ (HT.out _ b0)).mono ?_
    rintro e wk ⟨rfl, hbk⟩
    have bk := b0.trans (hbk.mono b0.size)
    go_wp2_with fail
    go_ret
    exact ⟨rfl, bk⟩
  have HGP := Lib.hid hg2
  clear hg0 hg1 hg2 hT hpos
  clear hl hR hlb hlp
  by_cases hf : fair8 l i ps
  · have HF : Hid (decide (fair8 l i ps) = true) := decide_eq_true hf
    have HEQ : Hid (lcx bss i xs ps = lc bss i.toNat xs ps) := lcx_yes (by rw [HL.out]; exact hf)
    have HGD : Hid (Good (lcx bss i xs ps)) := lcx_good HBDa.out (by rw [HLB.out]; omega)
    obtain ⟨i, rfl⟩ := Int.eq_ofNat_of_zero_le hf.1
    have hi : i < l := by have := hf.2.1; omega
    have HDG := Lib.hid hf.2.2.1
    have HST : Hid (lp = steps i l) := by show _ = _; rw [← HLP.out]; exact hf.2.2.2
    clear hf
    go_enter Tryd.func3, Tryd.ntmps3
    go_wp2_with fail
    refine (great8_any A l c vs bss _ HL.out hA HR.out (by omega)).mono ?_
    rintro e w9 ⟨rfl, rfl⟩
    rw [HGa.out]
    go_wp2_with fail
    refine (great_not C lp cp ps _ HLP.out hC (by omega) HGP.out).mono ?_
    rintro e w9 ⟨rfl, rfl⟩
    go_wp2_with fail
    refine (Leaf_any A l c vs bss i B lb db xs C lp cp ps _ (HT.out _ b0) HL.out hA HR.out hlc (by omega) HBDa.out HLB.out hB hlbd hdb (by rw [HLB.out]; omega) HLP.out hC hlpc hcp).mono ?_
    rintro e w1 ⟨A1, n1, c1, B1, m1, d1, q1, rfl, t1, hb1⟩
    have b1 := b0.trans (hb1.mono b0.size)
    replace hA := hA.below hb1
    replace HR := Lib.hid (HR.out.below hb1)
    replace hB := hB.below hb1
    replace hC := hC.below hb1
    have k1 : At (w1.alloc (.cells #[.slice none 0 0, .slice none 0 0] 29)) w1.heap.size 29 [.slice none 0 0, .slice none 0 0] := At.new_ w1 _ 29 _ rfl
    go_wp2_with (refine wpList_storeB rfl rfl 29 (.tmp 9) (.tmp 31) rfl SealW.clashTy w1.heap.size rfl [.slice A1 n1 c1, .slice B1 m1 d1] rfl 29 _ k1 rfl rfl slices_one ?_; intro w2 kx1 ox1; have hb2 := kept _ _ _ _ ox1)
    have b2 := b1.trans (hb2.mono b1.size)
    replace hA := hA.below hb2
    replace HR := Lib.hid (HR.out.below hb2)
    replace hB := hB.below hb2
    replace hC := hC.below hb2
    replace t1 := t1.below hb2
    clear k1 ox1
    refine (fair8_any A l c (i : Int) C lp cp ps _ (by omega) HLP.out hC hlpc hcp).mono ?_
    rintro e w9 ⟨rfl, rfl⟩
    rw [HF.out]
    go_wp2_with fail
    refine (refLeaf8 l A l c vs bss i B lb db xs C lp cp ps (Nat.le_refl _) _ HL.out hA HR.out hi hlc (by omega) HBDa.out HLB.out hB (by omega) hlbd hdb HLP.out hC HDG.out hlpc hcp HST.out).mono ?_
    rintro e w3 ⟨A2, n2, c2, B2, m2, d2, q2, rfl, t2, hb3⟩
    have b3 := b2.trans (hb3.mono b2.size)
    replace hA := hA.below hb3
    replace HR := Lib.hid (HR.out.below hb3)
    replace hB := hB.below hb3
    replace hC := hC.below hb3
    replace t1 := t1.below hb3
    replace kx1 := kx1.below hb3 kx1.lt
    have k2 : At (w3.alloc (.cells #[.slice none 0 0, .slice none 0 0] 33)) w3.heap.size 33 [.slice none 0 0, .slice none 0 0] := At.new_ w3 _ 33 _ rfl
    go_wp2_with (refine wpList_storeB rfl rfl 33 (.tmp 11) (.tmp 61) rfl clTy w3.heap.size rfl [.slice A2 n2 c2, .slice B2 m2 d2] rfl 33 _ k2 rfl rfl slices_one ?_; intro w4 kx2 ox2; have hb4 := kept _ _ _ _ ox2; have f2 := (kx1.below hb4 kx1.lt).cell 0; have f3 := (kx1.below hb4 kx1.lt).cell 1; have f4 := kx2.cell 0; have f5 := kx2.cell 1)
    have b4 := b3.trans (hb4.mono b3.size)
    replace hA := hA.below hb4
    replace HR := Lib.hid (HR.out.below hb4)
    replace hB := hB.below hb4
    replace hC := hC.below hb4
    replace t1 := t1.below hb4
    replace kx1 := kx1.below hb4 kx1.lt
    replace t2 := t2.below hb4
    clear k2 ox2
    have HE2 : Hid (lc bss i xs ps = lcx bss (i : Int) xs ps) := HEQ.out.symm
    have t22 := t2
    rw [HE2.out] at t22
    refine (same_any _ _ (lcx bss (i : Int) xs ps) HGD.out A1 n1 c1 B1 m1 d1 q1 A2 n2 c2 B2 m2 d2 q2 _ (HT.out _ b4) t1 t22).mono ?_
    rintro e w5 ⟨rfl, hb5⟩
    have b5 := b4.trans (hb5.mono b4.size)
    replace hA := hA.below hb5
    replace HR := Lib.hid (HR.out.below hb5)
    replace hB := hB.below hb5
    replace hC := hC.below hb5
    replace t1 := t1.below hb5
    replace kx1 := kx1.below hb5 kx1.lt
    replace t2 := t2.below hb5
    replace kx2 := kx2.below hb5 kx2.lt
    clear f2 f3 f4 f5
    go_wp2_with fail
    refine (knows_any _ (HT.out _ b5)).mono ?_
    rintro e wk ⟨rfl, hbk⟩
    have bk := b5.trans (hbk.mono b5.size)
    go_wp2_with fail
    go_ret
    exact ⟨rfl, bk⟩
  · have HF : Hid (decide (fair8 l i ps) = false) := decide_eq_false hf
    have HEQ : Hid (lcx bss i xs ps = none) := lcx_no (by rw [HL.out]; exact hf)
    clear hf
    go_enter Tryd.func3, Tryd.ntmps3
    go_wp2_with fail
    refine (great8_any A l c vs bss _ HL.out hA HR.out (by omega)).mono ?_
    rintro e w9 ⟨rfl, rfl⟩
    rw [HGa.out]
    go_wp2_with fail
    refine (great_not C lp cp ps _ HLP.out hC (by omega) HGP.out).mono ?_
    rintro e w9 ⟨rfl, rfl⟩
    go_wp2_with fail
    refine (Leaf_any A l c vs bss i B lb db xs C lp cp ps _ (HT.out _ b0) HL.out hA HR.out hlc (by omega) HBDa.out HLB.out hB hlbd hdb (by rw [HLB.out]; omega) HLP.out hC hlpc hcp).mono ?_
    rintro e w1 ⟨A1, n1, c1, B1, m1, d1, q1, rfl, t1, hb1⟩
    have b1 := b0.trans (hb1.mono b0.size)
    replace hA := hA.below hb1
    replace HR := Lib.hid (HR.out.below hb1)
    replace hB := hB.below hb1
    replace hC := hC.below hb1
    have tn := t1
    rw [HEQ.out] at tn
    obtain ⟨e1, e2, e3⟩ := tn.isNone
    subst e1 e2 e3
    clear tn
    have k1 : At (w1.alloc (.cells #[.slice none 0 0, .slice none 0 0] 29)) w1.heap.size 29 [.slice none 0 0, .slice none 0 0] := At.new_ w1 _ 29 _ rfl
    go_wp2_with (refine wpList_storeB rfl rfl 29 (.tmp 9) (.tmp 31) rfl SealW.clashTy w1.heap.size rfl [.slice A1 0 c1, .slice B1 0 d1] rfl 29 _ k1 rfl rfl slices_one ?_; intro w2 kx1 ox1; have hb2 := kept _ _ _ _ ox1)
    have b2 := b1.trans (hb2.mono b1.size)
    replace hA := hA.below hb2
    replace HR := Lib.hid (HR.out.below hb2)
    replace hB := hB.below hb2
    replace hC := hC.below hb2
    replace t1 := t1.below hb2
    clear k1 ox1
    refine (fair8_any A l c i C lp cp ps _ (by omega) HLP.out hC hlpc hcp).mono ?_
    rintro e w9 ⟨rfl, rfl⟩
    rw [HF.out]
    have f2 := kx1.cell 0
    have f3 := kx1.cell 1
    go_wp2_with fail
    refine (knows_any _ (HT.out _ b2)).mono ?_
    rintro e wk ⟨rfl, hbk⟩
    have bk := b2.trans (hbk.mono b2.size)
    go_wp2_with fail
    go_ret
    exact ⟨rfl, bk⟩
set_option maxRecDepth 1000000 in
set_option maxHeartbeats 4000000 in
theorem lawCons (A : Option Addr) (l c : Nat) (vs : List Value) (bss : List (List UInt8)) (B : Option Addr) (m cb : Nat) (us : List Value) (b : List (List UInt8)) (C : Option Addr) (lp cp : Nat) (ps : List ByteArray) (w : World) (hT : Tab w) (hl : bss.length = l) (hA : Sl w A vs) (hR : RowsAt w vs bss) (hlc : l ≤ c) (hc63 : c ≤ 9223372036854775807) (hlb : b.length = m) (hB : Sl w B us) (hS : RowsAt w us b) (hlcb : m ≤ cb) (hcb63 : cb ≤ 9223372036854775807) (hlp : ps.length = lp) (hC : Sl w C (scells ps)) (hlpc : lp ≤ cp) (hcp : cp ≤ 9223372036854775807) :
    Calls Tryd.prog 5 #[.slice A l c, .slice B m cb, .slice C lp cp] w fun e w' => e = .returned (.bool true) ∧ Below w.heap.size w w' := by
  have hpos := hT.pos
  have HT := Lib.hid (fun W (hb : Below w.heap.size w W) => hT.below hb hpos)
  have b0 : Below w.heap.size w w := Below.refl _ _
  have HL := Lib.hid hl
  have HR := Lib.hid hR
  have HLB := Lib.hid hlb
  have HS := Lib.hid hS
  have HLP := Lib.hid hlp
  by_cases hg0 : Grt8 bss
  · have HGa : Hid (decide (Grt8 bss) = true) := decide_eq_true hg0
    clear hg0 hT hpos
    clear hl hR hlb hS hlp
    go_enter Tryd.func5, Tryd.ntmps5
    go_wp2_with fail
    refine (great8_any A l c vs bss _ HL.out hA HR.out (by omega)).mono ?_
    rintro e w9 ⟨rfl, rfl⟩
    rw [HGa.out]
    go_wp2_with fail
    refine (knows_any _ (HT.out _ b0)).mono ?_
    rintro e wk ⟨rfl, hbk⟩
    have bk := b0.trans (hbk.mono b0.size)
    go_wp2_with fail
    go_ret
    exact ⟨rfl, bk⟩
  have HGa : Hid (decide (Grt8 bss) = false) := decide_eq_false hg0
  have hma : l ≤ 25 := by have := (grt8_no hg0).1; have := HL.out; omega
  have HBDa : Hid (∀ x ∈ bss, x.length ≤ 100000000000) := fun x hx => by have := (grt8_no hg0).2 x hx; omega
  by_cases hg1 : Grt8 b
  · have HGb : Hid (decide (Grt8 b) = true) := decide_eq_true hg1
    clear hg0 hg1 hT hpos
    clear hl hR hlb hS hlp
    go_enter Tryd.func5, Tryd.ntmps5
    go_wp2_with fail
    refine (great8_any A l c vs bss _ HL.out hA HR.out (by omega)).mono ?_
    rintro e w9 ⟨rfl, rfl⟩
    rw [HGa.out]
    go_wp2_with fail
    refine (great8_any B m cb us b _ HLB.out hB HS.out (by omega)).mono ?_
    rintro e w9 ⟨rfl, rfl⟩
    rw [HGb.out]
    go_wp2_with fail
    refine (knows_any _ (HT.out _ b0)).mono ?_
    rintro e wk ⟨rfl, hbk⟩
    have bk := b0.trans (hbk.mono b0.size)
    go_wp2_with fail
    go_ret
    exact ⟨rfl, bk⟩
  have HGb : Hid (decide (Grt8 b) = false) := decide_eq_false hg1
  have hmb : m ≤ 25 := by have := (grt8_no hg1).1; have := HLB.out; omega
  have HBDb : Hid (∀ x ∈ b, x.length ≤ 100000000000) := fun x hx => by have := (grt8_no hg1).2 x hx; omega
  by_cases hg2 : Grt ps
  · have HGP := Lib.hid hg2
    clear hg0 hg1 hg2 hT hpos
    clear hl hR hlb hS hlp
    go_enter Tryd.func5, Tryd.ntmps5
    go_wp2_with fail
    refine (great8_any A l c vs bss _ HL.out hA HR.out (by omega)).mono ?_
    rintro e w9 ⟨rfl, rfl⟩
    rw [HGa.out]
    go_wp2_with fail
    refine (great8_any B m cb us b _ HLB.out hB HS.out (by omega)).mono ?_
    rintro e w9 ⟨rfl, rfl⟩
    rw [HGb.out]
    go_wp2_with fail
    refine (great_yes C lp cp ps _ HLP.out hC (by omega) HGP.out).mono ?_
    rintro e w9 ⟨rfl, rfl⟩
    go_wp2_with fail
    refine (knows_any _ (HT.out _ b0)).mono ?_
    rintro e wk ⟨rfl, hbk⟩
    have bk := b0.trans (hbk.mono b0.size)
    go_wp2_with fail
    go_ret
    exact ⟨rfl, bk⟩
  have HGP := Lib.hid hg2
  clear hg0 hg1 hg2 hT hpos
  clear hl hR hlb hS hlp
  have HGD : Hid (Good (cc bss b ps)) := cc_good HBDa.out HBDb.out
  go_enter Tryd.func5, Tryd.ntmps5
  go_wp2_with fail
  refine (great8_any A l c vs bss _ HL.out hA HR.out (by omega)).mono ?_
  rintro e w9 ⟨rfl, rfl⟩
  rw [HGa.out]
  go_wp2_with fail
  refine (great8_any B m cb us b _ HLB.out hB HS.out (by omega)).mono ?_
  rintro e w9 ⟨rfl, rfl⟩
  rw [HGb.out]
  go_wp2_with fail
  refine (great_not C lp cp ps _ HLP.out hC (by omega) HGP.out).mono ?_
  rintro e w9 ⟨rfl, rfl⟩
  go_wp2_with fail
  refine (Cons_any A l c vs bss B m cb us b C lp cp ps _ (HT.out _ b0) HL.out hA HR.out HLB.out hB HS.out hlc hlcb (by omega) (by omega) HBDa.out HBDb.out HLP.out hC hlpc hcp).mono ?_
  rintro e w1 ⟨A1, n1, c1, B1, m1, d1, q1, rfl, t1, hb1⟩
  have b1 := b0.trans (hb1.mono b0.size)
  replace hA := hA.below hb1
  replace HR := Lib.hid (HR.out.below hb1)
  replace hB := hB.below hb1
  replace HS := Lib.hid (HS.out.below hb1)
  replace hC := hC.below hb1
  have k1 : At (w1.alloc (.cells #[.slice none 0 0, .slice none 0 0] 29)) w1.heap.size 29 [.slice none 0 0, .slice none 0 0] := At.new_ w1 _ 29 _ rfl
  go_wp2_with (refine wpList_storeB rfl rfl 29 (.tmp 7) (.tmp 27) rfl SealW.clashTy w1.heap.size rfl [.slice A1 n1 c1, .slice B1 m1 d1] rfl 29 _ k1 rfl rfl slices_one ?_; intro w2 kx1 ox1; have hb2 := kept _ _ _ _ ox1)
  have b2 := b1.trans (hb2.mono b1.size)
  replace hA := hA.below hb2
  replace HR := Lib.hid (HR.out.below hb2)
  replace hB := hB.below hb2
  replace HS := Lib.hid (HS.out.below hb2)
  replace hC := hC.below hb2
  replace t1 := t1.below hb2
  clear k1 ox1
  refine (refCons A l c vs bss B m cb us b C lp cp ps _ HL.out hA HR.out HLB.out hB HS.out hlc hlcb (by omega) (by omega) HBDa.out HBDb.out HLP.out hC hlpc hcp).mono ?_
  rintro e w3 ⟨A2, n2, c2, B2, m2, d2, q2, rfl, t2, hb3⟩
  have b3 := b2.trans (hb3.mono b2.size)
  replace hA := hA.below hb3
  replace HR := Lib.hid (HR.out.below hb3)
  replace hB := hB.below hb3
  replace HS := Lib.hid (HS.out.below hb3)
  replace hC := hC.below hb3
  replace t1 := t1.below hb3
  replace kx1 := kx1.below hb3 kx1.lt
  have k2 : At (w3.alloc (.cells #[.slice none 0 0, .slice none 0 0] 33)) w3.heap.size 33 [.slice none 0 0, .slice none 0 0] := At.new_ w3 _ 33 _ rfl
  go_wp2_with (refine wpList_storeB rfl rfl 33 (.tmp 9) (.tmp 34) rfl clTy w3.heap.size rfl [.slice A2 n2 c2, .slice B2 m2 d2] rfl 33 _ k2 rfl rfl slices_one ?_; intro w4 kx2 ox2; have hb4 := kept _ _ _ _ ox2; have f2 := (kx1.below hb4 kx1.lt).cell 0; have f3 := (kx1.below hb4 kx1.lt).cell 1; have f4 := kx2.cell 0; have f5 := kx2.cell 1)
  have b4 := b3.trans (hb4.mono b3.size)
  replace hA := hA.below hb4
  replace HR := Lib.hid (HR.out.below hb4)
  replace hB := hB.below hb4
  replace HS := Lib.hid (HS.out.below hb4)
  replace hC := hC.below hb4
  replace t1 := t1.below hb4
  replace kx1 := kx1.below hb4 kx1.lt
  replace t2 := t2.below hb4
  clear k2 ox2
  refine (same_any _ _ (cc bss b ps) HGD.out A1 n1 c1 B1 m1 d1 q1 A2 n2 c2 B2 m2 d2 q2 _ (HT.out _ b4) t1 t2).mono ?_
  rintro e w5 ⟨rfl, hb5⟩
  have b5 := b4.trans (hb5.mono b4.size)
  replace hA := hA.below hb5
  replace HR := Lib.hid (HR.out.below hb5)
  replace hB := hB.below hb5
  replace HS := Lib.hid (HS.out.below hb5)
  replace hC := hC.below hb5
  replace t1 := t1.below hb5
  replace kx1 := kx1.below hb5 kx1.lt
  replace t2 := t2.below hb5
  replace kx2 := kx2.below hb5 kx2.lt
  clear f2 f3 f4 f5
  go_wp2_with fail
  refine (knows_any _ (HT.out _ b5)).mono ?_
  rintro e wk ⟨rfl, hbk⟩
  have bk := b5.trans (hbk.mono b5.size)
  go_wp2_with fail
  go_ret
  exact ⟨rfl, bk⟩
end Go.Proofs.YtihkfomldbjpoaaDoor.ClW

namespace Go.Proofs.YtihkfomldbjpoaaDoor.TieW
open Go.ChangeShapes Go.WideShapes Go.ChangeAt Go.RowKit
open Go.ChangeMaps (open_string shut_string)
open ShaW Sha
theorem underW : Tryd.prog.underlying 100 = some (.int .u32) := by kernel_rfl
theorem own : ownKnob Tryd.prog.godebug = none := by kernel_rfl
theorem laidOut : laidOutB Tryd.prog = true := by kernel_rfl
theorem gTab : Tryd.prog.globalNamed "rubrick/sha.roundWords" = some 0 := by kernel_rfl
theorem gTabType : (Tryd.prog.globals[0]?).map (·.type) = some 125 := by kernel_rfl
theorem cellsTab : Tryd.prog.cellsOf 125 = 64 := by kernel_rfl
theorem cellsW : Tryd.prog.cellsOf 100 = 1 := by kernel_rfl
def words64 : List Int := [1116352408, 1899447441, 3049323471, 3921009573, 961987163, 1508970993, 2453635748, 2870763221, 3624381080, 310598401, 607225278, 1426881987, 1925078388, 2162078206, 2614888103, 3248222580, 3835390401, 4022224774, 264347078, 604807628, 770255983, 1249150122, 1555081692, 1996064986, 2554220882, 2821834349, 2952996808, 3210313671, 3336571891, 3584528711, 113926993, 338241895, 666307205, 773529912, 1294757372, 1396182291, 1695183700, 1986661051, 2177026350, 2456956037, 2730485921, 2820302411, 3259730800, 3345764771, 3516065817, 3600352804, 4094571909, 275423344, 430227734, 506948616, 659060556, 883997877, 958139571, 1322822218, 1537002063, 1747873779, 1955562222, 2024104815, 2227730452, 2361852424, 2428436474, 2756734187, 3204031479, 3329325298]
theorem words64_eq : ∀ i, i < 64 → words64.getD i 0 = un (K.getD i 0) := by decide
/-- WHAT THE ROW's LIST GIVES: the table's cells hold its numbers. -/
theorem tab_of {W : World} (h : laidMetH Tryd.prog [("rubrick/sha.roundWords", Rows.laid_rubrick_sha_roundWords)] W) : Tab W := by
  have ht : Lib.TabIs Tryd.prog W "rubrick/sha.roundWords" .u32 words64 := Lib.tabIs_of_head (rest := []) gTab gTabType ShaW.under57 underW cellsW cellsTab h
  intro i hi
  rw [ht.cell gTab i hi, words64_eq i hi]
/-- A WORLD FOR THE WITNESS: the settled one, the table (block 0) holding what its initialiser lays. -/
noncomputable def laidWorld (os : Os) : World :=
  { World.holding Tryd.prog os ⟨#[], #[], []⟩ with heap := (World.holding Tryd.prog os ⟨#[], #[], []⟩).heap.modify 0 fun
      | .cells _ t frozen => .cells #[.int .u32 1116352408, .int .u32 1899447441, .int .u32 3049323471, .int .u32 3921009573, .int .u32 961987163, .int .u32 1508970993, .int .u32 2453635748, .int .u32 2870763221, .int .u32 3624381080, .int .u32 310598401, .int .u32 607225278, .int .u32 1426881987, .int .u32 1925078388, .int .u32 2162078206, .int .u32 2614888103, .int .u32 3248222580, .int .u32 3835390401, .int .u32 4022224774, .int .u32 264347078, .int .u32 604807628, .int .u32 770255983, .int .u32 1249150122, .int .u32 1555081692, .int .u32 1996064986, .int .u32 2554220882, .int .u32 2821834349, .int .u32 2952996808, .int .u32 3210313671, .int .u32 3336571891, .int .u32 3584528711, .int .u32 113926993, .int .u32 338241895, .int .u32 666307205, .int .u32 773529912, .int .u32 1294757372, .int .u32 1396182291, .int .u32 1695183700, .int .u32 1986661051, .int .u32 2177026350, .int .u32 2456956037, .int .u32 2730485921, .int .u32 2820302411, .int .u32 3259730800, .int .u32 3345764771, .int .u32 3516065817, .int .u32 3600352804, .int .u32 4094571909, .int .u32 275423344, .int .u32 430227734, .int .u32 506948616, .int .u32 659060556, .int .u32 883997877, .int .u32 958139571, .int .u32 1322822218, .int .u32 1537002063, .int .u32 1747873779, .int .u32 1955562222, .int .u32 2024104815, .int .u32 2227730452, .int .u32 2361852424, .int .u32 2428436474, .int .u32 2756734187, .int .u32 3204031479, .int .u32 3329325298] t frozen
      | o => o }
end Go.Proofs.YtihkfomldbjpoaaDoor.TieW
