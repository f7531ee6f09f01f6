/- Texts of one proof, joined. -/
import Derived.Test.YtldghdbbooopdaaDoorJ2
/- The statements' own digests; what is known of proofs. -/
namespace Go.Proofs.YtldghdbbooopdaaDoor.CoW
open Go.RowKit TreeW ConsW TrW
open ShaW Sha
set_option maxRecDepth 100000 in
set_option maxHeartbeats 2000000 in
theorem digests_law (A : Option Addr) (l c : Nat) (vs : List Value) (bss : List (List UInt8)) (w : World) (hl : bss.length = l) (hA : Sl w A vs) (hR : RowsAt w vs bss) (hl63 : l ≤ 9223372036854775807) :
    Calls Tryd.prog 17 #[.slice A l c] w fun e w' => ∃ v, e = .returned v ∧ OwS w.heap.size w' v (dg (bss.take 40)) ∧ Below w.heap.size w w' := by
  have HL := Lib.hid hl
  have HRL := Lib.hid hR.1
  have HR2 := Lib.hid hR.2
  have h0 : Below w.heap.size w w := Below.refl _ _
  clear hl hR
  go_enter Tryd.func17, Tryd.ntmps17
  go_wp2_with fail
  go_loopw [3, 4] (fun v i wr => ∃ j : Nat, j ≤ l ∧ j ≤ 40 ∧ i = .int .i64 (j : Int) ∧ OwS w.heap.size wr v (dg (bss.take j)) ∧ Below w.heap.size w wr) (fun _ i _ => 40 - (intOf i).toNat)
  case atStart => exact ⟨0, by omega, by omega, rfl, OwS.nil _ _, h0⟩
  case round =>
    clear h0
    obtain ⟨j, hj, hj40, rfl, hown, hbel⟩ := hrel
    by_cases hlt : j < l
    · by_cases h40 : j < 40
      · have hjb : j < bss.length := by rw [HL.out]; exact hlt
        obtain ⟨b, o, rfl, hblt, hcell⟩ := hA.get (j := j) (by rw [HRL.out]; exact hjb)
        obtain ⟨B, d, hv, hB, hBd, hd⟩ := HR2.out j hjb
        have hc0 := (hbel.cell (p := ⟨b, o + j, none⟩) hblt).trans (hcell j _ hv)
        have hB1 := hB.below hbel
        have hxj : bss[j]? = some (bss.getD j []) := by simp [hjb]
        obtain ⟨x, hx⟩ : ∃ x, bss.getD j [] = x := ⟨_, rfl⟩
        rw [hx] at hc0 hB1 hBd hxj
        have HY := Lib.hid (dg_more hxj)
        have HN := Lib.hid (dg_same hxj)
        obtain ⟨q, hq⟩ : ∃ q, x.length = q := ⟨_, rfl⟩
        rw [hq] at hc0 hBd HY HN
        have HQ := Lib.hid hq
        obtain ⟨m, hm⟩ : ∃ m, m = (dg (bss.take j)).length := ⟨_, rfl⟩
        have HM := Lib.hid hm
        have hmj : m ≤ j := by rw [hm]; exact Nat.le_trans (dg_len _) (by rw [List.length_take]; omega)
        unfold OwS at hown
        rw [← hm] at hown
        clear hcell hv hB hx hq hm hjb hxj
        by_cases h1000 : q ≤ 1000
        · have HX := Lib.hid (HY.out h1000)
          clear HY HN
          go_wp2_with fail
          refine (refLeaf_any B q d x _ HQ.out hB1 (by omega)).mono ?_
          rintro e w2 ⟨rfl, hb2⟩
          have b2 := hbel.trans (hb2.mono hbel.size)
          have hown2 := own_below hown hb2
          obtain ⟨s, hs⟩ : ∃ s, lf x = s := ⟨_, rfl⟩
          have HS := Lib.hid hs
          rw [hs]
          have HSL := Lib.hid (fun (W : World) => new_str W s)
          have hbx := b2.alloc b2.size (.cells #[.string s] 9)
          clear hb2 hown hs hc0 hB1
          go_wp2_with (refine wpList_app rfl (.tmp 21) (.tmp 27) 22 rfl strsTy w.heap.size _ m (scells (dg (bss.take j))) rfl (hown2.alloc _) _ 1 1 (scells [s]) rfl rfl (HSL.out _) (scells_one _) (by omega) hbx.size ?_; intro v3 w3 hown3 hgr3 hbl3)
          have hb3 := below_app hbx hgr3 (hown2.alloc (.cells #[.string s] 9)) (Nat.le_refl _) hbx.size
          have hown4 := snoc_ownS HM.out hown3
          clear hown2 hown3 hgr3 hbl3 hbx
          go_roundw
          case rel => exact ⟨j + 1, by omega, by omega, by go_num, by rw [HX.out, HS.out]; exact hown4, hb3⟩
          case measure => simp [intOf]; omega
        · have HX := Lib.hid (HN.out h1000)
          have k1 : ¬ (q : Int) ≤ 1000 := by omega
          have hown4 : OwS w.heap.size wr u3 (dg (bss.take j)) := by unfold OwS; rw [← HM.out]; exact hown
          clear HY HN hown
          go_wp2_with fail
          go_roundw
          case rel => exact ⟨j + 1, by omega, by omega, by go_num, by rw [HX.out]; exact hown4, hbel⟩
          case measure => simp [intOf]; omega
      · have h41 : j = 40 := by omega
        have HE : Hid (bss.take 40 = bss.take j) := by show _ = _; rw [h41]
        have k1 : ¬ (j : Int) < 40 := by omega
        clear h41 h40
        go_wp2_with fail
        go_ret
        exact ⟨_, rfl, by rw [HE.out]; exact hown, hbel⟩
    · have HE : Hid (bss.take 40 = bss.take j) := by
        show _ = _
        rw [List.take_of_length_le (by rw [HL.out]; omega), List.take_of_length_le (by rw [HL.out]; omega)]
      go_wp2_with fail
      go_ret
      exact ⟨_, rfl, by rw [HE.out]; exact hown, hbel⟩
set_option maxRecDepth 1000000 in
set_option maxHeartbeats 4000000 in
theorem knows_any (w : World) (hT : Tab w) : Calls Tryd.prog 9 #[] w fun e w' => e = .returned (.bool true) ∧ Below w.heap.size w w' := by
  have hpos := hT.pos
  have HT := Lib.hid (fun W (hb : Below w.heap.size w W) => hT.below hb hpos)
  obtain ⟨G, hG⟩ : ∃ G, w.heap.size = G := ⟨_, rfl⟩
  obtain ⟨V1, hV1⟩ : ∃ W, w.alloc (.cells #[.int .u8 0] 5) = W := ⟨_, rfl⟩
  have z1 : V1.heap.size = G + 1 := by rw [← hV1, ← hG]; simp
  have d1 : Below w.heap.size w V1 := by rw [← hV1]; exact (Below.refl _ _).alloc (Nat.le_refl _) _
  have s0 : Sl V1 (some ⟨G, 0, none⟩) (bcells [0]) := by rw [← hV1]; exact lit_sl w 0 _ hG.symm
  have e1 : Below w.heap.size w V1 := d1
  obtain ⟨V2, hV2⟩ : ∃ W, V1.alloc (.cells #[.int .u8 1] 5) = W := ⟨_, rfl⟩
  have z2 : V2.heap.size = G + 2 := by rw [← hV2]; simp [z1]
  have d2 : Below V1.heap.size V1 V2 := by rw [← hV2]; exact (Below.refl _ _).alloc (Nat.le_refl _) _
  have s1 : Sl V2 (some ⟨G + 1, 0, none⟩) (bcells [1]) := by rw [← hV2]; exact lit_sl V1 1 _ z1.symm
  have s0 := s0.below d2
  have e2 : Below w.heap.size w V2 := e1.trans (d2.mono e1.size)
  obtain ⟨V3, hV3⟩ : ∃ W, V2.alloc (.cells #[.int .u8 2] 5) = W := ⟨_, rfl⟩
  have z3 : V3.heap.size = G + 3 := by rw [← hV3]; simp [z2]
  have d3 : Below V2.heap.size V2 V3 := by rw [← hV3]; exact (Below.refl _ _).alloc (Nat.le_refl _) _
  have s2 : Sl V3 (some ⟨G + 2, 0, none⟩) (bcells [2]) := by rw [← hV3]; exact lit_sl V2 2 _ z2.symm
  have s0 := s0.below d3
  have s1 := s1.below d3
  have e3 : Below w.heap.size w V3 := e2.trans (d3.mono e2.size)
  obtain ⟨V4, hV4⟩ : ∃ W, V3.alloc (.cells #[.int .u8 3] 5) = W := ⟨_, rfl⟩
  have z4 : V4.heap.size = G + 4 := by rw [← hV4]; simp [z3]
  have d4 : Below V3.heap.size V3 V4 := by rw [← hV4]; exact (Below.refl _ _).alloc (Nat.le_refl _) _
  have s3 : Sl V4 (some ⟨G + 3, 0, none⟩) (bcells [3]) := by rw [← hV4]; exact lit_sl V3 3 _ z3.symm
  have s0 := s0.below d4
  have s1 := s1.below d4
  have s2 := s2.below d4
  have e4 : Below w.heap.size w V4 := e3.trans (d4.mono e3.size)
  obtain ⟨V5, hV5⟩ : ∃ W, V4.alloc (.cells #[.int .u8 4] 5) = W := ⟨_, rfl⟩
  have z5 : V5.heap.size = G + 5 := by rw [← hV5]; simp [z4]
  have d5 : Below V4.heap.size V4 V5 := by rw [← hV5]; exact (Below.refl _ _).alloc (Nat.le_refl _) _
  have s4 : Sl V5 (some ⟨G + 4, 0, none⟩) (bcells [4]) := by rw [← hV5]; exact lit_sl V4 4 _ z4.symm
  have s0 := s0.below d5
  have s1 := s1.below d5
  have s2 := s2.below d5
  have s3 := s3.below d5
  have e5 : Below w.heap.size w V5 := e4.trans (d5.mono e4.size)
  obtain ⟨V6, hV6⟩ : ∃ W, V5.alloc (.cells #[.int .u8 5] 5) = W := ⟨_, rfl⟩
  have z6 : V6.heap.size = G + 6 := by rw [← hV6]; simp [z5]
  have d6 : Below V5.heap.size V5 V6 := by rw [← hV6]; exact (Below.refl _ _).alloc (Nat.le_refl _) _
  have s5 : Sl V6 (some ⟨G + 5, 0, none⟩) (bcells [5]) := by rw [← hV6]; exact lit_sl V5 5 _ z5.symm
  have s0 := s0.below d6
  have s1 := s1.below d6
  have s2 := s2.below d6
  have s3 := s3.below d6
  have s4 := s4.below d6
  have e6 : Below w.heap.size w V6 := e5.trans (d6.mono e5.size)
  obtain ⟨V7, hV7⟩ : ∃ W, V6.alloc (.cells #[.int .u8 6] 5) = W := ⟨_, rfl⟩
  have z7 : V7.heap.size = G + 7 := by rw [← hV7]; simp [z6]
  have d7 : Below V6.heap.size V6 V7 := by rw [← hV7]; exact (Below.refl _ _).alloc (Nat.le_refl _) _
  have s6 : Sl V7 (some ⟨G + 6, 0, none⟩) (bcells [6]) := by rw [← hV7]; exact lit_sl V6 6 _ z6.symm
  have s0 := s0.below d7
  have s1 := s1.below d7
  have s2 := s2.below d7
  have s3 := s3.below d7
  have s4 := s4.below d7
  have s5 := s5.below d7
  have e7 : Below w.heap.size w V7 := e6.trans (d7.mono e6.size)
  have d8 : Below V7.heap.size V7 (V7.alloc (.cells #[.slice (some ⟨G, 0, none⟩) 1 1, .slice (some ⟨G + 1, 0, none⟩) 1 1, .slice (some ⟨G + 2, 0, none⟩) 1 1, .slice (some ⟨G + 3, 0, none⟩) 1 1, .slice (some ⟨G + 4, 0, none⟩) 1 1, .slice (some ⟨G + 5, 0, none⟩) 1 1, .slice (some ⟨G + 6, 0, none⟩) 1 1] 41)) := (Below.refl _ _).alloc (Nat.le_refl _) _
  have K4 : Hid (Sl (V7.alloc (.cells #[.slice (some ⟨G, 0, none⟩) 1 1, .slice (some ⟨G + 1, 0, none⟩) 1 1, .slice (some ⟨G + 2, 0, none⟩) 1 1, .slice (some ⟨G + 3, 0, none⟩) 1 1, .slice (some ⟨G + 4, 0, none⟩) 1 1, .slice (some ⟨G + 5, 0, none⟩) 1 1, .slice (some ⟨G + 6, 0, none⟩) 1 1] 41)) (some ⟨G + 7, 0, none⟩) [.slice (some ⟨G, 0, none⟩) 1 1, .slice (some ⟨G + 1, 0, none⟩) 1 1, .slice (some ⟨G + 2, 0, none⟩) 1 1, .slice (some ⟨G + 3, 0, none⟩) 1 1, .slice (some ⟨G + 4, 0, none⟩) 1 1, .slice (some ⟨G + 5, 0, none⟩) 1 1, .slice (some ⟨G + 6, 0, none⟩) 1 1]) := Sl.of_at_all (At.new_ V7 _ 41 [.slice (some ⟨G, 0, none⟩) 1 1, .slice (some ⟨G + 1, 0, none⟩) 1 1, .slice (some ⟨G + 2, 0, none⟩) 1 1, .slice (some ⟨G + 3, 0, none⟩) 1 1, .slice (some ⟨G + 4, 0, none⟩) 1 1, .slice (some ⟨G + 5, 0, none⟩) 1 1, .slice (some ⟨G + 6, 0, none⟩) 1 1] z7.symm)
  have R4 : Hid (RowsAt (V7.alloc (.cells #[.slice (some ⟨G, 0, none⟩) 1 1, .slice (some ⟨G + 1, 0, none⟩) 1 1, .slice (some ⟨G + 2, 0, none⟩) 1 1, .slice (some ⟨G + 3, 0, none⟩) 1 1, .slice (some ⟨G + 4, 0, none⟩) 1 1, .slice (some ⟨G + 5, 0, none⟩) 1 1, .slice (some ⟨G + 6, 0, none⟩) 1 1] 41)) [.slice (some ⟨G, 0, none⟩) 1 1, .slice (some ⟨G + 1, 0, none⟩) 1 1, .slice (some ⟨G + 2, 0, none⟩) 1 1, .slice (some ⟨G + 3, 0, none⟩) 1 1, .slice (some ⟨G + 4, 0, none⟩) 1 1, .slice (some ⟨G + 5, 0, none⟩) 1 1, .slice (some ⟨G + 6, 0, none⟩) 1 1] [[0], [1], [2], [3], [4], [5], [6]]) := by
    refine ⟨rfl, fun j hj => ?_⟩
    match j, hj with
    | 0, _ => exact ⟨_, 1, rfl, s0.below d8, by simp, by simp [maxLen]⟩
    | 1, _ => exact ⟨_, 1, rfl, s1.below d8, by simp, by simp [maxLen]⟩
    | 2, _ => exact ⟨_, 1, rfl, s2.below d8, by simp, by simp [maxLen]⟩
    | 3, _ => exact ⟨_, 1, rfl, s3.below d8, by simp, by simp [maxLen]⟩
    | 4, _ => exact ⟨_, 1, rfl, s4.below d8, by simp, by simp [maxLen]⟩
    | 5, _ => exact ⟨_, 1, rfl, s5.below d8, by simp, by simp [maxLen]⟩
    | 6, _ => exact ⟨_, 1, rfl, s6.below d8, by simp, by simp [maxLen]⟩
    | j + 7, h => simp at h; omega
  have B4 := Lib.hid (e7.trans (d8.mono e7.size))
  clear hT hpos d8 s0 d1 s1 d2 s2 d3 s3 d4 s4 d5 s5 d6 s6 d7 e1 e2 e3 e4 e5 e6 e7
  go_enter Tryd.func9, Tryd.ntmps9
  go_wp2_with fail
  refine (leaves_any (some ⟨G + 7, 0, none⟩) 7 7 _ [[0], [1], [2], [3], [4], [5], [6]] _ (HT.out _ B4.out) rfl K4.out R4.out (by omega) (by intro x hx; simp at hx; rcases hx with rfl | rfl | rfl | rfl | rfl | rfl | rfl <;> simp)).mono ?_
  rintro e w2 ⟨v, rfl, hown, hb2⟩
  have b2 := B4.out.trans (hb2.mono B4.out.size)
  clear hV1 z1 hV2 z2 hV3 z3 hV4 z4 hV5 z5 hV6 z6 hV7 z7 K4 R4 hb2 B4 hG
  obtain ⟨x0, h0⟩ : ∃ x, x = lf [0] := ⟨_, rfl⟩
  obtain ⟨x1, h1⟩ : ∃ x, x = lf [1] := ⟨_, rfl⟩
  obtain ⟨x2, h2⟩ : ∃ x, x = lf [2] := ⟨_, rfl⟩
  obtain ⟨x3, h3⟩ : ∃ x, x = lf [3] := ⟨_, rfl⟩
  obtain ⟨x4, h4⟩ : ∃ x, x = lf [4] := ⟨_, rfl⟩
  obtain ⟨x5, h5⟩ : ∃ x, x = lf [5] := ⟨_, rfl⟩
  obtain ⟨x6, h6⟩ : ∃ x, x = lf [6] := ⟨_, rfl⟩
  have HL : Hid ([[0], [1], [2], [3], [4], [5], [6]].map lf = [x0, x1, x2, x3, x4, x5, x6]) := by show _ = _; rw [h0, h1, h2, h3, h4, h5, h6]; rfl
  rw [HL.out] at hown
  have HD : Hid (Digs [x0, x1, x2, x3, x4, x5, x6]) := by rw [← HL.out]; exact lf_digs _
  have HNO : Hid (nd (rt [x0, x1, x2, x3, x4, x5, x6]) (rt [x4, x5, x6]) ≠ rt [x0, x1, x2, x3]) := by show _ ≠ _; rw [h0, h1, h2, h3, h4, h5, h6]; exact k_no
  clear HL h0 h1 h2 h3 h4 h5 h6
  have HP3 : Hid (pv [x0, x1, x2, x3, x4, x5, x6] 3 = [x2, x3, nd x0 x1, rt [x4, x5, x6]]) := rfl
  have HP4 : Hid (pv [x0, x1, x2, x3, x4, x5, x6] 4 = [rt [x4, x5, x6]]) := rfl
  obtain ⟨g, cp, rfl, hgB, hgl, hcp, hcm⟩ := hown.block (by simp)
  have hsl : Sl w2 (some ⟨g, 0, none⟩) (scells [x0, x1, x2, x3, x4, x5, x6]) := Sl.of_own hown
  have hcell := hown.cells (g := g) rfl
  have cl2 : w2.cell? ⟨g, 2, none⟩ = some (.string x2) := by have := hcell 2 _ rfl; rwa [add_lit] at this
  have cl3 : w2.cell? ⟨g, 3, none⟩ = some (.string x3) := by have := hcell 3 _ rfl; rwa [add_lit] at this
  change 7 ≤ cp at hcp
  clear hown hcell hgB
  go_wp2_with fail
  refine (Prove_ok (some ⟨g, 0, none⟩) 7 cp [x0, x1, x2, x3, x4, x5, x6] 3 _ (HT.out _ b2) rfl hsl HD.out (by omega) hcp (by omega)).mono ?_
  rintro e w3 ⟨v3, rfl, hown3, hb3⟩
  rw [HP3.out] at hown3
  have b3 := b2.trans (hb3.mono b2.size)
  have hsl3 := hsl.below hb3
  have cl2 := (hb3.cell (p := ⟨g, 2, none⟩) hgl).trans cl2
  have cl3 := (hb3.cell (p := ⟨g, 3, none⟩) hgl).trans cl3
  have hgl3 : g < w3.heap.size := by have := hb3.size; omega
  obtain ⟨p, cq, rfl, hpB, hpl, hcq, hcqm⟩ := hown3.block (by simp)
  have hcell := hown3.cells (g := p) rfl
  have cp0 : w3.cell? ⟨p, 0, none⟩ = some (.string x2) := by have := hcell 0 _ rfl; rwa [add_lit] at this
  have cp1 : w3.cell? ⟨p, 1, none⟩ = some (.string x3) := by have := hcell 1 _ rfl; rwa [add_lit] at this
  have cp3 : w3.cell? ⟨p, 3, none⟩ = some (.string (rt [x4, x5, x6])) := by have := hcell 3 _ rfl; rwa [add_lit] at this
  clear hown3 hcell hsl hpB hb3 hgl
  go_wp2_with fail
  refine (Prove_ok (some ⟨g, 0, none⟩) 7 cp [x0, x1, x2, x3, x4, x5, x6] 4 _ (HT.out _ b3) rfl hsl3 HD.out (by omega) hcp (by omega)).mono ?_
  rintro e w4 ⟨v4, rfl, hown4, hb4⟩
  rw [HP4.out] at hown4
  have b4 := b3.trans (hb4.mono b3.size)
  have hsl4 := hsl3.below hb4
  have cl2 := (hb4.cell (p := ⟨g, 2, none⟩) hgl3).trans cl2
  have cl3 := (hb4.cell (p := ⟨g, 3, none⟩) hgl3).trans cl3
  have cp0 := (hb4.cell (p := ⟨p, 0, none⟩) hpl).trans cp0
  have cp1 := (hb4.cell (p := ⟨p, 1, none⟩) hpl).trans cp1
  have cp3 := (hb4.cell (p := ⟨p, 3, none⟩) hpl).trans cp3
  have hgl4 : g < w4.heap.size := by have := hb4.size; omega
  have hpl4 : p < w4.heap.size := by have := hb4.size; omega
  obtain ⟨q, cr, rfl, hqB, hql, hcr, hcrm⟩ := hown4.block (by simp)
  have cq0 : w4.cell? ⟨q, 0, none⟩ = some (.string (rt [x4, x5, x6])) := by have := hown4.cells (g := q) rfl 0 _ rfl; rwa [add_lit] at this
  have sq4 : Sl w4 (some ⟨q, 0, none⟩) (scells [rt [x4, x5, x6]]) := Sl.of_own hown4
  change 1 ≤ cr at hcr
  clear hown4 hsl3 hqB hb4 hgl3 hpl
  have hto := fun w' => run_to (P := Tryd.prog) strsTy w' (some ⟨g, 0, none⟩) 7 cp 4 .i64 (by omega)
  have t4 : Sl w4 (some ⟨g, 0, none⟩) (scells [x0, x1, x2, x3]) := hsl4.take 4
  have f4 : Sl w4 (some ⟨g, 4, none⟩) (scells [x4, x5, x6]) := by
    have := hsl4.cut 4 cp hcp
    rw [if_neg (by omega)] at this
    exact this
  have HD4 : Hid (Digs [x0, x1, x2, x3]) := HD.out.take 4
  have HD5 : Hid (Digs [x4, x5, x6]) := HD.out.drop 4
  go_wp2_with fail
  refine (Root_ok (some ⟨g, 0, none⟩) 4 cp [x0, x1, x2, x3] _ (HT.out _ b4) rfl t4 (by omega) (by omega) HD4.out).mono ?_
  rintro e w5 ⟨rfl, hb5⟩
  have b5 := b4.trans (hb5.mono b4.size)
  have cl2 := (hb5.cell (p := ⟨g, 2, none⟩) hgl4).trans cl2
  have cl3 := (hb5.cell (p := ⟨g, 3, none⟩) hgl4).trans cl3
  have cp0 := (hb5.cell (p := ⟨p, 0, none⟩) hpl4).trans cp0
  have cp1 := (hb5.cell (p := ⟨p, 1, none⟩) hpl4).trans cp1
  have cp3 := (hb5.cell (p := ⟨p, 3, none⟩) hpl4).trans cp3
  have cq0 := (hb5.cell (p := ⟨q, 0, none⟩) hql).trans cq0
  have hgl5 : g < w5.heap.size := by have := hb5.size; omega
  have hpl5 : p < w5.heap.size := by have := hb5.size; omega
  have hql5 : q < w5.heap.size := by have := hb5.size; omega
  have sq5 := sq4.below hb5
  have hsl5 := hsl4.below hb5
  have f5 := f4.below hb5
  clear t4 f4 hsl4 hb5 sq4 hto hgl4 hpl4 hql
  go_wp2_with fail
  refine (Root_ok (some ⟨g, 0, none⟩) 7 cp [x0, x1, x2, x3, x4, x5, x6] _ (HT.out _ b5) rfl hsl5 (by omega) (by omega) HD.out).mono ?_
  rintro e w6 ⟨rfl, hb6⟩
  have b6 := b5.trans (hb6.mono b5.size)
  have cl2 := (hb6.cell (p := ⟨g, 2, none⟩) hgl5).trans cl2
  have cl3 := (hb6.cell (p := ⟨g, 3, none⟩) hgl5).trans cl3
  have cp0 := (hb6.cell (p := ⟨p, 0, none⟩) hpl5).trans cp0
  have cp1 := (hb6.cell (p := ⟨p, 1, none⟩) hpl5).trans cp1
  have cp3 := (hb6.cell (p := ⟨p, 3, none⟩) hpl5).trans cp3
  have cq0 := (hb6.cell (p := ⟨q, 0, none⟩) hql5).trans cq0
  have hgl6 : g < w6.heap.size := by have := hb6.size; omega
  have hpl6 : p < w6.heap.size := by have := hb6.size; omega
  have hql6 : q < w6.heap.size := by have := hb6.size; omega
  have sq6 := sq5.below hb6
  have f6 := f5.below hb6
  clear hsl5 hb6 f5 sq5 hgl5 hpl5 hql5
  go_wp2_with fail
  refine (Root_ok (some ⟨g, 4, none⟩) 3 (cp - 4) [x4, x5, x6] _ (HT.out _ b6) rfl f6 (by omega) (by omega) HD5.out).mono ?_
  rintro e w7 ⟨rfl, hb7⟩
  have b7 := b6.trans (hb7.mono b6.size)
  have cl2 := (hb7.cell (p := ⟨g, 2, none⟩) hgl6).trans cl2
  have cl3 := (hb7.cell (p := ⟨g, 3, none⟩) hgl6).trans cl3
  have cp0 := (hb7.cell (p := ⟨p, 0, none⟩) hpl6).trans cp0
  have cp1 := (hb7.cell (p := ⟨p, 1, none⟩) hpl6).trans cp1
  have cp3 := (hb7.cell (p := ⟨p, 3, none⟩) hpl6).trans cp3
  have cq0 := (hb7.cell (p := ⟨q, 0, none⟩) hql6).trans cq0
  have hgl7 : g < w7.heap.size := by have := hb7.size; omega
  have hpl7 : p < w7.heap.size := by have := hb7.size; omega
  have hql7 : q < w7.heap.size := by have := hb7.size; omega
  have sq7 := sq6.below hb7
  clear hb7 f6 sq6 hgl6 hpl6 hql6
  have ZA : Hid ((rt [x0, x1, x2, x3]).size = 32) := rt_size _ _ (Nat.le_refl _) HD4.out
  have ZB : Hid ((rt [x0, x1, x2, x3, x4, x5, x6]).size = 32) := rt_size _ _ (Nat.le_refl _) HD.out
  have HDC : Hid (Digs [rt [x4, x5, x6]]) := by intro x hx; simp at hx; subst hx; exact rt_size _ _ (Nat.le_refl _) HD5.out
  have HY : Hid (acc 4 7 (rt [x0, x1, x2, x3]) (rt [x0, x1, x2, x3, x4, x5, x6]) [rt [x4, x5, x6]]) := accept_back nd ed [x0, x1, x2, x3, x4, x5, x6] 4 (by simp)
  have HN : Hid (¬ (Digs [rt [x4, x5, x6]] ∧ acc 4 7 (rt [x0, x1, x2, x3, x4, x5, x6]) (rt [x0, x1, x2, x3]) [rt [x4, x5, x6]])) := by
    rintro ⟨_, h⟩
    have h1 := (accept_pos nd ed (by omega)).1 h
    have h2 : ConsW.roots nd 4 7 true (rt [x0, x1, x2, x3, x4, x5, x6]) [rt [x4, x5, x6]] = some (rt [x0, x1, x2, x3, x4, x5, x6], nd (rt [x0, x1, x2, x3, x4, x5, x6]) (rt [x4, x5, x6])) := rfl
    rw [h2] at h1
    exact HNO.out (by simpa using h1)
  have Hcl2 : Hid (∀ w', Below w7.heap.size w7.drew w' → w'.cell? ⟨g, 2, none⟩ = some (.string x2)) := fun w' hb => (hb.cell (p := ⟨g, 2, none⟩) hgl7).trans cl2
  have Hcl3 : Hid (∀ w', Below w7.heap.size w7.drew w' → w'.cell? ⟨g, 3, none⟩ = some (.string x3)) := fun w' hb => (hb.cell (p := ⟨g, 3, none⟩) hgl7).trans cl3
  have Hcp0 : Hid (∀ w', Below w7.heap.size w7.drew w' → w'.cell? ⟨p, 0, none⟩ = some (.string x2)) := fun w' hb => (hb.cell (p := ⟨p, 0, none⟩) hpl7).trans cp0
  have Hcp1 : Hid (∀ w', Below w7.heap.size w7.drew w' → w'.cell? ⟨p, 1, none⟩ = some (.string x3)) := fun w' hb => (hb.cell (p := ⟨p, 1, none⟩) hpl7).trans cp1
  have Hcp3 : Hid (∀ w', Below w7.heap.size w7.drew w' → w'.cell? ⟨p, 3, none⟩ = some (.string (rt [x4, x5, x6]))) := fun w' hb => (hb.cell (p := ⟨p, 3, none⟩) hpl7).trans cp3
  have Hcq0 : Hid (∀ w', Below w7.heap.size w7.drew w' → w'.cell? ⟨q, 0, none⟩ = some (.string (rt [x4, x5, x6]))) := fun w' hb => (hb.cell (p := ⟨q, 0, none⟩) hql7).trans cq0
  clear cl2 cl3 cp0 cp1 cp3 cq0 HNO
  have b70 := b7.drew
  go_wp2_with fail
  have b7x : Below w7.heap.size w7.drew w7.drew := Below.refl _ _
  have b7w : Below w7.heap.size w7 w7.drew := (Below.refl _ _).drew
  refine regB_begin (w7.heap.size) (by kernel_rfl) ?_
  change wpAnyH _ _ _ _ _ 63 #[false, false, false, false, false, false, false, false, false, false, false, false, false, false, false, false, false, false, false, false, false, false, false, false, false, false, false, false, false, false, false, false, false, false, false, false, false, false, false, false, false, false, false, false, false, false, false, false, false, false, false, false, false, false, false, false, false, false, false, false, false, false, false] _ _
  refine regB_take (i := 0) (d := some 51) (v := (.slice (some ⟨p, 0, none⟩) 4 cq)) rfl rfl (by kernel_rfl) (by kernel_rfl) (by kernel_rfl) (fun _ _ _ h => h) (by rfl) (by intro w' hSw; go_simp) ?_
  try simp only [Act.put, List.setIfInBounds_toArray, List.set_cons_zero, List.set_cons_succ]
  refine regB_take (i := 1) (d := some 52) (v := (.int .i64 4)) rfl rfl (by kernel_rfl) (by kernel_rfl) (by kernel_rfl) (fun _ _ _ h => h) (by rfl) (by intro w' hSw; go_simp) ?_
  try simp only [Act.put, List.setIfInBounds_toArray, List.set_cons_zero, List.set_cons_succ]
  refine regB_take (i := 2) (d := some 53) (v := (.bool true)) rfl rfl (by kernel_rfl) (by kernel_rfl) (by kernel_rfl) (fun _ _ _ h => h) (by rfl) (by intro w' hSw; go_simp) ?_
  try simp only [Act.put, List.setIfInBounds_toArray, List.set_cons_zero, List.set_cons_succ]
  refine regB_take (i := 3) (d := some 54) (v := (.bool true)) rfl rfl (by kernel_rfl) (by kernel_rfl) (by kernel_rfl) (fun _ _ _ h => h) (by rfl) (by intro w' hSw; go_simp) ?_
  try simp only [Act.put, List.setIfInBounds_toArray, List.set_cons_zero, List.set_cons_succ]
  refine regB_take (i := 4) (d := some 55) (v := (.slice (some ⟨p, 0, none⟩) 4 cq)) rfl rfl (by kernel_rfl) (by kernel_rfl) (by kernel_rfl) (fun _ _ _ h => h) (by rfl) (by intro w' hSw; go_simp) ?_
  try simp only [Act.put, List.setIfInBounds_toArray, List.set_cons_zero, List.set_cons_succ]
  refine regB_take (i := 5) (d := some 56) (v := (.pointer (some ⟨p, 0, none⟩))) rfl rfl (by kernel_rfl) (by kernel_rfl) (by kernel_rfl) (fun _ _ _ h => h) (by rfl) (by intro w' hSw; go_simp) ?_
  try simp only [Act.put, List.setIfInBounds_toArray, List.set_cons_zero, List.set_cons_succ]
  refine regB_take (i := 6) (d := some 57) (v := (.string x2)) rfl rfl (by kernel_rfl) (by kernel_rfl) (by kernel_rfl) (fun _ _ _ h => h) (by rfl) (by intro w' hSw; have h9 := Hcp0.out w' (b7x.trans hSw); go_simp) ?_
  try simp only [Act.put, List.setIfInBounds_toArray, List.set_cons_zero, List.set_cons_succ]
  refine regB_take (i := 7) (d := some 58) (v := (.slice (some ⟨g, 0, none⟩) 7 cp)) rfl rfl (by kernel_rfl) (by kernel_rfl) (by kernel_rfl) (fun _ _ _ h => h) (by rfl) (by intro w' hSw; go_simp) ?_
  try simp only [Act.put, List.setIfInBounds_toArray, List.set_cons_zero, List.set_cons_succ]
  refine regB_take (i := 8) (d := some 59) (v := (.pointer (some ⟨g, 2, none⟩))) rfl rfl (by kernel_rfl) (by kernel_rfl) (by kernel_rfl) (fun _ _ _ h => h) (by rfl) (by intro w' hSw; go_simp) ?_
  try simp only [Act.put, List.setIfInBounds_toArray, List.set_cons_zero, List.set_cons_succ]
  refine regB_take (i := 9) (d := some 60) (v := (.string x2)) rfl rfl (by kernel_rfl) (by kernel_rfl) (by kernel_rfl) (fun _ _ _ h => h) (by rfl) (by intro w' hSw; have h9 := Hcl2.out w' (b7x.trans hSw); go_simp) ?_
  try simp only [Act.put, List.setIfInBounds_toArray, List.set_cons_zero, List.set_cons_succ]
  refine regB_take (i := 10) (d := some 61) (v := (.bool true)) rfl rfl (by kernel_rfl) (by kernel_rfl) (by kernel_rfl) (fun _ _ _ h => h) (by rfl) (by intro w' hSw; go_simp) ?_
  try simp only [Act.put, List.setIfInBounds_toArray, List.set_cons_zero, List.set_cons_succ]
  refine regB_take (i := 11) (d := some 62) (v := (.bool true)) rfl rfl (by kernel_rfl) (by kernel_rfl) (by kernel_rfl) (fun _ _ _ h => h) (by rfl) (by intro w' hSw; go_simp) ?_
  try simp only [Act.put, List.setIfInBounds_toArray, List.set_cons_zero, List.set_cons_succ]
  refine regB_take (i := 12) (d := some 63) (v := (.bool true)) rfl rfl (by kernel_rfl) (by kernel_rfl) (by kernel_rfl) (fun _ _ _ h => h) (by rfl) (by intro w' hSw; go_simp) ?_
  try simp only [Act.put, List.setIfInBounds_toArray, List.set_cons_zero, List.set_cons_succ]
  refine regB_take (i := 13) (d := some 64) (v := (.slice (some ⟨p, 0, none⟩) 4 cq)) rfl rfl (by kernel_rfl) (by kernel_rfl) (by kernel_rfl) (fun _ _ _ h => h) (by rfl) (by intro w' hSw; go_simp) ?_
  try simp only [Act.put, List.setIfInBounds_toArray, List.set_cons_zero, List.set_cons_succ]
  refine regB_take (i := 14) (d := some 65) (v := (.pointer (some ⟨p, 1, none⟩))) rfl rfl (by kernel_rfl) (by kernel_rfl) (by kernel_rfl) (fun _ _ _ h => h) (by rfl) (by intro w' hSw; go_simp) ?_
  try simp only [Act.put, List.setIfInBounds_toArray, List.set_cons_zero, List.set_cons_succ]
  refine regB_take (i := 15) (d := some 66) (v := (.string x3)) rfl rfl (by kernel_rfl) (by kernel_rfl) (by kernel_rfl) (fun _ _ _ h => h) (by rfl) (by intro w' hSw; have h9 := Hcp1.out w' (b7x.trans hSw); go_simp) ?_
  try simp only [Act.put, List.setIfInBounds_toArray, List.set_cons_zero, List.set_cons_succ]
  refine regB_take (i := 16) (d := some 67) (v := (.slice (some ⟨g, 0, none⟩) 7 cp)) rfl rfl (by kernel_rfl) (by kernel_rfl) (by kernel_rfl) (fun _ _ _ h => h) (by rfl) (by intro w' hSw; go_simp) ?_
  try simp only [Act.put, List.setIfInBounds_toArray, List.set_cons_zero, List.set_cons_succ]
  refine regB_take (i := 17) (d := some 68) (v := (.pointer (some ⟨g, 3, none⟩))) rfl rfl (by kernel_rfl) (by kernel_rfl) (by kernel_rfl) (fun _ _ _ h => h) (by rfl) (by intro w' hSw; go_simp) ?_
  try simp only [Act.put, List.setIfInBounds_toArray, List.set_cons_zero, List.set_cons_succ]
  refine regB_take (i := 18) (d := some 69) (v := (.string x3)) rfl rfl (by kernel_rfl) (by kernel_rfl) (by kernel_rfl) (fun _ _ _ h => h) (by rfl) (by intro w' hSw; have h9 := Hcl3.out w' (b7x.trans hSw); go_simp) ?_
  try simp only [Act.put, List.setIfInBounds_toArray, List.set_cons_zero, List.set_cons_succ]
  refine regB_take (i := 19) (d := some 70) (v := (.bool true)) rfl rfl (by kernel_rfl) (by kernel_rfl) (by kernel_rfl) (fun _ _ _ h => h) (by rfl) (by intro w' hSw; go_simp) ?_
  try simp only [Act.put, List.setIfInBounds_toArray, List.set_cons_zero, List.set_cons_succ]
  refine regB_take (i := 20) (d := some 71) (v := (.bool true)) rfl rfl (by kernel_rfl) (by kernel_rfl) (by kernel_rfl) (fun _ _ _ h => h) (by rfl) (by intro w' hSw; go_simp) ?_
  try simp only [Act.put, List.setIfInBounds_toArray, List.set_cons_zero, List.set_cons_succ]
  refine regB_take (i := 21) (d := some 72) (v := (.bool true)) rfl rfl (by kernel_rfl) (by kernel_rfl) (by kernel_rfl) (fun _ _ _ h => h) (by rfl) (by intro w' hSw; go_simp) ?_
  try simp only [Act.put, List.setIfInBounds_toArray, List.set_cons_zero, List.set_cons_succ]
  refine regB_take (i := 22) (d := some 73) (v := (.slice (some ⟨p, 0, none⟩) 4 cq)) rfl rfl (by kernel_rfl) (by kernel_rfl) (by kernel_rfl) (fun _ _ _ h => h) (by rfl) (by intro w' hSw; go_simp) ?_
  try simp only [Act.put, List.setIfInBounds_toArray, List.set_cons_zero, List.set_cons_succ]
  refine regB_take (i := 23) (d := some 74) (v := (.pointer (some ⟨p, 3, none⟩))) rfl rfl (by kernel_rfl) (by kernel_rfl) (by kernel_rfl) (fun _ _ _ h => h) (by rfl) (by intro w' hSw; go_simp) ?_
  try simp only [Act.put, List.setIfInBounds_toArray, List.set_cons_zero, List.set_cons_succ]
  refine regB_take (i := 24) (d := some 75) (v := (.string (rt [x4, x5, x6]))) rfl rfl (by kernel_rfl) (by kernel_rfl) (by kernel_rfl) (fun _ _ _ h => h) (by rfl) (by intro w' hSw; have h9 := Hcp3.out w' (b7x.trans hSw); go_simp) ?_
  try simp only [Act.put, List.setIfInBounds_toArray, List.set_cons_zero, List.set_cons_succ]
  refine regB_take (i := 25) (d := some 76) (v := (.string (rt [x4, x5, x6]))) rfl rfl (by kernel_rfl) (by kernel_rfl) (by kernel_rfl) (fun _ _ _ h => h) (by rfl) (by intro w' hSw; go_simp) ?_
  try simp only [Act.put, List.setIfInBounds_toArray, List.set_cons_zero, List.set_cons_succ]
  refine regB_take (i := 26) (d := some 77) (v := (.bool true)) rfl rfl (by kernel_rfl) (by kernel_rfl) (by kernel_rfl) (fun _ _ _ h => h) (by rfl) (by intro w' hSw; go_simp) ?_
  try simp only [Act.put, List.setIfInBounds_toArray, List.set_cons_zero, List.set_cons_succ]
  refine regB_take (i := 27) (d := some 78) (v := (.bool true)) rfl rfl (by kernel_rfl) (by kernel_rfl) (by kernel_rfl) (fun _ _ _ h => h) (by rfl) (by intro w' hSw; go_simp) ?_
  try simp only [Act.put, List.setIfInBounds_toArray, List.set_cons_zero, List.set_cons_succ]
  refine regB_take (i := 28) (d := some 79) (v := (.bool true)) rfl rfl (by kernel_rfl) (by kernel_rfl) (by kernel_rfl) (fun _ _ _ h => h) (by rfl) (by intro w' hSw; go_simp) ?_
  try simp only [Act.put, List.setIfInBounds_toArray, List.set_cons_zero, List.set_cons_succ]
  refine regB_take (i := 29) (d := some 80) (v := (.int .i64 0)) rfl rfl (by kernel_rfl) (by kernel_rfl) (by kernel_rfl) (fun _ _ _ h => h) (by rfl) (by intro w' hSw; go_simp) ?_
  try simp only [Act.put, List.setIfInBounds_toArray, List.set_cons_zero, List.set_cons_succ]
  refine regB_take (i := 30) (d := some 81) (v := (.bool true)) rfl rfl (by kernel_rfl) (by kernel_rfl) (by kernel_rfl) (fun _ _ _ h => h) (by rfl) (by intro w' hSw; go_simp) ?_
  try simp only [Act.put, List.setIfInBounds_toArray, List.set_cons_zero, List.set_cons_succ]
  refine regB_take (i := 31) (d := some 82) (v := (.bool true)) rfl rfl (by kernel_rfl) (by kernel_rfl) (by kernel_rfl) (fun _ _ _ h => h) (by rfl) (by intro w' hSw; go_simp) ?_
  try simp only [Act.put, List.setIfInBounds_toArray, List.set_cons_zero, List.set_cons_succ]
  refine regB_take (i := 32) (d := some 83) (v := (.bool true)) rfl rfl (by kernel_rfl) (by kernel_rfl) (by kernel_rfl) (fun _ _ _ h => h) (by rfl) (by intro w' hSw; go_simp) ?_
  try simp only [Act.put, List.setIfInBounds_toArray, List.set_cons_zero, List.set_cons_succ]
  refine regB_take (i := 33) (d := some 84) (v := (.slice (some ⟨q, 0, none⟩) 1 cr)) rfl rfl (by kernel_rfl) (by kernel_rfl) (by kernel_rfl) (fun _ _ _ h => h) (by rfl) (by intro w' hSw; go_simp) ?_
  try simp only [Act.put, List.setIfInBounds_toArray, List.set_cons_zero, List.set_cons_succ]
  refine regB_take (i := 34) (d := some 85) (v := (.int .i64 1)) rfl rfl (by kernel_rfl) (by kernel_rfl) (by kernel_rfl) (fun _ _ _ h => h) (by rfl) (by intro w' hSw; go_simp) ?_
  try simp only [Act.put, List.setIfInBounds_toArray, List.set_cons_zero, List.set_cons_succ]
  refine regB_take (i := 35) (d := some 86) (v := (.bool true)) rfl rfl (by kernel_rfl) (by kernel_rfl) (by kernel_rfl) (fun _ _ _ h => h) (by rfl) (by intro w' hSw; go_simp) ?_
  try simp only [Act.put, List.setIfInBounds_toArray, List.set_cons_zero, List.set_cons_succ]
  refine regB_take (i := 36) (d := some 87) (v := (.bool true)) rfl rfl (by kernel_rfl) (by kernel_rfl) (by kernel_rfl) (fun _ _ _ h => h) (by rfl) (by intro w' hSw; go_simp) ?_
  try simp only [Act.put, List.setIfInBounds_toArray, List.set_cons_zero, List.set_cons_succ]
  refine regB_take (i := 37) (d := some 88) (v := (.bool true)) rfl rfl (by kernel_rfl) (by kernel_rfl) (by kernel_rfl) (fun _ _ _ h => h) (by rfl) (by intro w' hSw; go_simp) ?_
  try simp only [Act.put, List.setIfInBounds_toArray, List.set_cons_zero, List.set_cons_succ]
  refine regB_take (i := 38) (d := some 89) (v := (.slice (some ⟨q, 0, none⟩) 1 cr)) rfl rfl (by kernel_rfl) (by kernel_rfl) (by kernel_rfl) (fun _ _ _ h => h) (by rfl) (by intro w' hSw; go_simp) ?_
  try simp only [Act.put, List.setIfInBounds_toArray, List.set_cons_zero, List.set_cons_succ]
  refine regB_take (i := 39) (d := some 90) (v := (.pointer (some ⟨q, 0, none⟩))) rfl rfl (by kernel_rfl) (by kernel_rfl) (by kernel_rfl) (fun _ _ _ h => h) (by rfl) (by intro w' hSw; go_simp) ?_
  try simp only [Act.put, List.setIfInBounds_toArray, List.set_cons_zero, List.set_cons_succ]
  refine regB_take (i := 40) (d := some 91) (v := (.string (rt [x4, x5, x6]))) rfl rfl (by kernel_rfl) (by kernel_rfl) (by kernel_rfl) (fun _ _ _ h => h) (by rfl) (by intro w' hSw; have h9 := Hcq0.out w' (b7x.trans hSw); go_simp) ?_
  try simp only [Act.put, List.setIfInBounds_toArray, List.set_cons_zero, List.set_cons_succ]
  refine regB_take (i := 41) (d := some 92) (v := (.string (rt [x4, x5, x6]))) rfl rfl (by kernel_rfl) (by kernel_rfl) (by kernel_rfl) (fun _ _ _ h => h) (by rfl) (by intro w' hSw; go_simp) ?_
  try simp only [Act.put, List.setIfInBounds_toArray, List.set_cons_zero, List.set_cons_succ]
  refine regB_take (i := 42) (d := some 93) (v := (.bool true)) rfl rfl (by kernel_rfl) (by kernel_rfl) (by kernel_rfl) (fun _ _ _ h => h) (by rfl) (by intro w' hSw; go_simp) ?_
  try simp only [Act.put, List.setIfInBounds_toArray, List.set_cons_zero, List.set_cons_succ]
  refine regB_take (i := 43) (d := some 94) (v := (.bool true)) rfl rfl (by kernel_rfl) (by kernel_rfl) (by kernel_rfl) (fun _ _ _ h => h) (by rfl) (by intro w' hSw; go_simp) ?_
  try simp only [Act.put, List.setIfInBounds_toArray, List.set_cons_zero, List.set_cons_succ]
  refine regB_take (i := 44) (d := some 95) (v := (.bool true)) rfl rfl (by kernel_rfl) (by kernel_rfl) (by kernel_rfl) (fun _ _ _ h => h) (by rfl) (by intro w' hSw; go_simp) ?_
  try simp only [Act.put, List.setIfInBounds_toArray, List.set_cons_zero, List.set_cons_succ]
  refine regB_take (i := 45) (d := some 96) (v := (.int .i64 0)) rfl rfl (by kernel_rfl) (by kernel_rfl) (by kernel_rfl) (fun _ _ _ h => h) (by rfl) (by intro w' hSw; go_simp) ?_
  try simp only [Act.put, List.setIfInBounds_toArray, List.set_cons_zero, List.set_cons_succ]
  refine regB_take (i := 46) (d := some 97) (v := (.bool true)) rfl rfl (by kernel_rfl) (by kernel_rfl) (by kernel_rfl) (fun _ _ _ h => h) (by rfl) (by intro w' hSw; go_simp) ?_
  try simp only [Act.put, List.setIfInBounds_toArray, List.set_cons_zero, List.set_cons_succ]
  refine regB_take (i := 47) (d := some 98) (v := (.bool true)) rfl rfl (by kernel_rfl) (by kernel_rfl) (by kernel_rfl) (fun _ _ _ h => h) (by rfl) (by intro w' hSw; go_simp) ?_
  try simp only [Act.put, List.setIfInBounds_toArray, List.set_cons_zero, List.set_cons_succ]
  refine regB_take (i := 48) (d := some 99) (v := (.bool true)) rfl rfl (by kernel_rfl) (by kernel_rfl) (by kernel_rfl) (fun _ _ _ h => h) (by rfl) (by intro w' hSw; go_simp) ?_
  try simp only [Act.put, List.setIfInBounds_toArray, List.set_cons_zero, List.set_cons_succ]
  refine regB_take (i := 49) (d := some 100) (v := (.string (rt [x0, x1, x2, x3]))) rfl rfl (by kernel_rfl) (by kernel_rfl) (by kernel_rfl) (fun _ _ _ h => h) (by rfl) (by intro w' hSw; go_simp) ?_
  try simp only [Act.put, List.setIfInBounds_toArray, List.set_cons_zero, List.set_cons_succ]
  refine regB_take (i := 50) (d := some 101) (v := (.string (rt [x0, x1, x2, x3, x4, x5, x6]))) rfl rfl (by kernel_rfl) (by kernel_rfl) (by kernel_rfl) (fun _ _ _ h => h) (by rfl) (by intro w' hSw; go_simp) ?_
  try simp only [Act.put, List.setIfInBounds_toArray, List.set_cons_zero, List.set_cons_succ]
  refine regB_take (i := 51) (d := some 102) (v := (.slice (some ⟨q, 0, none⟩) 1 cr)) rfl rfl (by kernel_rfl) (by kernel_rfl) (by kernel_rfl) (fun _ _ _ h => h) (by rfl) (by intro w' hSw; go_simp) ?_
  try simp only [Act.put, List.setIfInBounds_toArray, List.set_cons_zero, List.set_cons_succ]
  refine regB_call (i := 52) rfl (by kernel_rfl) (by rfl) fun K hK => ?_
  go_simp
  refine (Check_yes 4 7 (rt [x0, x1, x2, x3]) (rt [x0, x1, x2, x3, x4, x5, x6]) (some ⟨q, 0, none⟩) 1 cr [(rt [x4, x5, x6])] _ (HT.out _ b70) (by omega) (by omega) ZA.out ZB.out rfl (sq7.below b7w) hcr (by unfold maxLen at hcrm; omega) HDC.out HY.out).mono ?_
  rintro e w8 ⟨rfl, hb8⟩
  have b8 := b70.trans (hb8.mono b70.size)
  have b8w := b7w.trans (hb8.mono b7w.size)
  refine hK.out _ _ (hb8.mono (Nat.le_refl _)) ?_
  clear hK K
  try simp only [List.setIfInBounds_toArray, List.set_cons_zero, List.set_cons_succ]
  refine regB_take (i := 53) (d := some 104) (v := (.bool true)) rfl rfl (by kernel_rfl) (by kernel_rfl) (by kernel_rfl) (fun _ _ _ h => h) (by rfl) (by intro w' hSw; go_simp) ?_
  try simp only [Act.put, List.setIfInBounds_toArray, List.set_cons_zero, List.set_cons_succ]
  refine regB_take (i := 54) (d := some 105) (v := (.bool true)) rfl rfl (by kernel_rfl) (by kernel_rfl) (by kernel_rfl) (fun _ _ _ h => h) (by rfl) (by intro w' hSw; go_simp) ?_
  try simp only [Act.put, List.setIfInBounds_toArray, List.set_cons_zero, List.set_cons_succ]
  refine regB_take (i := 55) (d := some 106) (v := (.bool true)) rfl rfl (by kernel_rfl) (by kernel_rfl) (by kernel_rfl) (fun _ _ _ h => h) (by rfl) (by intro w' hSw; go_simp) ?_
  try simp only [Act.put, List.setIfInBounds_toArray, List.set_cons_zero, List.set_cons_succ]
  refine regB_take (i := 56) (d := some 107) (v := (.string (rt [x0, x1, x2, x3, x4, x5, x6]))) rfl rfl (by kernel_rfl) (by kernel_rfl) (by kernel_rfl) (fun _ _ _ h => h) (by rfl) (by intro w' hSw; go_simp) ?_
  try simp only [Act.put, List.setIfInBounds_toArray, List.set_cons_zero, List.set_cons_succ]
  refine regB_take (i := 57) (d := some 108) (v := (.string (rt [x0, x1, x2, x3]))) rfl rfl (by kernel_rfl) (by kernel_rfl) (by kernel_rfl) (fun _ _ _ h => h) (by rfl) (by intro w' hSw; go_simp) ?_
  try simp only [Act.put, List.setIfInBounds_toArray, List.set_cons_zero, List.set_cons_succ]
  refine regB_take (i := 58) (d := some 109) (v := (.slice (some ⟨q, 0, none⟩) 1 cr)) rfl rfl (by kernel_rfl) (by kernel_rfl) (by kernel_rfl) (fun _ _ _ h => h) (by rfl) (by intro w' hSw; go_simp) ?_
  try simp only [Act.put, List.setIfInBounds_toArray, List.set_cons_zero, List.set_cons_succ]
  refine regB_call (i := 59) rfl (by kernel_rfl) (by rfl) fun K hK => ?_
  go_simp
  refine (Check_no 4 7 (rt [x0, x1, x2, x3, x4, x5, x6]) (rt [x0, x1, x2, x3]) (some ⟨q, 0, none⟩) 1 cr [(rt [x4, x5, x6])] _ (HT.out _ b8) (by omega) (by omega) ZB.out ZA.out rfl (sq7.below b8w) hcr (by unfold maxLen at hcrm; omega) HN.out).mono ?_
  rintro e w9 ⟨rfl, hb9⟩
  have b9 := b8.trans (hb9.mono b8.size)
  refine hK.out _ _ (hb9.mono b8w.size) ?_
  clear hK K
  try simp only [List.setIfInBounds_toArray, List.set_cons_zero, List.set_cons_succ]
  refine regB_take (i := 60) (d := some 111) (v := (.bool true)) rfl rfl (by kernel_rfl) (by kernel_rfl) (by kernel_rfl) (fun _ _ _ h => h) (by rfl) (by intro w' hSw; go_simp) ?_
  try simp only [Act.put, List.setIfInBounds_toArray, List.set_cons_zero, List.set_cons_succ]
  refine regB_take (i := 61) (d := some 112) (v := (.bool true)) rfl rfl (by kernel_rfl) (by kernel_rfl) (by kernel_rfl) (fun _ _ _ h => h) (by rfl) (by intro w' hSw; go_simp) ?_
  try simp only [Act.put, List.setIfInBounds_toArray, List.set_cons_zero, List.set_cons_succ]
  refine regB_take (i := 62) (d := some 0) (v := (.bool true)) rfl rfl (by kernel_rfl) (by kernel_rfl) (by kernel_rfl) (fun _ _ _ h => h) (by rfl) (by intro w' hSw; go_simp) ?_
  try simp only [Act.put, List.setIfInBounds_toArray, List.set_cons_zero, List.set_cons_succ]
  refine wpAnyH_done (by kernel_rfl) ?_ _
  go_wp2_with fail
  go_ret
  exact ⟨rfl, b9⟩
end Go.Proofs.YtldghdbbooopdaaDoor.CoW

namespace Go.Proofs.YtldghdbbooopdaaDoor.TieW
open Go.ChangeShapes Go.WideShapes Go.ChangeAt Go.RowKit
open Go.ChangeMaps (open_string shut_string)
open ShaW Sha
theorem underW : Tryd.prog.underlying 49 = some (.int .u32) := by kernel_rfl
theorem own : ownKnob Tryd.prog.godebug = none := by kernel_rfl
theorem laidOut : laidOutB Tryd.prog = true := by kernel_rfl
theorem gTab : Tryd.prog.globalNamed "rubrick/sha.roundWords" = some 0 := by kernel_rfl
theorem gTabType : (Tryd.prog.globals[0]?).map (·.type) = some 77 := by kernel_rfl
theorem cellsTab : Tryd.prog.cellsOf 77 = 64 := by kernel_rfl
theorem cellsW : Tryd.prog.cellsOf 49 = 1 := by kernel_rfl
def words64 : List Int := [1116352408, 1899447441, 3049323471, 3921009573, 961987163, 1508970993, 2453635748, 2870763221, 3624381080, 310598401, 607225278, 1426881987, 1925078388, 2162078206, 2614888103, 3248222580, 3835390401, 4022224774, 264347078, 604807628, 770255983, 1249150122, 1555081692, 1996064986, 2554220882, 2821834349, 2952996808, 3210313671, 3336571891, 3584528711, 113926993, 338241895, 666307205, 773529912, 1294757372, 1396182291, 1695183700, 1986661051, 2177026350, 2456956037, 2730485921, 2820302411, 3259730800, 3345764771, 3516065817, 3600352804, 4094571909, 275423344, 430227734, 506948616, 659060556, 883997877, 958139571, 1322822218, 1537002063, 1747873779, 1955562222, 2024104815, 2227730452, 2361852424, 2428436474, 2756734187, 3204031479, 3329325298]
theorem words64_eq : ∀ i, i < 64 → words64.getD i 0 = un (K.getD i 0) := by decide
/-- WHAT THE ROW's LIST GIVES: the table's cells hold its numbers. -/
theorem tab_of {W : World} (h : laidMetH Tryd.prog [("rubrick/sha.roundWords", Rows.laid_rubrick_sha_roundWords)] W) : Tab W := by
  have ht : Lib.TabIs Tryd.prog W "rubrick/sha.roundWords" .u32 words64 := Lib.tabIs_of_head (rest := []) gTab gTabType ShaW.under57 underW cellsW cellsTab h
  intro i hi
  rw [ht.cell gTab i hi, words64_eq i hi]
/-- A WORLD FOR THE WITNESS: the settled one, the table (block 0) holding what its initialiser lays. -/
noncomputable def laidWorld (os : Os) : World :=
  { World.holding Tryd.prog os ⟨#[], #[], []⟩ with heap := (World.holding Tryd.prog os ⟨#[], #[], []⟩).heap.modify 0 fun
      | .cells _ t frozen => .cells #[.int .u32 1116352408, .int .u32 1899447441, .int .u32 3049323471, .int .u32 3921009573, .int .u32 961987163, .int .u32 1508970993, .int .u32 2453635748, .int .u32 2870763221, .int .u32 3624381080, .int .u32 310598401, .int .u32 607225278, .int .u32 1426881987, .int .u32 1925078388, .int .u32 2162078206, .int .u32 2614888103, .int .u32 3248222580, .int .u32 3835390401, .int .u32 4022224774, .int .u32 264347078, .int .u32 604807628, .int .u32 770255983, .int .u32 1249150122, .int .u32 1555081692, .int .u32 1996064986, .int .u32 2554220882, .int .u32 2821834349, .int .u32 2952996808, .int .u32 3210313671, .int .u32 3336571891, .int .u32 3584528711, .int .u32 113926993, .int .u32 338241895, .int .u32 666307205, .int .u32 773529912, .int .u32 1294757372, .int .u32 1396182291, .int .u32 1695183700, .int .u32 1986661051, .int .u32 2177026350, .int .u32 2456956037, .int .u32 2730485921, .int .u32 2820302411, .int .u32 3259730800, .int .u32 3345764771, .int .u32 3516065817, .int .u32 3600352804, .int .u32 4094571909, .int .u32 275423344, .int .u32 430227734, .int .u32 506948616, .int .u32 659060556, .int .u32 883997877, .int .u32 958139571, .int .u32 1322822218, .int .u32 1537002063, .int .u32 1747873779, .int .u32 1955562222, .int .u32 2024104815, .int .u32 2227730452, .int .u32 2361852424, .int .u32 2428436474, .int .u32 2756734187, .int .u32 3204031479, .int .u32 3329325298] t frozen
      | o => o }
end Go.Proofs.YtldghdbbooopdaaDoor.TieW
