import Derived.Test.YtmebogaenbjmnaaDoorD1
import Derived.Deep.RegionHeld3
namespace Go.Proofs.YtmebogaenbjmnaaDoor.ShaW
open Go.RowKit
open Sha
theorem own_form {w : World} {base n : Nat} {e : TypeId} {v : Value} {xs : List Value} (h : w.ownsRow base e 1 v n xs) (hn : 0 < n) :
    ∃ g c, v = .slice (some ⟨g, 0, none⟩) n c ∧ n ≤ c ∧ base ≤ g ∧ g < w.heap.size ∧ ∀ j u, xs[j]? = some u → w.cell? ⟨g, j, none⟩ = some u := by
  rcases h.2 with ⟨rfl, hz⟩ | ⟨g, cap, cur, rfl, hb, hg, hnc, _⟩
  · omega
  · refine ⟨g, cap, rfl, hnc, hb, (Array.getElem?_eq_some_iff.1 hg).1, fun j u hu => ?_⟩
    have := h.cells (g := g) rfl j u hu
    rw [add_lit, Nat.zero_add] at this
    exact this
attribute [local go_sem] xor_u and_u or_u add_u add_u' xor_s3 xor_s10
set_option maxRecDepth 100000 in
set_option maxHeartbeats 2000000 in
theorem schedule_any (A : Option Addr) (c : Nat) (bs : List UInt8) (w : World) (hl : bs.length = 64) (hs : Sl w A (bcells bs)) :
    Calls Tryd.prog 56 #[.slice A 64 c] w fun e w' => ∃ g d, e = .returned (.slice (some ⟨g, 0, none⟩) 64 d) ∧ g < w'.heap.size ∧ (∀ j, j < 64 → w'.cell? ⟨g, j, none⟩ = some (.int .u32 (un ((sched bs 48).getD j 0)))) ∧ Below w.heap.size w w' := by
  obtain ⟨b, o, rfl, hbl, hcell⟩ := hs.get (j := 0) (by rw [bcells_len]; omega)
  have HCL : Hid (∀ (wr : World), Below w.heap.size w wr → ∀ j, j < 64 → wr.cell? ⟨b, o + j, none⟩ = some (.int .u8 (ub (bs.getD j 0)))) := by
    intro wr hb j hj
    exact (hb.cell (p := ⟨b, o + j, none⟩) hbl).trans (hcell j _ (bcells_get _ _ (by omega)))
  have HBL : Hid (bs.length = 64) := hl
  clear hcell hl
  go_enter Tryd.func56, Tryd.ntmps56
  go_wp2_with fail
  go_loopw [3, 4] (fun v i wr => ∃ k : Nat, k ≤ 16 ∧ i = .int .i64 (4 * (k : Int)) ∧ wr.ownsRow w.heap.size 62 1 v k (wcells (words bs k)) ∧ Below w.heap.size w wr)
    (fun _ i _ => 64 - (intOf i).toNat)
  case atStart => exact ⟨0, by omega, rfl, World.ownsRow_nil _ _ _ _, Below.refl _ _⟩
  case round =>
    obtain ⟨k, hk, rfl, hown, hbel⟩ := hrel
    by_cases hlt : k < 16
    · have c0 := HCL.out wr hbel (4 * k) (by omega)
      have c1 : wr.cell? ⟨b, o + (4 * k + 1), none⟩ = _ := HCL.out wr hbel (4 * k + 1) (by omega)
      have c2 : wr.cell? ⟨b, o + (4 * k + 2), none⟩ = _ := HCL.out wr hbel (4 * k + 2) (by omega)
      have c3 : wr.cell? ⟨b, o + (4 * k + 3), none⟩ = _ := HCL.out wr hbel (4 * k + 3) (by omega)
      have HW : Hid (words bs (k + 1) = words bs k ++ [be32 (bs.getD (4 * k) 0) (bs.getD (4 * k + 1) 0) (bs.getD (4 * k + 2) 0) (bs.getD (4 * k + 3) 0)]) := rfl
      have HSF : Hid (∀ wx, Below w.heap.size w wx → (wx.cell? ⟨b, o + 4 * k, none⟩ = some (.int .u8 (ub (bs.getD (4 * k) 0))) ∧ wx.cell? ⟨b, o + (4 * k + 1), none⟩ = some (.int .u8 (ub (bs.getD (4 * k + 1) 0))) ∧ wx.cell? ⟨b, o + (4 * k + 2), none⟩ = some (.int .u8 (ub (bs.getD (4 * k + 2) 0))) ∧ wx.cell? ⟨b, o + (4 * k + 3), none⟩ = some (.int .u8 (ub (bs.getD (4 * k + 3) 0))))) :=
        fun wx h => ⟨HCL.out wx h _ (by omega), HCL.out wx h _ (by omega), HCL.out wx h _ (by omega), HCL.out wx h _ (by omega)⟩
      generalize bs.getD (4 * k) 0 = x0 at *
      generalize bs.getD (4 * k + 1) 0 = x1 at *
      generalize bs.getD (4 * k + 2) 0 = x2 at *
      generalize bs.getD (4 * k + 3) 0 = x3 at *
      have b0 := ub_lt x0
      have b1 := ub_lt x1
      have b2 := ub_lt x2
      have b3 := ub_lt x3
      have d0 := ub_nn x0
      have d1 := ub_nn x1
      have d2 := ub_nn x2
      have d3 := ub_nn x3
      have g0 : (0 : Int) ≤ 4 * (k : Int) := by omega
      have g1 : (0 : Int) ≤ 4 * (k : Int) + 1 := by omega
      have g2 : (0 : Int) ≤ 4 * (k : Int) + 2 := by omega
      have g3 : (0 : Int) ≤ 4 * (k : Int) + 3 := by omega
      have l0 : 4 * (k : Int) < 64 := by omega
      have l1 : 4 * (k : Int) + 1 < 64 := by omega
      have l2 : 4 * (k : Int) + 2 < 64 := by omega
      have l3 : 4 * (k : Int) + 3 < 64 := by omega
      have n0 : (4 * (k : Int)).toNat = 4 * k := by omega
      have n1 : (4 * (k : Int) + 1).toNat = 4 * k + 1 := by omega
      have n2 : (4 * (k : Int) + 2).toNat = 4 * k + 2 := by omega
      have n3 : (4 * (k : Int) + 3).toNat = 4 * k + 3 := by omega
      have v1 : IntKind.i64.wrap (4 * (k : Int) + 1) = 4 * (k : Int) + 1 := IntWalk.i64_in _ (by omega)
      have v2 : IntKind.i64.wrap (4 * (k : Int) + 2) = 4 * (k : Int) + 2 := IntWalk.i64_in _ (by omega)
      have v3 : IntKind.i64.wrap (4 * (k : Int) + 3) = 4 * (k : Int) + 3 := IntWalk.i64_in _ (by omega)
      have u0 : IntKind.u32.wrap (ub x0) = ub x0 := IntWalk.u32_in _ (by omega)
      have u1 : IntKind.u32.wrap (ub x1) = ub x1 := IntWalk.u32_in _ (by omega)
      have u2 : IntKind.u32.wrap (ub x2) = ub x2 := IntWalk.u32_in _ (by omega)
      have u3' : IntKind.u32.wrap (ub x3) = ub x3 := IntWalk.u32_in _ (by omega)
      have r0 : IntKind.u32.wrap (ub x0 * 16777216) = ub x0 * 16777216 := IntWalk.u32_in _ (by omega)
      have r1 : IntKind.u32.wrap (ub x1 * 65536) = ub x1 * 65536 := IntWalk.u32_in _ (by omega)
      have r2 : IntKind.u32.wrap (ub x2 * 256) = ub x2 * 256 := IntWalk.u32_in _ (by omega)
      have t1 : IntKind.u32.wrap (ub x0 * 16777216 + ub x1 * 65536) = ub x0 * 16777216 + ub x1 * 65536 := IntWalk.u32_in _ (by omega)
      have t2 : IntKind.u32.wrap (ub x0 * 16777216 + ub x1 * 65536 + ub x2 * 256) = ub x0 * 16777216 + ub x1 * 65536 + ub x2 * 256 := IntWalk.u32_in _ (by omega)
      have t3 : IntKind.u32.wrap (ub x0 * 16777216 + ub x1 * 65536 + ub x2 * 256 + ub x3) = un (be32 x0 x1 x2 x3) := by
        rw [be32_sum]; exact IntWalk.u32_in _ (by omega)
      have hbs := hbel.size
      clear b0 b1 b2 b3 d0 d1 d2 d3
      go_wp2_with fail
      go_region_held3 (fun wx => wx.cell? ⟨b, o + 4 * k, none⟩ = some (.int .u8 (ub x0)) ∧ wx.cell? ⟨b, o + (4 * k + 1), none⟩ = some (.int .u8 (ub x1)) ∧ wx.cell? ⟨b, o + (4 * k + 2), none⟩ = some (.int .u8 (ub x2)) ∧ wx.cell? ⟨b, o + (4 * k + 3), none⟩ = some (.int .u8 (ub x3)))
        (first
          | go_keep
          | exact HSF.out _ hbel2)
        ((refine step_app rfl (.tmp 12) (.tmp 42) 72 rfl wordsTy w.heap.size u3 k _ (by rfl) (hown.alloc _).drew _ 1 1 (wcells [be32 x0 x1 x2 x3]) (by rfl) (by rfl) (Sl.of_at_all (At.new_ wr _ 62 (wcells [be32 x0 x1 x2 x3]) rfl)) (wcells_one _) (by omega) (by simp; omega) ?_; intro v2 w2 hown2 hgr2 hbl2; have hbel2 := below_app ((hbel.alloc hbs (.cells #[.int .u32 (un (be32 x0 x1 x2 x3))] 62)).drew) hgr2 (hown.alloc _).drew (Nat.le_refl _) (by simp; omega)))
      go_simp
      go_wp2_with fail
      clear c0 c1 c2 c3
      go_roundw
      case rel =>
        refine ⟨k + 1, by omega, by go_num, ?_, hbel2⟩
        rw [HW.out, ← wcells_app]; exact hown2
      case measure => simp [intOf]; omega
    · have hk16 : 16 ≤ k := by omega
      have hown0 : wr.ownsRow w.heap.size 62 1 u3 16 (wcells (sched bs 0)) := by
        have e : k = 16 := by omega
        rw [e] at hown; exact hown
      clear hown hlt
      go_wp2_with fail
      obtain ⟨wo, hwo⟩ : ∃ wo : World, wo = wr := ⟨_, rfl⟩
      subst hwo
      go_loopw [3, 5] (fun v i wr => ∃ k : Nat, 16 ≤ k ∧ k ≤ 64 ∧ i = .int .i64 k ∧ wr.ownsRow w.heap.size 62 1 v k (wcells (sched bs (k - 16))) ∧ Below w.heap.size w wr)
        (fun _ i _ => 64 - (intOf i).toNat)
      case atStart => exact ⟨16, by omega, by omega, rfl, hown0, hbel⟩
      case round =>
        clear hown0 hbel hk hk16
        obtain ⟨k, hk1, hk2, rfl, hown, hbel⟩ := hrel
        have HL2 : Hid ((sched bs (k - 16)).length = k) := by show _ = _; rw [sched_len]; omega
        obtain ⟨g, d, rfl, hkd, hgb, hgl, hcel⟩ := own_form hown (by omega)
        by_cases hlt : k < 64
        · have cx : ∀ j, j < k → wr.cell? ⟨g, j, none⟩ = some (.int .u32 (un ((sched bs (k - 16)).getD j 0))) := fun j hj => hcel j _ (wcells_get _ _ (by rw [HL2.out]; exact hj))
          have c16 := cx (k - 16) (by omega)
          have c15 := cx (k - 15) (by omega)
          have c7 := cx (k - 7) (by omega)
          have c2 := cx (k - 2) (by omega)
          have HW : Hid (sched bs (k + 1 - 16) = sched bs (k - 16) ++ [(sched bs (k - 16)).getD (k - 16) 0 + ssig0 ((sched bs (k - 16)).getD (k - 15) 0) + (sched bs (k - 16)).getD (k - 7) 0 + ssig1 ((sched bs (k - 16)).getD (k - 2) 0)]) := by
            show _ = _
            rw [show k + 1 - 16 = (k - 16) + 1 by omega]
            show sched bs (k - 16) ++ [ext (sched bs (k - 16))] = _
            unfold ext; rw [HL2.out]
          generalize (sched bs (k - 16)).getD (k - 16) 0 = x0 at *
          generalize (sched bs (k - 16)).getD (k - 15) 0 = x1 at *
          generalize (sched bs (k - 16)).getD (k - 7) 0 = x2 at *
          generalize (sched bs (k - 16)).getD (k - 2) 0 = x3 at *
          have hbs := hbel.size
          have HCX : Hid (∀ j, j < k → wr.cell? ⟨g, j, none⟩ = some (.int .u32 (un ((sched bs (k - 16)).getD j 0)))) := cx
          clear cx hcel
          have g15 : (0 : Int) ≤ (k : Int) - 15 := by omega
          have h15 : (15 : Int) ≤ (k : Int) := by omega
          have l15 : (k : Int) - 15 < (k : Int) := by omega
          have n15 : ((k : Int) - 15).toNat = k - 15 := by omega
          have v15 : IntKind.i64.wrap ((k : Int) - 15) = (k : Int) - 15 := IntWalk.i64_in _ (by omega)
          have g2 : (0 : Int) ≤ (k : Int) - 2 := by omega
          have h2 : (2 : Int) ≤ (k : Int) := by omega
          have l2 : (k : Int) - 2 < (k : Int) := by omega
          have n2 : ((k : Int) - 2).toNat = k - 2 := by omega
          have v2 : IntKind.i64.wrap ((k : Int) - 2) = (k : Int) - 2 := IntWalk.i64_in _ (by omega)
          have g16 : (0 : Int) ≤ (k : Int) - 16 := by omega
          have h16 : (16 : Int) ≤ (k : Int) := by omega
          have l16 : (k : Int) - 16 < (k : Int) := by omega
          have n16 : ((k : Int) - 16).toNat = k - 16 := by omega
          have v16 : IntKind.i64.wrap ((k : Int) - 16) = (k : Int) - 16 := IntWalk.i64_in _ (by omega)
          have g7 : (0 : Int) ≤ (k : Int) - 7 := by omega
          have h7 : (7 : Int) ≤ (k : Int) := by omega
          have l7 : (k : Int) - 7 < (k : Int) := by omega
          have n7 : ((k : Int) - 7).toNat = k - 7 := by omega
          have v7 : IntKind.i64.wrap ((k : Int) - 7) = (k : Int) - 7 := IntWalk.i64_in _ (by omega)
          go_wp2_with fail
          go_quiet ((go_at_call 58; exact Calls.quiet_of (right_q _ _ _ (by omega))))
          have c16 : (wr.drewN nq).cell? ⟨g, k - 16, none⟩ = some (.int .u32 (un x0)) := c16
          have c2 : (wr.drewN nq).cell? ⟨g, k - 2, none⟩ = some (.int .u32 (un x3)) := c2
          have c7 : (wr.drewN nq).cell? ⟨g, k - 7, none⟩ = some (.int .u32 (un x2)) := c7
          have hbel := below_drewN hbel nq
          have hown := own_drewN hown nq
          have hgl : g < (wr.drewN nq).heap.size := hgl
          have hbs : w.heap.size ≤ (wr.drewN nq).heap.size := hbs
          generalize wr.drewN nq = wr at *
          go_wp2_with fail
          go_quiet ((go_at_call 58; exact Calls.quiet_of (right_q _ _ _ (by omega))))
          have c16 : (wr.drewN nq).cell? ⟨g, k - 16, none⟩ = some (.int .u32 (un x0)) := c16
          have c7 : (wr.drewN nq).cell? ⟨g, k - 7, none⟩ = some (.int .u32 (un x2)) := c7
          have hbel := below_drewN hbel nq
          have hown := own_drewN hown nq
          have hgl : g < (wr.drewN nq).heap.size := hgl
          have hbs : w.heap.size ≤ (wr.drewN nq).heap.size := hbs
          generalize wr.drewN nq = wr at *
          go_wp2_with fail
          have n64 : k + 1 ≤ 64 := by omega
          go_region_law (first
            | (refine step_app rfl (.tmp 88) (.tmp 104) 72 rfl wordsTy w.heap.size (.slice (some ⟨g, 0, none⟩) k d) k _ (by rfl) (hown.alloc _).drew _ 1 1 (wcells [x0 + ssig0 x1 + x2 + ssig1 x3]) (by rfl) (by rfl) (Sl.of_at_all (At.new_ wr _ 62 (wcells [x0 + ssig0 x1 + x2 + ssig1 x3]) rfl)) (wcells_one _) (by omega) (by simp; omega) ?_; intro v2 w2 hown2 hgr2 hbl2))
          all_goals
            have hbel2 := below_app ((hbel.alloc hbs (.cells (wcells [x0 + ssig0 x1 + x2 + ssig1 x3]).toArray 62)).drew) hgr2 (hown.alloc _).drew (Nat.le_refl _) (by simp; omega)
            clear c16 c7
            go_simp
            go_wp2_with fail
            go_roundw
            case rel =>
              refine ⟨k + 1, by omega, by omega, by go_num, ?_, hbel2⟩
              rw [HW.out, ← wcells_app]; exact hown2
            case measure => simp [intOf]; omega
        · have hk64 : 64 ≤ k := by omega
          have e : k = 64 := by omega
          have HC : Hid (∀ j, j < 64 → wr.cell? ⟨g, j, none⟩ = some (.int .u32 (un ((sched bs 48).getD j 0)))) := by
            rw [e] at hcel
            exact fun j hj => hcel j _ (wcells_get _ _ (by rw [sched_len]; exact hj))
          have HE : Hid (k = 64) := e
          clear hcel hown HL2 e
          go_wp2_with fail
          go_ret
          rw [HE.out]
          exact ⟨g, d, rfl, hgl, HC.out, hbel⟩
end Go.Proofs.YtmebogaenbjmnaaDoor.ShaW
