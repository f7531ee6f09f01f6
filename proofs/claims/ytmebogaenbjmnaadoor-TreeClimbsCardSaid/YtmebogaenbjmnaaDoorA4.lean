import Derived.Test.YtmebogaenbjmnaaDoorA3
namespace Go.Proofs.YtmebogaenbjmnaaDoor.ShaW
open Go.RowKit
open Sha
/-- The table of the rounds lies in its variable. -/
def Tab (w : World) : Prop := ∀ i, i < 64 → w.cell? ⟨0, i, none⟩ = some (.int .u32 (un (K.getD i 0)))
theorem Tab.pos {w : World} (h : Tab w) : 0 < w.heap.size := block_lt_of_cell (h 0 (by omega))
theorem Tab.below {B : Nat} {w w' : World} (h : Tab w) (hb : Below B w w') (hB : 0 < B) : Tab w' := fun i hi => (hb.cell (p := ⟨0, i, none⟩) hB).trans (h i hi)
theorem under28 : Tryd.prog.underlying 63 = some (.array 8 62) := by kernel_rfl
theorem info28 : (Tryd.prog.info? 63).map (·.size) = some 8 := by kernel_rfl
theorem under47 : Tryd.prog.underlying 78 = some (.array 64 5) := by kernel_rfl
theorem info47 : (Tryd.prog.info? 78).map (·.size) = some 64 := by kernel_rfl
attribute [local go_sem] xor_u and_u or_u add_u add_u' sh3 sh10 not_u' u32_uns
set_option maxRecDepth 100000 in
set_option maxHeartbeats 2000000 in
theorem mix_any (s : St) (bs : List UInt8) (w : World) (hl : bs.length = 64) (hT : Tab w) :
    Calls Tryd.prog 53 #[.agg (wcells s.toL).toArray, .agg (bcells bs).toArray] w fun e w' => e = .returned (.agg (wcells (compress s bs).toL).toArray) ∧ Below w.heap.size w w' := by
  have h0 : At (((w.alloc (.cells (wcells s.toL).toArray 63)).alloc (.cells (bcells bs).toArray 78)).alloc (.cells (wcells [0,0,0,0,0,0,0,0]).toArray 63)) w.heap.size 63 (wcells s.toL) := ((At.new_ w _ 63 _ rfl).alloc _).alloc _
  have h1 : At (((w.alloc (.cells (wcells s.toL).toArray 63)).alloc (.cells (bcells bs).toArray 78)).alloc (.cells (wcells [0,0,0,0,0,0,0,0]).toArray 63)) (w.heap.size + 1) 78 (bcells bs) := (At.new_ _ _ 78 _ (by simp)).alloc _
  have h2 : At (((w.alloc (.cells (wcells s.toL).toArray 63)).alloc (.cells (bcells bs).toArray 78)).alloc (.cells (wcells [0,0,0,0,0,0,0,0]).toArray 63)) (w.heap.size + 2) 63 (wcells [0,0,0,0,0,0,0,0]) := At.new_ _ _ 63 _ (by simp)
  have hbel : Below w.heap.size w (((w.alloc (.cells (wcells s.toL).toArray 63)).alloc (.cells (bcells bs).toArray 78)).alloc (.cells (wcells [0,0,0,0,0,0,0,0]).toArray 63)) := (((Below.refl _ _).alloc (Nat.le_refl _) _).alloc (by simp) _).alloc (by simp; omega) _
  have hpos := hT.pos
  go_enter Tryd.func53, Tryd.ntmps53
  go_wp2_with (first
            | (refine wpList_load_row rfl 78 (.tmp 3) rfl (w.heap.size + 1) rfl 78 _ (0, 0) _ h1 under47 rfl (by rw [info47]; simp [bcells_len, hl]) ?_))
  refine (spread_any bs _ hl).mono ?_
  rintro e w1 ⟨rfl, hb1⟩
  have hs3 : (((w.alloc (.cells (wcells s.toL).toArray 63)).alloc (.cells (bcells bs).toArray 78)).alloc (.cells (wcells [0,0,0,0,0,0,0,0]).toArray 63)).heap.size = w.heap.size + 3 := by simp
  have hb1' : Below (w.heap.size + 3) (((w.alloc (.cells (wcells s.toL).toArray 63)).alloc (.cells (bcells bs).toArray 78)).alloc (.cells (wcells [0,0,0,0,0,0,0,0]).toArray 63)) w1 := hs3 ▸ hb1
  have g0 := h0.below hb1' (by omega)
  have g2 := h2.below hb1' (by omega)
  have gbel := hbel.trans (hb1'.mono (by omega : w.heap.size ≤ w.heap.size + 3))
  have gs : w.heap.size + 3 ≤ w1.heap.size := by have := hb1'.size; omega
  clear hb1 hb1' hs3 h0 h1 h2 hbel
  have gz : At (w1.alloc (.cells (wcells (filled [])).toArray 85)) w1.heap.size 85 (wcells (filled [])) := At.new_ _ _ 85 _ rfl
  have k0 : At ((w1.alloc (.cells (wcells (filled [])).toArray 85)).setRow w1.heap.size (wcells (sched bs 48)).toArray) w.heap.size 63 (wcells s.toL) := (g0.alloc _).setRow_far (by omega)
  have k2 : At ((w1.alloc (.cells (wcells (filled [])).toArray 85)).setRow w1.heap.size (wcells (sched bs 48)).toArray) (w.heap.size + 2) 63 (wcells [0,0,0,0,0,0,0,0]) := (g2.alloc _).setRow_far (by omega)
  have k3 : At ((w1.alloc (.cells (wcells (filled [])).toArray 85)).setRow w1.heap.size (wcells (sched bs 48)).toArray) w1.heap.size 85 (wcells (sched bs 48)) := gz.setRow
  have kbel : Below w.heap.size w ((w1.alloc (.cells (wcells (filled [])).toArray 85)).setRow w1.heap.size (wcells (sched bs 48)).toArray) := below_setRow (gbel.alloc (by omega) _) (by omega) _
  go_wp2_with (first
            | (refine wpList_store_whole rfl rfl 85 (.tmp 5) (.tmp 20) rfl w1.heap.size rfl (wcells (sched bs 48)) rfl 85 _ gz (by rw [info57]; simp [wcells_len, sched_len]) (by simp [wcells_len, sched_len, filled]) (wcells_one _) ?_))
  change Code.wp _ _ _ _ ((w1.alloc (.cells (wcells (filled [])).toArray 85)).setRow w1.heap.size (wcells (sched bs 48)).toArray)
  generalize ((w1.alloc (.cells (wcells (filled [])).toArray 85)).setRow w1.heap.size (wcells (sched bs 48)).toArray) = W at *
  clear g0 g2 gbel gz
  generalize w1.heap.size = G at *
  have hTW : Tab W := hT.below kbel hpos
  have c0 : W.cell? ⟨w.heap.size, 0, none⟩ = some (.int .u32 (un s.a)) := (k0.cell 0).trans rfl
  have c1 : W.cell? ⟨w.heap.size, 1, none⟩ = some (.int .u32 (un s.b)) := (k0.cell 1).trans rfl
  have c2 : W.cell? ⟨w.heap.size, 2, none⟩ = some (.int .u32 (un s.c)) := (k0.cell 2).trans rfl
  have c3 : W.cell? ⟨w.heap.size, 3, none⟩ = some (.int .u32 (un s.d)) := (k0.cell 3).trans rfl
  have c4 : W.cell? ⟨w.heap.size, 4, none⟩ = some (.int .u32 (un s.e)) := (k0.cell 4).trans rfl
  have c5 : W.cell? ⟨w.heap.size, 5, none⟩ = some (.int .u32 (un s.f)) := (k0.cell 5).trans rfl
  have c6 : W.cell? ⟨w.heap.size, 6, none⟩ = some (.int .u32 (un s.g)) := (k0.cell 6).trans rfl
  have c7 : W.cell? ⟨w.heap.size, 7, none⟩ = some (.int .u32 (un s.h)) := (k0.cell 7).trans rfl
  go_quiet (fail)
  have k0 := k0.drewN nq
  have k2 := k2.drewN nq
  have k3 := k3.drewN nq
  have kbel := below_drewN kbel nq
  have hTW : Tab (W.drewN nq) := hTW
  generalize W.drewN nq = W at *
  clear c0 c1 c2 c3 c4 c5 c6 c7
  go_wp2
  go_loopw [6, 7, 8, 9, 10, 11, 12, 13, 37] (fun v0 v1 v2 v3 v4 v5 v6 v7 i wr => ∃ k : Nat, k ≤ 64 ∧ i = .int .i64 k ∧ v0 = .int .u32 (un (rounds (sched bs 48) s k).a) ∧ v1 = .int .u32 (un (rounds (sched bs 48) s k).b) ∧ v2 = .int .u32 (un (rounds (sched bs 48) s k).c) ∧ v3 = .int .u32 (un (rounds (sched bs 48) s k).d) ∧ v4 = .int .u32 (un (rounds (sched bs 48) s k).e) ∧ v5 = .int .u32 (un (rounds (sched bs 48) s k).f) ∧ v6 = .int .u32 (un (rounds (sched bs 48) s k).g) ∧ v7 = .int .u32 (un (rounds (sched bs 48) s k).h) ∧ At wr w.heap.size 63 (wcells s.toL) ∧ At wr (w.heap.size + 2) 63 (wcells [0,0,0,0,0,0,0,0]) ∧ At wr G 85 (wcells (sched bs 48)) ∧ Below w.heap.size w wr)
    (fun _ _ _ _ _ _ _ _ i _ => 64 - (intOf i).toNat)
  case atStart => exact ⟨0, by omega, rfl, rfl, rfl, rfl, rfl, rfl, rfl, rfl, rfl, k0, k2, k3, kbel⟩
  case round =>
    clear k0 k2 k3 kbel hTW
    obtain ⟨k, hk, rfl, rfl, rfl, rfl, rfl, rfl, rfl, rfl, rfl, k0, k2, k3, kbel⟩ := hrel
    by_cases hlt : k < 64
    · have cw : wr.cell? ⟨G, k, none⟩ = some (.int .u32 (un ((sched bs 48).getD k 0))) := (k3.cell k).trans (wcells_get _ _ (by rw [sched_len]; omega))
      have ct : wr.cell? ⟨0, k, none⟩ = some (.int .u32 (un (K.getD k 0))) := (hT.below kbel hpos) k hlt
      have HR : Hid (rounds (sched bs 48) s (k + 1) = rstep (rounds (sched bs 48) s k) (K.getD k 0) ((sched bs 48).getD k 0)) := rfl
      generalize (sched bs 48).getD k 0 = x0 at *
      generalize K.getD k 0 = x1 at *
      generalize rounds (sched bs 48) s k = r at *
      go_wp2_with fail
      go_quiet ((go_at_call 61; exact Calls.quiet_of_same (turned_q r.e 6 11 25 _ (by omega) (by omega) (by omega))))
      go_wp2_with fail
      refine (turned_q r.a 2 13 22 _ (by omega) (by omega) (by omega)).mono ?_
      rintro e w' ⟨rfl, rfl⟩
      go_wp2_with fail
      clear cw ct
      go_roundw
      case rel =>
        have k0 := k0.drewN nq
        have k2 := k2.drewN nq
        have k3 := k3.drewN nq
        have kbel := below_drewN kbel nq
        refine ⟨k + 1, by omega, by go_num, ?_, ?_, ?_, ?_, ?_, ?_, ?_, ?_, k0, k2, k3, kbel⟩ <;> rw [HR.out] <;> rfl
      case measure => simp [intOf]; omega
    · have hk3 : 64 ≤ k := by omega
      have c0 : wr.cell? ⟨w.heap.size, 0, none⟩ = some (.int .u32 (un s.a)) := (k0.cell 0).trans rfl
      have c1 : wr.cell? ⟨w.heap.size, 1, none⟩ = some (.int .u32 (un s.b)) := (k0.cell 1).trans rfl
      have c2 : wr.cell? ⟨w.heap.size, 2, none⟩ = some (.int .u32 (un s.c)) := (k0.cell 2).trans rfl
      have c3 : wr.cell? ⟨w.heap.size, 3, none⟩ = some (.int .u32 (un s.d)) := (k0.cell 3).trans rfl
      have c4 : wr.cell? ⟨w.heap.size, 4, none⟩ = some (.int .u32 (un s.e)) := (k0.cell 4).trans rfl
      have c5 : wr.cell? ⟨w.heap.size, 5, none⟩ = some (.int .u32 (un s.f)) := (k0.cell 5).trans rfl
      have c6 : wr.cell? ⟨w.heap.size, 6, none⟩ = some (.int .u32 (un s.g)) := (k0.cell 6).trans rfl
      have c7 : wr.cell? ⟨w.heap.size, 7, none⟩ = some (.int .u32 (un s.h)) := (k0.cell 7).trans rfl
      go_wp2_with (first
            | (refine wpList_store_whole rfl rfl 63 (.tmp 4) (.tmp 122) rfl (w.heap.size + 2) rfl (wcells (addSt s (rounds (sched bs 48) s k)).toL) rfl 63 _ k2 (by rw [info28]; rfl) (by rfl) (wcells_one _) ?_))
      have hk64 : k = 64 := by omega
      subst hk64
      exact bodyPost_ret (v := .agg (wcells (compress s bs).toL).toArray) (results_cell_row rfl _ _ (w.heap.size + 2) 63 _ (0, 0) _ rfl (At.setRow k2) under28 rfl (by rw [info28]; rfl)) rfl ⟨rfl, below_setRow kbel (by omega) _⟩
end Go.Proofs.YtmebogaenbjmnaaDoor.ShaW
