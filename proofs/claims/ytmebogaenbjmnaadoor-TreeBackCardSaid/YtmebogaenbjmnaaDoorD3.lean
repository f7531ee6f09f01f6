import Derived.Test.YtmebogaenbjmnaaDoorD2
import Derived.StillTailTactics
namespace Go.Proofs.YtmebogaenbjmnaaDoor.ShaW
open Go.RowKit
open Sha
attribute [local go_sem] xor_u and_u or_u add_u add_u' not_u
set_option maxRecDepth 100000 in
set_option maxHeartbeats 4000000 in
theorem block_any (s : St) (A B : Option Addr) (c d : Nat) (bs : List UInt8) (w : World) (hl : bs.length = 64) (hs : Sl w A (wcells s.toL)) (hb : Sl w B (bcells bs)) :
    Calls Tryd.prog 49 #[.slice A 8 c, .slice B 64 d] w fun e w' => ∃ g, e = .returned (.slice (some ⟨g, 0, none⟩) 8 8) ∧ At w' g 62 (wcells (compress s bs).toL) ∧ Below w.heap.size w w' := by
  obtain ⟨b, o, rfl, hbl, hcell⟩ := hs.get (j := 0) (by simp [wcells, St.toL])
  have HCL : Hid (∀ (wr : World), Below w.heap.size w wr → ∀ j, j < 8 → wr.cell? ⟨b, o + j, none⟩ = some (.int .u32 (un (s.toL.getD j 0)))) := by
    intro wr hb j hj
    exact (hb.cell (p := ⟨b, o + j, none⟩) hbl).trans (hcell j _ (wcells_get _ _ (by simp [St.toL]; omega)))
  clear hcell hs
  go_enter Tryd.func49, Tryd.ntmps49
  go_wp2_with fail
  refine (schedule_any B d bs w hl hb).mono ?_
  rintro e w1 ⟨gw, dw, rfl, hgw, hcw, hb1⟩
  have HW1 : Hid (∀ j, j < 64 → w1.cell? ⟨gw, j, none⟩ = some (.int .u32 (un ((sched bs 48).getD j 0)))) := hcw
  clear hcw
  go_wp2_with fail
  refine (const_any _).mono ?_
  rintro e W ⟨gk, rfl, hK, hb2⟩
  have hbW := hb1.trans (hb2.mono hb1.size)
  have HW2 : Hid (∀ wr, Below w1.heap.size w1 wr → ∀ j, j < 64 → wr.cell? ⟨gw, j, none⟩ = some (.int .u32 (un ((sched bs 48).getD j 0)))) :=
    fun wr h j hj => (h.cell (p := ⟨gw, j, none⟩) hgw).trans (HW1.out j hj)
  have c0 : W.cell? ⟨b, o, none⟩ = some (.int .u32 (un s.a)) := HCL.out W hbW 0 (by omega)
  have c1 : W.cell? ⟨b, o + 1, none⟩ = some (.int .u32 (un s.b)) := HCL.out W hbW 1 (by omega)
  have c2 : W.cell? ⟨b, o + 2, none⟩ = some (.int .u32 (un s.c)) := HCL.out W hbW 2 (by omega)
  have c3 : W.cell? ⟨b, o + 3, none⟩ = some (.int .u32 (un s.d)) := HCL.out W hbW 3 (by omega)
  have c4 : W.cell? ⟨b, o + 4, none⟩ = some (.int .u32 (un s.e)) := HCL.out W hbW 4 (by omega)
  have c5 : W.cell? ⟨b, o + 5, none⟩ = some (.int .u32 (un s.f)) := HCL.out W hbW 5 (by omega)
  have c6 : W.cell? ⟨b, o + 6, none⟩ = some (.int .u32 (un s.g)) := HCL.out W hbW 6 (by omega)
  have c7 : W.cell? ⟨b, o + 7, none⟩ = some (.int .u32 (un s.h)) := HCL.out W hbW 7 (by omega)
  go_wp2_with fail
  go_quiet (fail)
  clear c0 c1 c2 c3 c4 c5 c6 c7
  have hK := hK.drewN nq
  have hbW := below_drewN hbW nq
  have hb2 := below_drewN hb2 nq
  generalize W.drewN nq = W at *
  go_wp2_with fail
  go_loopw [7, 8, 9, 10, 11, 12, 13, 14, 15] (fun v0 v1 v2 v3 v4 v5 v6 v7 i wr => ∃ k : Nat, k ≤ 64 ∧ i = .int .i64 k ∧ v0 = .int .u32 (un (rounds (sched bs 48) s k).a) ∧ v1 = .int .u32 (un (rounds (sched bs 48) s k).b) ∧ v2 = .int .u32 (un (rounds (sched bs 48) s k).c) ∧ v3 = .int .u32 (un (rounds (sched bs 48) s k).d) ∧ v4 = .int .u32 (un (rounds (sched bs 48) s k).e) ∧ v5 = .int .u32 (un (rounds (sched bs 48) s k).f) ∧ v6 = .int .u32 (un (rounds (sched bs 48) s k).g) ∧ v7 = .int .u32 (un (rounds (sched bs 48) s k).h) ∧ At wr gk 62 (wcells K) ∧ Below w.heap.size w wr ∧ Below w1.heap.size w1 wr)
    (fun _ _ _ _ _ _ _ _ i _ => 64 - (intOf i).toNat)
  case atStart => exact ⟨0, by omega, rfl, rfl, rfl, rfl, rfl, rfl, rfl, rfl, rfl, hK, hbW, hb2⟩
  case round =>
    clear hK hbW hb2
    obtain ⟨k, hk, rfl, rfl, rfl, rfl, rfl, rfl, rfl, rfl, rfl, hK, hbW, hb2⟩ := hrel
    by_cases hlt : k < 64
    · have cw := HW2.out wr hb2 k hlt
      have ck : wr.cell? ⟨gk, k, none⟩ = some (.int .u32 (un (K.getD k 0))) := (hK.cell k).trans (wcells_get _ _ (by rw [K_len]; exact hlt))
      have HR : Hid (rounds (sched bs 48) s (k + 1) = rstep (rounds (sched bs 48) s k) (K.getD k 0) ((sched bs 48).getD k 0)) := rfl
      generalize (sched bs 48).getD k 0 = x0 at *
      generalize K.getD k 0 = x1 at *
      generalize rounds (sched bs 48) s k = r at *
      have g0 : (0 : Int) ≤ (k : Int) := by omega
      have g1 : (k : Int) < 64 := by omega
      go_wp2_with fail
      go_quiet ((go_at_call 58; exact Calls.quiet_of (right_q _ _ _ (by omega))))
      clear cw ck
      have hK := hK.drewN nq
      have hbW := below_drewN hbW nq
      have hb2 := below_drewN hb2 nq
      generalize wr.drewN nq = wr at *
      go_wp2_with fail
      refine (right_q _ _ _ (by omega)).mono ?_
      rintro e w' ⟨rfl, m1, rfl⟩
      have hK := hK.drewN m1
      have hbW := below_drewN hbW m1
      have hb2 := below_drewN hb2 m1
      generalize wr.drewN m1 = wr at *
      go_wp2_with fail
      refine (right_q _ _ _ (by omega)).mono ?_
      rintro e w' ⟨rfl, m2, rfl⟩
      have hK := hK.drewN m2
      have hbW := below_drewN hbW m2
      have hb2 := below_drewN hb2 m2
      generalize wr.drewN m2 = wr at *
      go_wp2_with fail
      refine (right_q _ _ _ (by omega)).mono ?_
      rintro e w' ⟨rfl, m3, rfl⟩
      have hK := hK.drewN m3
      have hbW := below_drewN hbW m3
      have hb2 := below_drewN hb2 m3
      generalize wr.drewN m3 = wr at *
      go_wp2_with fail
      go_roundw
      case rel =>
        refine ⟨k + 1, by omega, by go_num, ?_, ?_, ?_, ?_, ?_, ?_, ?_, ?_, hK, hbW, hb2⟩ <;> rw [HR.out] <;> rfl
      case measure => simp [intOf]; omega
    · have hk3 : 64 ≤ k := by omega
      have HK64 : Hid (k = 64) := by show _ = _; omega
      have c0 : wr.cell? ⟨b, o, none⟩ = some (.int .u32 (un s.a)) := HCL.out wr hbW 0 (by omega)
      have c1 : wr.cell? ⟨b, o + 1, none⟩ = some (.int .u32 (un s.b)) := HCL.out wr hbW 1 (by omega)
      have c2 : wr.cell? ⟨b, o + 2, none⟩ = some (.int .u32 (un s.c)) := HCL.out wr hbW 2 (by omega)
      have c3 : wr.cell? ⟨b, o + 3, none⟩ = some (.int .u32 (un s.d)) := HCL.out wr hbW 3 (by omega)
      have c4 : wr.cell? ⟨b, o + 4, none⟩ = some (.int .u32 (un s.e)) := HCL.out wr hbW 4 (by omega)
      have c5 : wr.cell? ⟨b, o + 5, none⟩ = some (.int .u32 (un s.f)) := HCL.out wr hbW 5 (by omega)
      have c6 : wr.cell? ⟨b, o + 6, none⟩ = some (.int .u32 (un s.g)) := HCL.out wr hbW 6 (by omega)
      have c7 : wr.cell? ⟨b, o + 7, none⟩ = some (.int .u32 (un s.h)) := HCL.out wr hbW 7 (by omega)
      go_wp2_with fail
      refine wp_region_still_tail 40 (by kernel_rfl) (by kernel_rfl) ?_
      simp only [List.take_succ_cons, List.take_zero, List.drop_succ_cons, List.drop_zero]
      repeat still_step
      refine wpStill_nil ?_
      change wpList _ _ _ _ _ wr.drew
      have hbW := hbW.drew
      generalize wr.drew = wr at *
      go_wp2_with fail
      go_ret
      rw [HK64.out]
      exact ⟨_, rfl, At.new_ wr _ 62 (wcells (compress s bs).toL) rfl, hbW.alloc hbW.size _⟩
end Go.Proofs.YtmebogaenbjmnaaDoor.ShaW
