import Derived.Test.YtmebogaenbjmnaaDoorA1
import Derived.BigRegion
import Derived.Deep.QuietTactic
import Derived.BigQuiet
namespace Go.Proofs.YtmebogaenbjmnaaDoor.ShaW
open Go.RowKit
open Sha
theorem under57 : Tryd.prog.underlying 85 = some (.array 64 62) := by kernel_rfl
theorem info57 : (Tryd.prog.info? 85).map (·.size) = some 64 := by kernel_rfl
theorem xor_s3 (x y : UInt32) : bits .xor .u32 (un x) (un y / (8 : Int)) = un (x ^^^ (y >>> 3)) := by rw [show un y / (8 : Int) = un (y >>> 3) from shr3 y, xor_u]
theorem xor_s10 (x y : UInt32) : bits .xor .u32 (un x) (un y / (1024 : Int)) = un (x ^^^ (y >>> 10)) := by rw [show un y / (1024 : Int) = un (y >>> 10) from shr10 y, xor_u]
attribute [local go_sem] xor_u and_u or_u add_u add_u' xor_s3 xor_s10
set_option maxHeartbeats 2000000 in
theorem spread_any (bs : List UInt8) (w : World) (hl : bs.length = 64) :
    Calls Tryd.prog 60 #[.agg (bcells bs).toArray] w fun e w' => e = .returned (.agg (wcells (sched bs 48)).toArray) ∧ Below w.heap.size w w' := by
  go_enter Tryd.func60, Tryd.ntmps60
  go_wp2
  go_loopw [11] (fun i wr => ∃ k : Nat, k ≤ 16 ∧ i = .int .i64 k ∧ At wr w.heap.size 78 (bcells bs) ∧ At wr (w.heap.size + 1) 85 (wcells (filled [])) ∧ At wr (w.heap.size + 2) 85 (wcells (filled (words bs k))) ∧ Below w.heap.size w wr)
    (fun i _ => 16 - (intOf i).toNat)
  case atStart => 
    refine ⟨0, by omega, rfl, ?_, ?_, ?_, ?_⟩
    · exact ((At.new_ w _ 78 (bcells bs) rfl).alloc _).alloc _
    · exact (At.new_ _ _ 85 (wcells (filled [])) (by simp)).alloc _
    · exact At.new_ _ _ 85 (wcells (filled [])) (by simp)
    · exact (((Below.refl _ _).alloc (Nat.le_refl _) _).alloc (by simp) _).alloc (by simp; omega) _
  case round =>
    obtain ⟨k, hk, rfl, hb, hz, hf, hbel⟩ := hrel
    by_cases hlt : k < 16
    · have c0 : wr.cell? ⟨w.heap.size, 4 * k, none⟩ = some (.int .u8 (ub (bs.getD (4 * k) 0))) := (hb.cell _).trans (bcells_get bs _ (by omega))
      have c1 : wr.cell? ⟨w.heap.size, 4 * k + 1, none⟩ = some (.int .u8 (ub (bs.getD (4 * k + 1) 0))) := (hb.cell _).trans (bcells_get bs _ (by omega))
      have c2 : wr.cell? ⟨w.heap.size, 4 * k + 2, none⟩ = some (.int .u8 (ub (bs.getD (4 * k + 2) 0))) := (hb.cell _).trans (bcells_get bs _ (by omega))
      have c3 : wr.cell? ⟨w.heap.size, 4 * k + 3, none⟩ = some (.int .u8 (ub (bs.getD (4 * k + 3) 0))) := (hb.cell _).trans (bcells_get bs _ (by omega))
      have c4 : wr.cell? ⟨w.heap.size + 2, k, none⟩ = some (.int .u32 (un ((filled (words bs k)).getD k 0))) := (hf.cell _).trans (wcells_get _ _ (by rw [filled_len _ (by rw [words_len]; omega)]; omega))
      have c5 := hf.froz k
      have HW : Hid (word bs k = be32 (bs.getD (4 * k) 0) (bs.getD (4 * k + 1) 0) (bs.getD (4 * k + 2) 0) (bs.getD (4 * k + 3) 0)) := rfl
      generalize bs.getD (4 * k) 0 = x0 at *
      generalize bs.getD (4 * k + 1) 0 = x1 at *
      generalize bs.getD (4 * k + 2) 0 = x2 at *
      generalize bs.getD (4 * k + 3) 0 = x3 at *
      go_wp2
      go_region
      clear c0 c1 c2 c3 c4 c5
      go_wp2
      go_roundw
      case rel =>
        refine ⟨k + 1, by omega, by go_num, (hb.far (by simp; omega) _).drew, (hz.far (by simp) _).drew, ?_, ((hbel.setCell (by simp; omega) _)).drew⟩
        rw [be32_int, ← HW.out]
        have := (hf.put k (.int .u32 (un (word bs k)))).drew
        rw [wcells_set] at this
        have e := filled_set (words bs k) (word bs k) (by rw [words_len]; omega)
        rw [words_len] at e
        rw [e] at this
        exact this
      case measure => simp [intOf]; omega
    · have hk16 : 16 ≤ k := by omega
      go_wp2
      have hf0 : At wr (w.heap.size + 2) 85 (wcells (filled (sched bs 0))) := by
        have e : k = 16 := by omega
        rw [e] at hf; exact hf
      clear hf
      clear hlt
      obtain ⟨wo, hwo⟩ : ∃ wo : World, wo = wr := ⟨_, rfl⟩
      subst hwo
      go_loopw [6] (fun i wr => ∃ k : Nat, 16 ≤ k ∧ k ≤ 64 ∧ i = .int .i64 k ∧ At wr (w.heap.size + 1) 85 (wcells (filled [])) ∧ At wr (w.heap.size + 2) 85 (wcells (filled (sched bs (k - 16)))) ∧ Below w.heap.size w wr)
        (fun i _ => 64 - (intOf i).toNat)
      case atStart => exact ⟨16, by omega, by omega, rfl, hz, hf0, hbel⟩
      case round =>
        clear hbel hz hf0 hb
        clear hk hk16
        obtain ⟨k, hk1, hk2, rfl, hz, hf, hbel⟩ := hrel
        have hle : (sched bs (k - 16)).length = k := by rw [sched_len]; omega
        have HL : Hid ((sched bs (k - 16)).length = k) := hle
        by_cases hlt : k < 64
        · have c0 : wr.cell? ⟨w.heap.size + 2, k - 16, none⟩ = some (.int .u32 (un ((sched bs (k - 16)).getD (k - 16) 0))) := (hf.cell _).trans ((wcells_get _ _ (by rw [filled_len _ (by omega)]; omega)).trans (by rw [filled_get _ _ (by omega)]))
          have c1 : wr.cell? ⟨w.heap.size + 2, k - 15, none⟩ = some (.int .u32 (un ((sched bs (k - 16)).getD (k - 15) 0))) := (hf.cell _).trans ((wcells_get _ _ (by rw [filled_len _ (by omega)]; omega)).trans (by rw [filled_get _ _ (by omega)]))
          have c2 : wr.cell? ⟨w.heap.size + 2, k - 7, none⟩ = some (.int .u32 (un ((sched bs (k - 16)).getD (k - 7) 0))) := (hf.cell _).trans ((wcells_get _ _ (by rw [filled_len _ (by omega)]; omega)).trans (by rw [filled_get _ _ (by omega)]))
          have c3 : wr.cell? ⟨w.heap.size + 2, k - 2, none⟩ = some (.int .u32 (un ((sched bs (k - 16)).getD (k - 2) 0))) := (hf.cell _).trans ((wcells_get _ _ (by rw [filled_len _ (by omega)]; omega)).trans (by rw [filled_get _ _ (by omega)]))
          have c4 : wr.cell? ⟨w.heap.size + 2, k, none⟩ = some (.int .u32 (un ((filled (sched bs (k - 16))).getD k 0))) := (hf.cell _).trans (wcells_get _ _ (by rw [filled_len _ (by omega)]; omega))
          have c5 := hf.froz k
          have HW : Hid (ext (sched bs (k - 16)) = (sched bs (k - 16)).getD (k - 16) 0 + ssig0 ((sched bs (k - 16)).getD (k - 15) 0) + (sched bs (k - 16)).getD (k - 7) 0 + ssig1 ((sched bs (k - 16)).getD (k - 2) 0)) := by
            show ext _ = _
            unfold ext; rw [hle]
          generalize (sched bs (k - 16)).getD (k - 16) 0 = x0 at *
          generalize (sched bs (k - 16)).getD (k - 15) 0 = x1 at *
          generalize (sched bs (k - 16)).getD (k - 7) 0 = x2 at *
          generalize (sched bs (k - 16)).getD (k - 2) 0 = x3 at *
          clear hle
          go_wp2
          go_quiet (fail)
          go_wp2_with fail
          refine (rotl_any x1 7 _ (by omega) (by omega)).mono ?_
          rintro e w' ⟨rfl, rfl⟩
          go_wp2_with fail
          refine (rotl_any x1 18 _ (by omega) (by omega)).mono ?_
          rintro e w' ⟨rfl, rfl⟩
          go_wp2_with fail
          refine (rotl_any x3 17 _ (by omega) (by omega)).mono ?_
          rintro e w' ⟨rfl, rfl⟩
          go_wp2_with fail
          refine (rotl_any x3 19 _ (by omega) (by omega)).mono ?_
          rintro e w' ⟨rfl, rfl⟩
          go_wp2_with fail
          go_region
          go_wp2
          clear c0 c1 c2 c3 c4 c5
          go_roundw
          case rel =>
            refine ⟨k + 1, by omega, by omega, by go_num, ((hz.drewN _).far (by simp) _), ?_, ((below_drewN hbel _).setCell (by show _ ≤ w.heap.size + 1 + 1; omega) _)⟩
            have hq := (((hf.drewN (nq + 1)).put k (.int .u32 (un (ext (sched bs (k - 16)))))))
            have e1 := filled_set (sched bs (k - 16)) (ext (sched bs (k - 16))) (by rw [HL.out]; omega)
            rw [HL.out] at e1
            rw [wcells_set, e1] at hq
            have e2 : sched bs (k + 1 - 16) = sched bs (k - 16) ++ [ext (sched bs (k - 16))] := by
              rw [show k + 1 - 16 = (k - 16) + 1 by omega]; rfl
            rw [e2]
            rw [show un (ext (sched bs (k - 16))) = un (x0 + ssig0 x1 + x2 + ssig1 x3) by rw [HW.out]] at hq
            exact hq
          case measure => simp [intOf]; omega
        · have hk3 : 64 ≤ k := by omega
          have e : k = 64 := by omega
          have hf1 : At wr (w.heap.size + 2) 85 (wcells (sched bs 48)) := by
            rw [e] at hf
            rwa [filled_full _ (by rw [sched_len])] at hf
          clear hf HL hle e
          go_wp2_with (first
            | (refine wpList_load_row rfl 85 (.tmp 3) rfl (w.heap.size + 2) rfl 85 _ (0, 0) _ hf1 under57 rfl (by rw [info57]; simp [wcells_len, sched_len]) ?_)
            | (refine wpList_store_whole rfl rfl 85 (.tmp 2) (.tmp 87) rfl (w.heap.size + 1) rfl (wcells (sched bs 48)) rfl 85 _ hz (by rw [info57]; simp [wcells_len, sched_len]) (by simp [wcells_len, sched_len, filled]) (wcells_one _) ?_))
          exact bodyPost_ret (v := .agg (wcells (sched bs 48)).toArray) (results_cell_row rfl _ _ (w.heap.size + 1) 85 _ (0, 0) _ rfl (At.setRow hz) under57 rfl (by rw [info57]; simp [wcells_len, sched_len])) rfl ⟨rfl, below_setRow hbel (by omega) _⟩
end Go.Proofs.YtmebogaenbjmnaaDoor.ShaW
