import Derived.Test.YtmebogaenbjmnaaDoorA8
namespace Go.Proofs.YtmebogaenbjmnaaDoor.ShaW
open Go.RowKit
open Sha
set_option maxRecDepth 100000 in
set_option maxHeartbeats 2000000 in
theorem end_ok (s : St) (A : Option Addr) (m c : Nat) (N : Nat) (r : List UInt8) (w : World) (hT : Tab w)
    (hm : r.length = m) (hr : Sl w A (bcells r)) (hn : okN m N) :
    Calls Tryd.prog 41 #[.agg (stc s (.slice A m c) N).toArray] w fun e w' => e = .returned (.string ⟨(digestSt s r N).toArray⟩) ∧ Below w.heap.size w w' := by
  have hpos := hT.pos
  have h0 : At (w.alloc (.cells (stc s (.slice A m c) N).toArray 65)) w.heap.size 65 (stc s (.slice A m c) N) := At.new_ w _ 65 _ rfl
  have hbel : Below w.heap.size w (w.alloc (.cells (stc s (.slice A m c) N).toArray 65)) := (Below.refl _ _).alloc (Nat.le_refl _) _
  have hm64 : m < 64 := by have := hn.2.2; have := hn.1; omega
  have hNN : (N : Int) ≤ 1099511627776 := hn.2.1
  have HN : Hid (okN m N) := hn
  have HM : Hid (r.length = m) := hm
  clear hn hm
  go_enter Tryd.func41, Tryd.ntmps41
  go_wp2_with (first
    | (refine wpList_loadA rfl 65 (.tmp 1) rfl ty30 w.heap.size 0 rfl 65 _ h0 (stc s (.slice A m c) N) rfl (all_at _) ?_)
    | (go_at_call 52; refine (valid_any s A m c N _ true (by omega) ⟨(fun _ => HN.out), (fun _ => rfl)⟩).mono ?_; rintro e w1 ⟨rfl, hb1⟩; have g0 := h0.below hb1 h0.lt; have gbel := hbel.trans (hb1.mono (Nat.le_of_lt h0.lt))))
  have hs1 : w.heap.size + 1 ≤ w1.heap.size := g0.lt
  have kS : At (w1.alloc (.cells (bcells zer).toArray 78)) w.heap.size 65 (stc s (.slice A m c) N) := g0.alloc _
  have kB : At (w1.alloc (.cells (bcells zer).toArray 78)) w1.heap.size 78 (bcells zer) := At.new_ _ _ 78 _ rfl
  have kbel : Below w.heap.size w (w1.alloc (.cells (bcells zer).toArray 78)) := gbel.alloc (by omega) _
  change Code.wp _ _ _ _ (w1.alloc (.cells (bcells zer).toArray 78))
  generalize w1.alloc (.cells (bcells zer).toArray 78) = W at *
  clear g0 gbel h0 hbel hb1
  generalize w1.heap.size = G at *
  have c8 : W.cell? ⟨w.heap.size, 8, none⟩ = some (.slice A m c) := (kS.cell 8).trans rfl
  go_region_law (refine step_cp rfl (.tmp 11) (.tmp 13) 49 49 5 rfl under22 info5 G 0 64 64 rfl 78 _ kB.drew A m c rfl (bcells r) (by rw [bcells_len]; exact HM.out) ((hr.below kbel).drew) (by simp [bcells_len, zer_len]; omega) (bcells_one _) ?_)
  have hmin : min m 64 = m := by omega
  have e0 : spl (bcells zer) 0 ((bcells r).take m) = bcells (r ++ zeros (64 - m)) := by
    rw [List.take_of_length_le (by rw [bcells_len]; exact Nat.le_of_eq HM.out), spl_bytes, HM.out]; unfold zer zeros; rw [List.take_zero, List.nil_append, Nat.zero_add, List.drop_replicate]
  have kB' : At (W.drew.setRow G (spl (bcells zer) 0 ((bcells r).take m)).toArray) G 78 (bcells (r ++ zeros (64 - m))) := e0 ▸ kB.drew.setRow
  have kS' : At (W.drew.setRow G (spl (bcells zer) 0 ((bcells r).take m)).toArray) w.heap.size 65 (stc s (.slice A m c) N) := kS.drew.setRow_far (by omega)
  have kbel' : Below w.heap.size w (W.drew.setRow G (spl (bcells zer) 0 ((bcells r).take m)).toArray) := below_setRow kbel.drew (by omega) _
  have cm : (W.drew.setRow G (spl (bcells zer) 0 ((bcells r).take m)).toArray).cell? ⟨G, m, none⟩ = some (.int .u8 (ub ((r ++ zeros (64 - m)).getD m 0))) := (kB'.cell m).trans (bcells_get _ _ (by simp [zeros_len, HM.out]; omega))
  have cmf := kB'.froz m
  have hb80 : (128 : Int) = ub 128 := rfl
  have HE : Hid (spl (bcells zer) 0 ((bcells r).take m) = bcells (r ++ zeros (64 - m))) := e0
  clear e0 c8 kS kB kbel
  generalize hWW : W.drew.setRow G (spl (bcells zer) 0 ((bcells r).take m)).toArray = W2 at *
  rw [hmin, hWW]
  clear hWW hmin
  have kB3 : At (W2.setCell ⟨G, m, none⟩ (.int .u8 (ub 128))) G 78 (bcells (r ++ 128 :: zeros (63 - m))) := by
    have := kB'.put m (.int .u8 (ub 128))
    rw [bcells_set, mark_set r m HM.out hm64] at this; exact this
  have kS3 : At (W2.setCell ⟨G, m, none⟩ (.int .u8 (ub 128))) w.heap.size 65 (stc s (.slice A m c) N) := kS'.far (by simp; omega) _
  have kbel3 : Below w.heap.size w (W2.setCell ⟨G, m, none⟩ (.int .u8 (ub 128))) := kbel'.setCell (by simp; omega) _
  have hl3 : (r ++ 128 :: zeros (63 - m)).length = 64 := by simp [zeros_len, HM.out]; omega
  have hT3 := hT.below kbel3 hpos
  clear hr
  by_cases h56 : 56 ≤ m
  · go_simp
    go_wp2_with (first
      | (refine wpList_loadA rfl 63 (.tmp 19) rfl ty28 w.heap.size 0 rfl 65 _ kS3 (wcells s.toL) rfl (by intro j hj; rw [Nat.zero_add]; exact (List.getElem?_append_left hj)) ?_)
      | (refine wpList_loadA rfl 78 (.tmp 3) rfl ty47 G 0 rfl 78 _ kB3 (bcells (r ++ 128 :: zeros (63 - m))) (by rw [bcells_len]; exact hl3) (all_at _) ?_)
      | (go_at_call 53; refine (mix_any s (r ++ 128 :: zeros (63 - m)) _ hl3 hT3).mono ?_; rintro e w3 ⟨rfl, hb3⟩; have kS4 := kS3.below hb3 kS3.lt; have kB4 := kB3.below hb3 kB3.lt; have kbel4 := kbel3.trans (hb3.mono (Nat.le_of_lt kS3.lt)))
      | (refine wpList_storeA rfl rfl 63 (.tmp 23) (.tmp 22) rfl ty28 w.heap.size 0 rfl (wcells (compress s (r ++ 128 :: zeros (63 - m))).toL) rfl 65 _ kS4 rfl (by rw [stc_len]; omega) (wcells_one _) ?_; simp only [stc_spl]; have kS5 := kS4.setRow (cs' := stc (compress s (r ++ 128 :: zeros (63 - m))) (.slice A m c) N); have kB5 := kB4.setRow_far (cs' := (stc (compress s (r ++ 128 :: zeros (63 - m))) (.slice A m c) N).toArray) (by omega : G ≠ w.heap.size); have kbel5 := below_setRow kbel4 (Nat.le_refl _) (stc (compress s (r ++ 128 :: zeros (63 - m))) (.slice A m c) N).toArray)
      | (refine wpList_store_whole rfl rfl 78 (.tmp 3) (.tmp 24) rfl G rfl (bcells (zeros 64)) rfl 78 _ kB5 (by rw [info47]; rfl) (by rw [bcells_len, bcells_len, hl3]; rfl) (bcells_one _) ?_; have kS6 := kS5.setRow_far (cs' := (bcells (zeros 64)).toArray) (by omega : w.heap.size ≠ G); have c9 : ((w3.setRow w.heap.size (stc (compress s (r ++ 128 :: zeros (63 - m))) (.slice A m c) N).toArray).setRow G (bcells (zeros 64)).toArray).cell? ⟨w.heap.size, 9, none⟩ = some (.int .i64 N) := (kS6.cell 9).trans rfl))
    have kB6 : At ((w3.setRow w.heap.size (stc (compress s (r ++ 128 :: zeros (63 - m))) (.slice A m c) N).toArray).setRow G (bcells (zeros 64)).toArray) G 78 (bcells (lenBlk (zeros 56) N 0)) := by
      rw [← zeros_blk]; exact kB5.setRow
    have kbel6 : Below w.heap.size w ((w3.setRow w.heap.size (stc (compress s (r ++ 128 :: zeros (63 - m))) (.slice A m c) N).toArray).setRow G (bcells (zeros 64)).toArray) := below_setRow kbel5 (by omega) _
    clear c9 kB5 kS5 kbel5 kB4 kS4 kbel4 hb3 hT3 hl3 kB3 kS3 kbel3 kB' kS' kbel' cm cmf
    go_loopw [29] (fun i wr => ∃ k : Nat, k ≤ 8 ∧ i = .int .i64 k ∧ At wr w.heap.size 65 (stc (compress s (r ++ 128 :: zeros (63 - m))) (.slice A m c) N) ∧ At wr G 78 (bcells (lenBlk (zeros 56) N k)) ∧ Below w.heap.size w wr)
      (fun i _ => 8 - (intOf i).toNat)
    case atStart => exact ⟨0, by omega, rfl, kS6, kB6, kbel6⟩
    case round =>
      clear kS6 kB6 kbel6
      obtain ⟨k, hk, rfl, qS, qB, qbel⟩ := hrel
      by_cases hlt : k < 8
      · have ck : wr.cell? ⟨G, 56 + k, none⟩ = some (.int .u8 (ub ((lenBlk (zeros 56) N k).getD (56 + k) 0))) := (qB.cell (56 + k)).trans (bcells_get _ _ (by rw [lenBlk_len _ _ _ (zeros_len 56) (by omega)]; omega))
        have ckf := qB.froz (56 + k)
        have hsh : Op.shift .shr .u64 ((N : Int) * 8) .i64 (56 - 8 * (k : Int)) = pure (.int .u64 ((N : Int) * 8 / 2 ^ (56 - 8 * k))) := by
          rw [shift_shr_any _ _ _ _ (by omega), show min (56 - 8 * (k : Int)).toNat IntKind.u64.bits = 56 - 8 * k by simp [IntKind.bits]; omega]
        have hby : (N : Int) * 8 / 2 ^ (56 - 8 * k) % 256 = ub (UInt8.ofNat (8 * N / 2 ^ (56 - 8 * k))) := by
          unfold ub; rw [UInt8.toNat_ofNat', show (N : Int) * 8 = ((8 * N : Nat) : Int) by omega]; simp
        go_wp2
        go_roundw
        case rel =>
          refine ⟨k + 1, by omega, by go_num, qS.far (by simp; omega) _, ?_, qbel.setCell (by simp; omega) _⟩
          have := qB.put (56 + k) (.int .u8 (ub (UInt8.ofNat (8 * N / 2 ^ (56 - 8 * k)))))
          rw [bcells_set, lenBlk_set _ _ _ (zeros_len 56) hlt] at this
          exact this
        case measure => simp [intOf]; omega
      · have hk8 : 8 ≤ k := by omega
        obtain ⟨bk, hbk⟩ : ∃ bk, bk = (zeros 56) ++ lenB N 8 := ⟨_, rfl⟩
        have qB8 : At wr G 78 (bcells bk) := by
          have e : k = 8 := by omega
          rw [e, lenBlk_full, ← hbk] at qB; exact qB
        have hT8 := hT.below qbel hpos
        have hl8 : bk.length = 64 := by rw [hbk, List.length_append, (zeros_len 56), lenB_len]
        have HBK : Hid (bk = (zeros 56) ++ lenB N 8) := hbk
        clear hbk
        clear qB
        go_wp2_with (first
          | (refine wpList_loadA rfl 63 (.tmp 42) rfl ty28 w.heap.size 0 rfl 65 _ qS (wcells (compress s (r ++ 128 :: zeros (63 - m))).toL) rfl (by intro j hj; rw [Nat.zero_add]; exact (List.getElem?_append_left hj)) ?_)
          | (refine wpList_loadA rfl 78 (.tmp 3) rfl ty47 G 0 rfl 78 _ qB8 (bcells bk) (by rw [bcells_len]; exact hl8) (all_at _) ?_)
          | (go_at_call 53; refine (mix_any (compress s (r ++ 128 :: zeros (63 - m))) bk _ hl8 hT8).mono ?_; rintro e w9 ⟨rfl, hb9⟩)
          | (go_at_call 54; refine (text_any _ _ rfl).mono ?_; rintro e w10 ⟨rfl, hb10⟩))
        go_ret
        refine ⟨?_, (qbel.trans (hb9.mono (Nat.le_of_lt qS.lt))).trans (hb10.mono (Nat.le_trans (Nat.le_of_lt qS.lt) hb9.size))⟩
        rw [HBK.out]; unfold digestSt finish; rw [if_pos (by rw [HM.out]; exact h56), HM.out]; rfl
  · go_simp
    have c9 : (W2.setCell ⟨G, m, none⟩ (.int .u8 (ub 128))).cell? ⟨w.heap.size, 9, none⟩ = some (.int .i64 N) := (kS3.cell 9).trans rfl
    go_wp2_with fail
    have hpre : (r ++ 128 :: zeros (55 - m)).length = 56 := by simp [zeros_len, HM.out]; omega
    have kB4 : At (W2.setCell ⟨G, m, none⟩ (.int .u8 (ub 128))) G 78 (bcells (lenBlk (r ++ 128 :: zeros (55 - m)) N 0)) := by
      rw [← mark_blk r m N HM.out (by omega)]; exact kB3
    have HP : Hid ((r ++ 128 :: zeros (55 - m)).length = 56) := hpre
    clear hpre c9 hT3 hl3 kB3 kB' kS' kbel' cm cmf
    go_loopw [29] (fun i wr => ∃ k : Nat, k ≤ 8 ∧ i = .int .i64 k ∧ At wr w.heap.size 65 (stc s (.slice A m c) N) ∧ At wr G 78 (bcells (lenBlk (r ++ 128 :: zeros (55 - m)) N k)) ∧ Below w.heap.size w wr)
      (fun i _ => 8 - (intOf i).toNat)
    case atStart => exact ⟨0, by omega, rfl, kS3, kB4, kbel3⟩
    case round =>
      clear kS3 kB4 kbel3
      obtain ⟨k, hk, rfl, qS, qB, qbel⟩ := hrel
      by_cases hlt : k < 8
      · have ck : wr.cell? ⟨G, 56 + k, none⟩ = some (.int .u8 (ub ((lenBlk (r ++ 128 :: zeros (55 - m)) N k).getD (56 + k) 0))) := (qB.cell (56 + k)).trans (bcells_get _ _ (by rw [lenBlk_len _ _ _ HP.out (by omega)]; omega))
        have ckf := qB.froz (56 + k)
        have hsh : Op.shift .shr .u64 ((N : Int) * 8) .i64 (56 - 8 * (k : Int)) = pure (.int .u64 ((N : Int) * 8 / 2 ^ (56 - 8 * k))) := by
          rw [shift_shr_any _ _ _ _ (by omega), show min (56 - 8 * (k : Int)).toNat IntKind.u64.bits = 56 - 8 * k by simp [IntKind.bits]; omega]
        have hby : (N : Int) * 8 / 2 ^ (56 - 8 * k) % 256 = ub (UInt8.ofNat (8 * N / 2 ^ (56 - 8 * k))) := by
          unfold ub; rw [UInt8.toNat_ofNat', show (N : Int) * 8 = ((8 * N : Nat) : Int) by omega]; simp
        go_wp2
        go_roundw
        case rel =>
          refine ⟨k + 1, by omega, by go_num, qS.far (by simp; omega) _, ?_, qbel.setCell (by simp; omega) _⟩
          have := qB.put (56 + k) (.int .u8 (ub (UInt8.ofNat (8 * N / 2 ^ (56 - 8 * k)))))
          rw [bcells_set, lenBlk_set _ _ _ HP.out hlt] at this
          exact this
        case measure => simp [intOf]; omega
      · have hk8 : 8 ≤ k := by omega
        obtain ⟨bk, hbk⟩ : ∃ bk, bk = (r ++ 128 :: zeros (55 - m)) ++ lenB N 8 := ⟨_, rfl⟩
        have qB8 : At wr G 78 (bcells bk) := by
          have e : k = 8 := by omega
          rw [e, lenBlk_full, ← hbk] at qB; exact qB
        have hT8 := hT.below qbel hpos
        have hl8 : bk.length = 64 := by rw [hbk, List.length_append, HP.out, lenB_len]
        have HBK : Hid (bk = (r ++ 128 :: zeros (55 - m)) ++ lenB N 8) := hbk
        clear hbk
        clear qB
        go_wp2_with (first
          | (refine wpList_loadA rfl 63 (.tmp 42) rfl ty28 w.heap.size 0 rfl 65 _ qS (wcells s.toL) rfl (by intro j hj; rw [Nat.zero_add]; exact (List.getElem?_append_left hj)) ?_)
          | (refine wpList_loadA rfl 78 (.tmp 3) rfl ty47 G 0 rfl 78 _ qB8 (bcells bk) (by rw [bcells_len]; exact hl8) (all_at _) ?_)
          | (go_at_call 53; refine (mix_any s bk _ hl8 hT8).mono ?_; rintro e w9 ⟨rfl, hb9⟩)
          | (go_at_call 54; refine (text_any _ _ rfl).mono ?_; rintro e w10 ⟨rfl, hb10⟩))
        go_ret
        refine ⟨?_, (qbel.trans (hb9.mono (Nat.le_of_lt qS.lt))).trans (hb10.mono (Nat.le_trans (Nat.le_of_lt qS.lt) hb9.size))⟩
        rw [HBK.out]; unfold digestSt finish; rw [if_neg (by rw [HM.out]; exact h56), HM.out]; rfl
end Go.Proofs.YtmebogaenbjmnaaDoor.ShaW
