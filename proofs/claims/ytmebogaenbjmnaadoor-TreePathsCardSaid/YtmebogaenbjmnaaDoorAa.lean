import Derived.Test.YtmebogaenbjmnaaDoorA9
namespace Go.Proofs.YtmebogaenbjmnaaDoor.ShaW
open Go.RowKit
open Sha
set_option maxRecDepth 100000 in
set_option maxHeartbeats 2000000 in
theorem end_bad (s : St) (A : Option Addr) (m c : Nat) (n : Int) (w : World) (hT : Tab w) (hm63 : m ≤ 9223372036854775807) (hn : ¬ okN m n) :
    Calls Tryd.prog 41 #[.agg (stc s (.slice A m c) n).toArray] w fun e w' => e = .returned (.string ⟨(digestSt iv [] 0).toArray⟩) ∧ Below w.heap.size w w' := by
  have hpos := hT.pos
  have h0 : At (w.alloc (.cells (stc s (.slice A m c) n).toArray 65)) w.heap.size 65 (stc s (.slice A m c) n) := At.new_ w _ 65 _ rfl
  have hbel : Below w.heap.size w (w.alloc (.cells (stc s (.slice A m c) n).toArray 65)) := (Below.refl _ _).alloc (Nat.le_refl _) _
  have HN : Hid (¬ okN m n) := hn
  clear hn
  go_enter Tryd.func41, Tryd.ntmps41
  go_wp2_with (first
    | (refine wpList_loadA rfl 65 (.tmp 1) rfl ty30 w.heap.size 0 rfl 65 _ h0 (stc s (.slice A m c) n) rfl (all_at _) ?_)
    | (go_at_call 52; refine (valid_any s A m c n _ false hm63 ⟨(fun h => Bool.noConfusion h), (fun h => absurd h HN.out)⟩).mono ?_; rintro e w1 ⟨rfl, hb1⟩; have g0 := h0.below hb1 h0.lt; have gbel := hbel.trans (hb1.mono (Nat.le_of_lt h0.lt)))
    | (go_at_call 43; refine (new_any _).mono ?_; rintro e w2 ⟨rfl, hb2⟩; have q0 := g0.below hb2 g0.lt; have qbel := gbel.trans (hb2.mono (Nat.le_of_lt g0.lt)))
    | (refine wpList_storeA rfl rfl 65 (.tmp 1) (.tmp 10) rfl ty30 w.heap.size 0 rfl (stc iv (.slice none 0 0) 0) rfl 65 _ q0 rfl (by rw [stc_len]; omega) (stc_one _ _ _ _ _) ?_; simp only [stc_spl_all]))
  have hs1 : w.heap.size + 1 ≤ w2.heap.size := q0.lt
  have kS : At ((w2.setRow w.heap.size (stc iv (.slice none 0 0) 0).toArray).alloc (.cells (bcells zer).toArray 78)) w.heap.size 65 (stc iv (.slice none 0 0) 0) := q0.setRow.alloc _
  have kB : At ((w2.setRow w.heap.size (stc iv (.slice none 0 0) 0).toArray).alloc (.cells (bcells zer).toArray 78)) w2.heap.size 78 (bcells zer) := At.new_ _ _ 78 _ (by simp)
  have kbel : Below w.heap.size w ((w2.setRow w.heap.size (stc iv (.slice none 0 0) 0).toArray).alloc (.cells (bcells zer).toArray 78)) := (below_setRow qbel (Nat.le_refl _) _).alloc (by simp; omega) _
  change Code.wp _ _ _ _ ((w2.setRow w.heap.size (stc iv (.slice none 0 0) 0).toArray).alloc (.cells (bcells zer).toArray 78))
  generalize (w2.setRow w.heap.size (stc iv (.slice none 0 0) 0).toArray).alloc (.cells (bcells zer).toArray 78) = W at *
  clear g0 gbel h0 hbel hb1 hb2 q0 qbel
  generalize w2.heap.size = G at *
  have c8 : W.cell? ⟨w.heap.size, 8, none⟩ = some (.slice none 0 0) := (kS.cell 8).trans rfl
  go_region_law (refine step_cp rfl (.tmp 11) (.tmp 13) 49 49 5 rfl under22 info5 G 0 64 64 rfl 78 _ kB.drew none 0 0 rfl (bcells []) rfl Sl.nil (by simp [bcells_len, zer_len]) (bcells_one _) ?_)
  have kB' : At (W.drew.setRow G (spl (bcells zer) 0 []).toArray) G 78 (bcells zer) := (show spl (bcells zer) 0 [] = bcells zer from rfl) ▸ kB.drew.setRow
  have kS' : At (W.drew.setRow G (spl (bcells zer) 0 []).toArray) w.heap.size 65 (stc iv (.slice none 0 0) 0) := kS.drew.setRow_far (by omega)
  have kbel' : Below w.heap.size w (W.drew.setRow G (spl (bcells zer) 0 []).toArray) := below_setRow kbel.drew (by omega) _
  have cm : (W.drew.setRow G (spl (bcells zer) 0 []).toArray).cell? ⟨G, 0, none⟩ = some (.int .u8 (ub 0)) := (kB'.cell 0).trans rfl
  have cmf := kB'.froz 0
  have hb80 : (128 : Int) = ub 128 := rfl
  clear c8 kS kB kbel
  change Exit.then _ _ _ _ (W.drew.setRow G (spl (bcells zer) 0 []).toArray)
  generalize W.drew.setRow G (spl (bcells zer) 0 []).toArray = W2 at *
  have kB3 : At (W2.setCell ⟨G, 0, none⟩ (.int .u8 (ub 128))) G 78 (bcells (lenBlk (128 :: zeros 55) 0 0)) := kB'.put 0 (.int .u8 (ub 128))
  have kS3 : At (W2.setCell ⟨G, 0, none⟩ (.int .u8 (ub 128))) w.heap.size 65 (stc iv (.slice none 0 0) 0) := kS'.far (by simp; omega) _
  have kbel3 : Below w.heap.size w (W2.setCell ⟨G, 0, none⟩ (.int .u8 (ub 128))) := kbel'.setCell (by simp; omega) _
  go_simp
  have c9 : (W2.setCell ⟨G, 0, none⟩ (.int .u8 (ub 128))).cell? ⟨w.heap.size, 9, none⟩ = some (.int .i64 0) := (kS3.cell 9).trans rfl
  go_wp2_with fail
  have hpre : (128 :: zeros 55 : List UInt8).length = 56 := rfl
  have kB4 : At (W2.setCell ⟨G, 0, none⟩ (.int .u8 (ub 128))) G 78 (bcells (lenBlk (128 :: zeros 55) 0 0)) := by
    exact kB3
  have HP : Hid ((128 :: zeros 55 : List UInt8).length = 56) := hpre
  clear hpre c9 kB' kS' kbel' cm cmf
  go_loopw [29] (fun i wr => ∃ k : Nat, k ≤ 8 ∧ i = .int .i64 k ∧ At wr w.heap.size 65 (stc iv (.slice none 0 0) 0) ∧ At wr G 78 (bcells (lenBlk (128 :: zeros 55) 0 k)) ∧ Below w.heap.size w wr)
    (fun i _ => 8 - (intOf i).toNat)
  case atStart => exact ⟨0, by omega, rfl, kS3, kB4, kbel3⟩
  case round =>
    clear kS3 kB4 kbel3
    obtain ⟨k, hk, rfl, qS, qB, qbel⟩ := hrel
    by_cases hlt : k < 8
    · have ck : wr.cell? ⟨G, 56 + k, none⟩ = some (.int .u8 (ub ((lenBlk (128 :: zeros 55) 0 k).getD (56 + k) 0))) := (qB.cell (56 + k)).trans (bcells_get _ _ (by rw [lenBlk_len _ _ _ HP.out (by omega)]; omega))
      have ckf := qB.froz (56 + k)
      have hsh : Op.shift .shr .u64 ((0 : Int)) .i64 (56 - 8 * (k : Int)) = pure (.int .u64 ((0 : Int) / 2 ^ (56 - 8 * k))) := by
        rw [shift_shr_any _ _ _ _ (by omega), show min (56 - 8 * (k : Int)).toNat IntKind.u64.bits = 56 - 8 * k by simp [IntKind.bits]; omega]
      have hby : (0 : Int) / 2 ^ (56 - 8 * k) % 256 = ub (UInt8.ofNat (8 * 0 / 2 ^ (56 - 8 * k))) := by
        unfold ub; rw [UInt8.toNat_ofNat', show (0 : Int) = ((8 * 0 : Nat) : Int) by omega]; simp
      go_wp2
      go_roundw
      case rel =>
        refine ⟨k + 1, by omega, by go_num, qS.far (by simp; omega) _, ?_, qbel.setCell (by simp; omega) _⟩
        have := qB.put (56 + k) (.int .u8 (ub (UInt8.ofNat (8 * 0 / 2 ^ (56 - 8 * k)))))
        rw [bcells_set, lenBlk_set _ _ _ HP.out hlt, show ub (UInt8.ofNat (8 * 0 / 2 ^ (56 - 8 * k))) = 0 by simp [ub]] at this
        exact this
      case measure => simp [intOf]; omega
    · have hk8 : 8 ≤ k := by omega
      obtain ⟨bk, hbk⟩ : ∃ bk, bk = (128 :: zeros 55) ++ lenB 0 8 := ⟨_, rfl⟩
      have qB8 : At wr G 78 (bcells bk) := by
        have e : k = 8 := by omega
        rw [e, lenBlk_full, ← hbk] at qB; exact qB
      have hT8 := hT.below qbel hpos
      have hl8 : bk.length = 64 := by rw [hbk, List.length_append, HP.out, lenB_len]
      have HBK : Hid (bk = (128 :: zeros 55) ++ lenB 0 8) := hbk
      clear hbk
      clear qB
      go_wp2_with (first
        | (refine wpList_loadA rfl 63 (.tmp 42) rfl ty28 w.heap.size 0 rfl 65 _ qS (wcells iv.toL) rfl (by intro j hj; rw [Nat.zero_add]; exact (List.getElem?_append_left hj)) ?_)
        | (refine wpList_loadA rfl 78 (.tmp 3) rfl ty47 G 0 rfl 78 _ qB8 (bcells bk) (by rw [bcells_len]; exact hl8) (all_at _) ?_)
        | (go_at_call 53; refine (mix_any iv bk _ hl8 hT8).mono ?_; rintro e w9 ⟨rfl, hb9⟩)
        | (go_at_call 54; refine (text_any _ _ rfl).mono ?_; rintro e w10 ⟨rfl, hb10⟩))
      go_ret
      refine ⟨?_, (qbel.trans (hb9.mono (Nat.le_of_lt qS.lt))).trans (hb10.mono (Nat.le_trans (Nat.le_of_lt qS.lt) hb9.size))⟩
      rw [HBK.out]; rfl
end Go.Proofs.YtmebogaenbjmnaaDoor.ShaW
