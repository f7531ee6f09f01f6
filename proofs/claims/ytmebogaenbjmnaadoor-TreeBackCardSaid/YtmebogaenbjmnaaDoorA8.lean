import Derived.Test.YtmebogaenbjmnaaDoorA7
namespace Go.Proofs.YtmebogaenbjmnaaDoor.ShaW
open Go.RowKit
open Sha
set_option maxRecDepth 100000 in
set_option maxHeartbeats 2000000 in
theorem add_new (s : St) (A : Option Addr) (m c : Nat) (n : Int) (B : Option Addr) (l d : Nat) (bs : List UInt8) (w : World) (hT : Tab w)
    (hl : bs.length = l) (hb : Sl w B (bcells bs)) (hm63 : m ≤ 9223372036854775807) (hbad : ¬ okN m n ∨ (okN m n ∧ 1099511627776 < n + l)) (hld : l ≤ d) (hd63 : d ≤ 140737488355328) :
    Calls Tryd.prog 42 #[.agg (stc s (.slice A m c) n).toArray, .slice B l d] w fun e w' => ∃ A' m' c', e = .returned (.agg (stc (absorb iv bs).1 (.slice A' m' c') l).toArray) ∧
      Sl w' A' (bcells (absorb iv bs).2) ∧ (absorb iv bs).2.length = m' ∧ Below w.heap.size w w' := by
  have hpos := hT.pos
  have h0 : At ((w.alloc (.cells (stc s (.slice A m c) n).toArray 65)).alloc (.cells (stc ⟨0,0,0,0,0,0,0,0⟩ (.slice none 0 0) 0).toArray 65)) w.heap.size 65 (stc s (.slice A m c) n) := (At.new_ w _ 65 _ rfl).alloc _
  have h1 : At ((w.alloc (.cells (stc s (.slice A m c) n).toArray 65)).alloc (.cells (stc ⟨0,0,0,0,0,0,0,0⟩ (.slice none 0 0) 0).toArray 65)) (w.heap.size + 1) 65 (stc ⟨0,0,0,0,0,0,0,0⟩ (.slice none 0 0) 0) := At.new_ _ _ 65 _ (by simp)
  have hbel : Below w.heap.size w ((w.alloc (.cells (stc s (.slice A m c) n).toArray 65)).alloc (.cells (stc ⟨0,0,0,0,0,0,0,0⟩ (.slice none 0 0) 0).toArray 65)) := ((Below.refl _ _).alloc (Nat.le_refl _) _).alloc (by simp) _
  have HL : Hid (bs.length = l) := hl
  clear hl
  rcases hbad with hbad | ⟨hok, hlong⟩
  · have HN : Hid (¬ okN m n) := hbad
    clear hbad
    go_enter Tryd.func42, Tryd.ntmps42
    go_wp2_with (first
      | (refine wpList_loadA rfl 65 (.tmp 2) rfl ty30 w.heap.size 0 rfl 65 _ h0 (stc s (.slice A m c) n) rfl (all_at _) ?_)
      | (go_at_call 52; refine (valid_any s A m c n _ false hm63 ⟨(fun h => Bool.noConfusion h), (fun h => absurd h HN.out)⟩).mono ?_; rintro e w1 ⟨rfl, hb1⟩; have g0 := h0.below hb1 (by simp; omega); have g1 := h1.below hb1 (by simp); have c9 : w1.cell? ⟨w.heap.size, 9, none⟩ = some (.int .i64 n) := (g0.cell 9).trans rfl; have gbel := hbel.trans (hb1.mono (by simp; omega)))
      | (go_at_call 43; refine (new_any _).mono ?_; rintro e w2 ⟨rfl, hb2⟩; have q0 := g0.below hb2 g0.lt; have q1 := g1.below hb2 g1.lt; have qbel := gbel.trans (hb2.mono (Nat.le_of_lt g0.lt)); have c9z : (w2.setRow w.heap.size (stc iv (.slice none 0 0) 0).toArray).cell? ⟨w.heap.size, 9, none⟩ = some (.int .i64 0) := (q0.setRow.cell 9).trans rfl; have c9f := (q0.setRow (cs' := stc iv (.slice none 0 0) 0)).froz 9)
      | (refine wpList_storeA rfl rfl 65 (.tmp 2) (.tmp 18) rfl ty30 w.heap.size 0 rfl (stc iv (.slice none 0 0) 0) rfl 65 _ q0 rfl (by rw [stc_len]; omega) (stc_one _ _ _ _ _) ?_; simp only [stc_spl_all]))
    have kS : At (((w2.setRow w.heap.size (stc iv (.slice none 0 0) 0).toArray).setCell ⟨w.heap.size, 9, none⟩ (.int .i64 l)).alloc (.cells (bcells zer).toArray 78)) w.heap.size 65 (stc iv (.slice none 0 0) (l : Int)) := ((q0.setRow (cs' := stc iv (.slice none 0 0) 0)).put 9 _).alloc _
    have kR : At (((w2.setRow w.heap.size (stc iv (.slice none 0 0) 0).toArray).setCell ⟨w.heap.size, 9, none⟩ (.int .i64 l)).alloc (.cells (bcells zer).toArray 78)) (w.heap.size + 1) 65 (stc ⟨0,0,0,0,0,0,0,0⟩ (.slice none 0 0) 0) := ((q1.setRow_far (by omega)).far (by simp) _).alloc _
    have kB : At (((w2.setRow w.heap.size (stc iv (.slice none 0 0) 0).toArray).setCell ⟨w.heap.size, 9, none⟩ (.int .i64 l)).alloc (.cells (bcells zer).toArray 78)) w2.heap.size 78 (bcells zer) := At.new_ _ _ 78 _ (by simp [World.setCell])
    have hs1 : w.heap.size + 2 ≤ w2.heap.size := q1.lt
    have kbel : Below w.heap.size w (((w2.setRow w.heap.size (stc iv (.slice none 0 0) 0).toArray).setCell ⟨w.heap.size, 9, none⟩ (.int .i64 l)).alloc (.cells (bcells zer).toArray 78)) := ((below_setRow qbel (Nat.le_refl _) _).setCell (by simp) _).alloc (by simp [World.setCell]; omega) _
    change Code.wp _ _ _ _ (((w2.setRow w.heap.size (stc iv (.slice none 0 0) 0).toArray).setCell ⟨w.heap.size, 9, none⟩ (.int .i64 l)).alloc (.cells (bcells zer).toArray 78))
    generalize ((w2.setRow w.heap.size (stc iv (.slice none 0 0) 0).toArray).setCell ⟨w.heap.size, 9, none⟩ (.int .i64 l)).alloc (.cells (bcells zer).toArray 78) = W at *
    clear g0 g1 c9 c9z c9f gbel h0 h1 hbel hb1 hb2 q0 q1 qbel
    generalize w2.heap.size = G at *
    have c8 : W.cell? ⟨w.heap.size, 8, none⟩ = some (.slice none 0 0) := (kS.cell 8).trans rfl
    go_region_law (refine step_cp rfl (.tmp 25) (.tmp 27) 49 49 5 rfl under22 info5 G 0 64 64 rfl 78 _ kB.drew none 0 0 rfl (bcells []) rfl (Sl.nil) (by simp [bcells_len, zer_len]) (bcells_one _) ?_)
    go_simp
    go_wp2_with fail
    have e0 : spl (bcells zer) 0 [] = bcells zer := rfl
    have kB' : At (W.drew.setRow G (spl (bcells zer) 0 []).toArray) G 78 (bcells zer) := e0 ▸ kB.drew.setRow
    have kS' : At (W.drew.setRow G (spl (bcells zer) 0 []).toArray) w.heap.size 65 (stc iv (.slice none 0 0) (l : Int)) := kS.drew.setRow_far (by omega)
    have kR' : At (W.drew.setRow G (spl (bcells zer) 0 []).toArray) (w.heap.size + 1) 65 (stc ⟨0,0,0,0,0,0,0,0⟩ (.slice none 0 0) 0) := kR.drew.setRow_far (by omega)
    have kbel' : Below w.heap.size w (W.drew.setRow G (spl (bcells zer) 0 []).toArray) := below_setRow kbel.drew (by omega) _
    clear kS kR kB kbel c8 e0
    generalize W.drew.setRow G (spl (bcells zer) 0 []).toArray = W at *
    go_loopw [1, 6] (fun v f wr => ∃ (A' : Option Addr) (q c' f' : Nat) (bs' blk : List UInt8) (s' : St), v = .slice A' q c' ∧ Hid (bs'.length = q) ∧ q ≤ c' ∧ c' ≤ 140737488355328 ∧ q ≤ l ∧ f = .int .i64 f' ∧ f' < 64 ∧ Hid (blk.length = 64) ∧
        At wr w.heap.size 65 (stc s' (.slice none 0 0) (l : Int)) ∧ At wr (w.heap.size + 1) 65 (stc ⟨0,0,0,0,0,0,0,0⟩ (.slice none 0 0) 0) ∧ At wr G 78 (bcells blk) ∧ Sl w A' (bcells bs') ∧
        Hid (absorb iv bs = absorb s' (blk.take f' ++ bs')) ∧ Below w.heap.size w wr)
      (fun v _ _ => slLen v)
    case atStart => exact ⟨B, l, d, 0, bs, zer, iv, rfl, HL, hld, hd63, Nat.le_refl _, rfl, by omega, zer_len, kS', kR', kB', hb, rfl, kbel'⟩
    case round =>
      clear kS' kR' kB' kbel'
      obtain ⟨A', q, c', f', bs', blk, s', rfl, HQ, hqc, hc', hql, rfl, hf, HB, kS, kR, kB, kb, HA, kbel⟩ := hrel
      by_cases hge : 64 ≤ f' + q
      · have hmin : min q (64 - f') = 64 - f' := by omega
        have HA2 : ∃ A2, (if c' = 64 - f' then A' else A'.map (·.add (64 - f'))) = A2 := ⟨_, rfl⟩
        obtain ⟨A2, hA2⟩ := HA2
        have hcut := fun w' => run_from (P := Tryd.prog) bytesTy w' A' q c' (64 - f') .i64 (by omega)
        rw [hA2] at hcut
        have HA2 : Hid ((if c' = 64 - f' then A' else A'.map (·.add (64 - f'))) = A2) := hA2
        clear hA2
        have hsl : (Instr.sliceAt 78 (.pointer (some ⟨G, 0, none⟩)) (some (.int .i64 (f' : Int))) none none).run Tryd.prog wr = .ok (.slice (some ⟨G, f', none⟩) (64 - f') (64 - f')) wr := by
          simpa using run_arr_from under47 info5 wr G 0 f' .i64 hf
        obtain ⟨blk2, hblk2⟩ : ∃ b2, b2 = blk.take f' ++ bs'.take (64 - f') := ⟨_, rfl⟩
        have e1 : spl (bcells blk) f' ((bcells bs').take (64 - f')) = bcells blk2 := by
          rw [bcells_take, spl_bytes, List.drop_of_length_le (by simp [HB.out, HQ.out]; omega), hblk2]; simp
        have hl2 : blk2.length = 64 := by rw [hblk2]; simp [HB.out, HQ.out]; omega
        have kB2 : At (wr.setRow G (spl (bcells blk) f' ((bcells bs').take (64 - f'))).toArray) G 78 (bcells blk2) := by rw [e1]; exact kB.setRow
        have kS2 : At (wr.setRow G (spl (bcells blk) f' ((bcells bs').take (64 - f'))).toArray) w.heap.size 65 (stc s' (.slice none 0 0) (l : Int)) := kS.setRow_far (by omega)
        have kR2 : At (wr.setRow G (spl (bcells blk) f' ((bcells bs').take (64 - f'))).toArray) (w.heap.size + 1) 65 (stc ⟨0,0,0,0,0,0,0,0⟩ (.slice none 0 0) 0) := kR.setRow_far (by omega)
        have kbel2 : Below w.heap.size w (wr.setRow G (spl (bcells blk) f' ((bcells bs').take (64 - f'))).toArray) := below_setRow kbel (by omega) _
        have HB2 : Hid (blk2 = blk.take f' ++ bs'.take (64 - f')) := hblk2
        have hT2 := hT.below kbel2 hpos
        clear hblk2 e1
        go_wp2_with (first
          | (refine wpList_cp rfl (.tmp 36) (.tmp 37) 49 49 5 rfl under22 info5 G f' (64 - f') (64 - f') rfl 78 _ kB A' q c' rfl (bcells bs') (by rw [bcells_len]; exact HQ.out) (kb.below kbel) (by rw [bcells_len, HB.out]; omega) (bcells_one _) ?_; simp only [hmin])
          | (refine wpList_loadA rfl 63 (.tmp 40) rfl ty28 w.heap.size 0 rfl 65 _ kS2 (wcells s'.toL) rfl (by intro j hj; rw [Nat.zero_add]; exact (List.getElem?_append_left hj)) ?_)
          | (refine wpList_loadA rfl 78 (.tmp 5) rfl ty47 G 0 rfl 78 _ kB2 (bcells blk2) (by rw [bcells_len]; exact hl2) (all_at _) ?_)
          | (go_at_call 53; refine (mix_any s' blk2 _ hl2 hT2).mono ?_; rintro e w2 ⟨rfl, hb2⟩; have kS3 := kS2.below hb2 kS2.lt)
          | (refine wpList_storeA rfl rfl 63 (.tmp 44) (.tmp 43) rfl ty28 w.heap.size 0 rfl (wcells (compress s' blk2).toL) rfl 65 _ kS3 rfl (by rw [stc_len]; omega) (wcells_one _) ?_; simp only [stc_spl]))
        have kR3 := kR2.below hb2 kR2.lt
        have kB3 := kB2.below hb2 kB2.lt
        have kbel3 := kbel2.trans (hb2.mono (Nat.le_of_lt kS2.lt))
        go_roundw
        case rel =>
          refine ⟨A2, q - (64 - f'), c' - (64 - f'), 0, bs'.drop (64 - f'), blk2, compress s' blk2, rfl, ?_, by omega, by omega, by omega, rfl, by omega, hl2, kS3.setRow, kR3.setRow_far (by omega), kB3.setRow_far (by omega), ?_, ?_, below_setRow kbel3 (by omega) _⟩
          · show _ = _; rw [List.length_drop, HQ.out]
          · have := kb.cut (64 - f') c' (by rw [bcells_len, HQ.out]; exact hqc)
            rw [HA2.out, bcells_drop] at this; exact this
          · show _ = _
            rw [HA.out, absorb_round s' (blk.take f') bs' f' (by simp [HB.out]; omega) hf (by rw [HQ.out]; omega), HB2.out]; rfl
        case measure => simp [slLen]; omega
      · have hmin : min q (64 - f') = q := by omega
        have hsl : (Instr.sliceAt 78 (.pointer (some ⟨G, 0, none⟩)) (some (.int .i64 (f' : Int))) none none).run Tryd.prog wr = .ok (.slice (some ⟨G, f', none⟩) (64 - f') (64 - f')) wr := by
          simpa using run_arr_from under47 info5 wr G 0 f' .i64 hf
        have hto : ∀ w', (Instr.sliceAt 78 (.pointer (some ⟨G, 0, none⟩)) none (some (.int .i64 ((f' : Int) + (q : Int)))) none).run Tryd.prog w' = .ok (.slice (some ⟨G, 0, none⟩) (f' + q) 64) w' := by
          intro w'; simpa using run_arr_to under47 info5 w' G 0 (f' + q) .i64 (by omega) (by omega)
        obtain ⟨blk2, hblk2⟩ : ∃ b2, b2 = blk.take f' ++ bs' ++ blk.drop (f' + q) := ⟨_, rfl⟩
        have e1 : spl (bcells blk) f' ((bcells bs').take q) = bcells blk2 := by
          rw [bcells_take, spl_bytes, hblk2, List.take_of_length_le (Nat.le_of_eq HQ.out), HQ.out]
        have htake : blk2.take (f' + q) = blk.take f' ++ bs' := by
          rw [hblk2, List.take_append_of_le_length (by simp [HB.out, HQ.out]; omega), List.take_of_length_le (by simp [HB.out, HQ.out]; omega)]
        have HF : Hid (absorb iv bs = (s', blk.take f' ++ bs')) := by
          show _ = _; rw [HA.out, absorb_short _ _ (by simp [HB.out, HQ.out]; omega)]
        have hlen : (blk.take f' ++ bs').length = f' + q := by simp [HB.out, HQ.out]; omega
        have kB2 : At (wr.setRow G (spl (bcells blk) f' ((bcells bs').take q)).toArray) G 78 (bcells blk2) := by rw [e1]; exact kB.setRow
        have kS2 : At (wr.setRow G (spl (bcells blk) f' ((bcells bs').take q)).toArray) w.heap.size 65 (stc s' (.slice none 0 0) (l : Int)) := kS.setRow_far (by omega)
        have kR2 : At (wr.setRow G (spl (bcells blk) f' ((bcells bs').take q)).toArray) (w.heap.size + 1) 65 (stc ⟨0,0,0,0,0,0,0,0⟩ (.slice none 0 0) 0) := kR.setRow_far (by omega)
        have kbel2 : Below w.heap.size w (wr.setRow G (spl (bcells blk) f' ((bcells bs').take q)).toArray) := below_setRow kbel (by omega) _
        have hsz2 : w.heap.size ≤ (wr.setRow G (spl (bcells blk) f' ((bcells bs').take q)).toArray).heap.size := Nat.le_of_lt kS2.lt
        have hsB := Sl.of_at kB2 0 (f' + q)
        rw [List.drop_zero, bcells_take blk2, htake] at hsB
        have HLn : Hid ((blk.take f' ++ bs').length = f' + q) := hlen
        clear hblk2 e1 htake hlen
        go_wp2_with (first
          | (refine wpList_cp rfl (.tmp 47) (.tmp 48) 49 49 5 rfl under22 info5 G f' (64 - f') (64 - f') rfl 78 _ kB A' q c' rfl (bcells bs') (by rw [bcells_len]; exact HQ.out) (kb.below kbel) (by rw [bcells_len, HB.out]; omega) (bcells_one _) ?_; simp only [hmin])
          | (refine wpList_app rfl (.const (.slice none 0 0)) (.tmp 52) 49 rfl bytesTy (G + 1) (.slice none 0 0) 0 [] rfl (World.ownsRow_nil _ _ _ _) (some ⟨G, 0, none⟩) (f' + q) 64 (bcells (blk.take f' ++ bs')) rfl (by rw [bcells_len]; exact HLn.out) hsB (bcells_one _) (by omega) kB2.lt ?_; intro v3 w3 hown3 hgr3 hbl3; obtain ⟨A3, c3, rfl, hsl3, _, _, _, hA3⟩ := own_slice hown3; simp only [List.nil_append] at hsl3; have kS3 : At w3 w.heap.size 65 (stc s' (.slice none 0 0) (l : Int)) := (hgr3.block _ kS2.lt (by simp [Value.ownBlock])).trans kS2; have c8 : w3.cell? ⟨w.heap.size, 8, none⟩ = some (.slice none 0 0) := (kS3.cell 8).trans rfl; have c8f := kS3.froz 8; have kR3 : At w3 (w.heap.size + 1) 65 (stc ⟨0,0,0,0,0,0,0,0⟩ (.slice none 0 0) 0) := (hgr3.block _ kR2.lt (by simp [Value.ownBlock])).trans kR2; have kbel3 : Below w.heap.size w w3 := kbel2.grown hgr3 hsz2 (fun k hk => by cases hk))
          | (refine wpList_loadA rfl 65 (.tmp 2) rfl ty30 w.heap.size 0 rfl 65 _ (kS3.put 8 (.slice A3 (f' + q) c3)) (stc s' (.slice A3 (f' + q) c3) (l : Int)) rfl (all_at _) ?_)
          | (refine wpList_storeA rfl rfl 65 (.tmp 4) (.tmp 55) rfl ty30 (w.heap.size + 1) 0 rfl (stc s' (.slice A3 (f' + q) c3) (l : Int)) rfl 65 _ (kR3.far (by simp) _) rfl (by rw [stc_len]; omega) (stc_one _ _ _ _ _) ?_; simp only [stc_spl_all]))
        refine bodyPost_ret (v := .agg (stc s' (.slice A3 (f' + q) c3) (l : Int)).toArray) (results_cellA rfl ty30 _ _ (w.heap.size + 1) 65 _ rfl (kR3.far (by simp) _).setRow rfl) rfl ⟨A3, f' + q, c3, ?_, ?_, ?_, below_setRow (kbel3.setCell (by simp) _) (by omega) _⟩
        · rw [HF.out]
        · rw [HF.out]
          exact hsl3.from_ hA3 fun b o hb => (cell_setRow_ne _ _ _ _ _ (by omega)).trans (cell_setCell_ne _ _ _ _ _ _ (by omega))
        · rw [HF.out]; exact HLn.out
  · have HN : Hid (okN m n) := hok
    have hn1 : 0 ≤ n := hok.1
    have hn2 : n ≤ 1099511627776 := hok.2.1
    clear hok
    go_enter Tryd.func42, Tryd.ntmps42
    go_wp2_with (first
      | (refine wpList_loadA rfl 65 (.tmp 2) rfl ty30 w.heap.size 0 rfl 65 _ h0 (stc s (.slice A m c) n) rfl (all_at _) ?_)
      | (go_at_call 52; refine (valid_any s A m c n _ true hm63 ⟨fun _ => HN.out, fun _ => rfl⟩).mono ?_; rintro e w1 ⟨rfl, hb1⟩; have g0 := h0.below hb1 (by simp; omega); have g1 := h1.below hb1 (by simp); have c9 : w1.cell? ⟨w.heap.size, 9, none⟩ = some (.int .i64 n) := (g0.cell 9).trans rfl; have gbel := hbel.trans (hb1.mono (by simp; omega)))
      | (go_at_call 43; refine (new_any _).mono ?_; rintro e w2 ⟨rfl, hb2⟩; have q0 := g0.below hb2 g0.lt; have q1 := g1.below hb2 g1.lt; have qbel := gbel.trans (hb2.mono (Nat.le_of_lt g0.lt)); have c9z : (w2.setRow w.heap.size (stc iv (.slice none 0 0) 0).toArray).cell? ⟨w.heap.size, 9, none⟩ = some (.int .i64 0) := (q0.setRow.cell 9).trans rfl; have c9f := (q0.setRow (cs' := stc iv (.slice none 0 0) 0)).froz 9)
      | (refine wpList_storeA rfl rfl 65 (.tmp 2) (.tmp 18) rfl ty30 w.heap.size 0 rfl (stc iv (.slice none 0 0) 0) rfl 65 _ q0 rfl (by rw [stc_len]; omega) (stc_one _ _ _ _ _) ?_; simp only [stc_spl_all]))
    have kS : At (((w2.setRow w.heap.size (stc iv (.slice none 0 0) 0).toArray).setCell ⟨w.heap.size, 9, none⟩ (.int .i64 l)).alloc (.cells (bcells zer).toArray 78)) w.heap.size 65 (stc iv (.slice none 0 0) (l : Int)) := ((q0.setRow (cs' := stc iv (.slice none 0 0) 0)).put 9 _).alloc _
    have kR : At (((w2.setRow w.heap.size (stc iv (.slice none 0 0) 0).toArray).setCell ⟨w.heap.size, 9, none⟩ (.int .i64 l)).alloc (.cells (bcells zer).toArray 78)) (w.heap.size + 1) 65 (stc ⟨0,0,0,0,0,0,0,0⟩ (.slice none 0 0) 0) := ((q1.setRow_far (by omega)).far (by simp) _).alloc _
    have kB : At (((w2.setRow w.heap.size (stc iv (.slice none 0 0) 0).toArray).setCell ⟨w.heap.size, 9, none⟩ (.int .i64 l)).alloc (.cells (bcells zer).toArray 78)) w2.heap.size 78 (bcells zer) := At.new_ _ _ 78 _ (by simp [World.setCell])
    have hs1 : w.heap.size + 2 ≤ w2.heap.size := q1.lt
    have kbel : Below w.heap.size w (((w2.setRow w.heap.size (stc iv (.slice none 0 0) 0).toArray).setCell ⟨w.heap.size, 9, none⟩ (.int .i64 l)).alloc (.cells (bcells zer).toArray 78)) := ((below_setRow qbel (Nat.le_refl _) _).setCell (by simp) _).alloc (by simp [World.setCell]; omega) _
    change Code.wp _ _ _ _ (((w2.setRow w.heap.size (stc iv (.slice none 0 0) 0).toArray).setCell ⟨w.heap.size, 9, none⟩ (.int .i64 l)).alloc (.cells (bcells zer).toArray 78))
    generalize ((w2.setRow w.heap.size (stc iv (.slice none 0 0) 0).toArray).setCell ⟨w.heap.size, 9, none⟩ (.int .i64 l)).alloc (.cells (bcells zer).toArray 78) = W at *
    clear g0 g1 c9 c9z c9f gbel h0 h1 hbel hb1 hb2 q0 q1 qbel
    generalize w2.heap.size = G at *
    have c8 : W.cell? ⟨w.heap.size, 8, none⟩ = some (.slice none 0 0) := (kS.cell 8).trans rfl
    go_region_law (refine step_cp rfl (.tmp 25) (.tmp 27) 49 49 5 rfl under22 info5 G 0 64 64 rfl 78 _ kB.drew none 0 0 rfl (bcells []) rfl (Sl.nil) (by simp [bcells_len, zer_len]) (bcells_one _) ?_)
    go_simp
    go_wp2_with fail
    have e0 : spl (bcells zer) 0 [] = bcells zer := rfl
    have kB' : At (W.drew.setRow G (spl (bcells zer) 0 []).toArray) G 78 (bcells zer) := e0 ▸ kB.drew.setRow
    have kS' : At (W.drew.setRow G (spl (bcells zer) 0 []).toArray) w.heap.size 65 (stc iv (.slice none 0 0) (l : Int)) := kS.drew.setRow_far (by omega)
    have kR' : At (W.drew.setRow G (spl (bcells zer) 0 []).toArray) (w.heap.size + 1) 65 (stc ⟨0,0,0,0,0,0,0,0⟩ (.slice none 0 0) 0) := kR.drew.setRow_far (by omega)
    have kbel' : Below w.heap.size w (W.drew.setRow G (spl (bcells zer) 0 []).toArray) := below_setRow kbel.drew (by omega) _
    clear kS kR kB kbel c8 e0
    generalize W.drew.setRow G (spl (bcells zer) 0 []).toArray = W at *
    go_loopw [1, 6] (fun v f wr => ∃ (A' : Option Addr) (q c' f' : Nat) (bs' blk : List UInt8) (s' : St), v = .slice A' q c' ∧ Hid (bs'.length = q) ∧ q ≤ c' ∧ c' ≤ 140737488355328 ∧ q ≤ l ∧ f = .int .i64 f' ∧ f' < 64 ∧ Hid (blk.length = 64) ∧
        At wr w.heap.size 65 (stc s' (.slice none 0 0) (l : Int)) ∧ At wr (w.heap.size + 1) 65 (stc ⟨0,0,0,0,0,0,0,0⟩ (.slice none 0 0) 0) ∧ At wr G 78 (bcells blk) ∧ Sl w A' (bcells bs') ∧
        Hid (absorb iv bs = absorb s' (blk.take f' ++ bs')) ∧ Below w.heap.size w wr)
      (fun v _ _ => slLen v)
    case atStart => exact ⟨B, l, d, 0, bs, zer, iv, rfl, HL, hld, hd63, Nat.le_refl _, rfl, by omega, zer_len, kS', kR', kB', hb, rfl, kbel'⟩
    case round =>
      clear kS' kR' kB' kbel'
      obtain ⟨A', q, c', f', bs', blk, s', rfl, HQ, hqc, hc', hql, rfl, hf, HB, kS, kR, kB, kb, HA, kbel⟩ := hrel
      by_cases hge : 64 ≤ f' + q
      · have hmin : min q (64 - f') = 64 - f' := by omega
        have HA2 : ∃ A2, (if c' = 64 - f' then A' else A'.map (·.add (64 - f'))) = A2 := ⟨_, rfl⟩
        obtain ⟨A2, hA2⟩ := HA2
        have hcut := fun w' => run_from (P := Tryd.prog) bytesTy w' A' q c' (64 - f') .i64 (by omega)
        rw [hA2] at hcut
        have HA2 : Hid ((if c' = 64 - f' then A' else A'.map (·.add (64 - f'))) = A2) := hA2
        clear hA2
        have hsl : (Instr.sliceAt 78 (.pointer (some ⟨G, 0, none⟩)) (some (.int .i64 (f' : Int))) none none).run Tryd.prog wr = .ok (.slice (some ⟨G, f', none⟩) (64 - f') (64 - f')) wr := by
          simpa using run_arr_from under47 info5 wr G 0 f' .i64 hf
        obtain ⟨blk2, hblk2⟩ : ∃ b2, b2 = blk.take f' ++ bs'.take (64 - f') := ⟨_, rfl⟩
        have e1 : spl (bcells blk) f' ((bcells bs').take (64 - f')) = bcells blk2 := by
          rw [bcells_take, spl_bytes, List.drop_of_length_le (by simp [HB.out, HQ.out]; omega), hblk2]; simp
        have hl2 : blk2.length = 64 := by rw [hblk2]; simp [HB.out, HQ.out]; omega
        have kB2 : At (wr.setRow G (spl (bcells blk) f' ((bcells bs').take (64 - f'))).toArray) G 78 (bcells blk2) := by rw [e1]; exact kB.setRow
        have kS2 : At (wr.setRow G (spl (bcells blk) f' ((bcells bs').take (64 - f'))).toArray) w.heap.size 65 (stc s' (.slice none 0 0) (l : Int)) := kS.setRow_far (by omega)
        have kR2 : At (wr.setRow G (spl (bcells blk) f' ((bcells bs').take (64 - f'))).toArray) (w.heap.size + 1) 65 (stc ⟨0,0,0,0,0,0,0,0⟩ (.slice none 0 0) 0) := kR.setRow_far (by omega)
        have kbel2 : Below w.heap.size w (wr.setRow G (spl (bcells blk) f' ((bcells bs').take (64 - f'))).toArray) := below_setRow kbel (by omega) _
        have HB2 : Hid (blk2 = blk.take f' ++ bs'.take (64 - f')) := hblk2
        have hT2 := hT.below kbel2 hpos
        clear hblk2 e1
        go_wp2_with (first
          | (refine wpList_cp rfl (.tmp 36) (.tmp 37) 49 49 5 rfl under22 info5 G f' (64 - f') (64 - f') rfl 78 _ kB A' q c' rfl (bcells bs') (by rw [bcells_len]; exact HQ.out) (kb.below kbel) (by rw [bcells_len, HB.out]; omega) (bcells_one _) ?_; simp only [hmin])
          | (refine wpList_loadA rfl 63 (.tmp 40) rfl ty28 w.heap.size 0 rfl 65 _ kS2 (wcells s'.toL) rfl (by intro j hj; rw [Nat.zero_add]; exact (List.getElem?_append_left hj)) ?_)
          | (refine wpList_loadA rfl 78 (.tmp 5) rfl ty47 G 0 rfl 78 _ kB2 (bcells blk2) (by rw [bcells_len]; exact hl2) (all_at _) ?_)
          | (go_at_call 53; refine (mix_any s' blk2 _ hl2 hT2).mono ?_; rintro e w2 ⟨rfl, hb2⟩; have kS3 := kS2.below hb2 kS2.lt)
          | (refine wpList_storeA rfl rfl 63 (.tmp 44) (.tmp 43) rfl ty28 w.heap.size 0 rfl (wcells (compress s' blk2).toL) rfl 65 _ kS3 rfl (by rw [stc_len]; omega) (wcells_one _) ?_; simp only [stc_spl]))
        have kR3 := kR2.below hb2 kR2.lt
        have kB3 := kB2.below hb2 kB2.lt
        have kbel3 := kbel2.trans (hb2.mono (Nat.le_of_lt kS2.lt))
        go_roundw
        case rel =>
          refine ⟨A2, q - (64 - f'), c' - (64 - f'), 0, bs'.drop (64 - f'), blk2, compress s' blk2, rfl, ?_, by omega, by omega, by omega, rfl, by omega, hl2, kS3.setRow, kR3.setRow_far (by omega), kB3.setRow_far (by omega), ?_, ?_, below_setRow kbel3 (by omega) _⟩
          · show _ = _; rw [List.length_drop, HQ.out]
          · have := kb.cut (64 - f') c' (by rw [bcells_len, HQ.out]; exact hqc)
            rw [HA2.out, bcells_drop] at this; exact this
          · show _ = _
            rw [HA.out, absorb_round s' (blk.take f') bs' f' (by simp [HB.out]; omega) hf (by rw [HQ.out]; omega), HB2.out]; rfl
        case measure => simp [slLen]; omega
      · have hmin : min q (64 - f') = q := by omega
        have hsl : (Instr.sliceAt 78 (.pointer (some ⟨G, 0, none⟩)) (some (.int .i64 (f' : Int))) none none).run Tryd.prog wr = .ok (.slice (some ⟨G, f', none⟩) (64 - f') (64 - f')) wr := by
          simpa using run_arr_from under47 info5 wr G 0 f' .i64 hf
        have hto : ∀ w', (Instr.sliceAt 78 (.pointer (some ⟨G, 0, none⟩)) none (some (.int .i64 ((f' : Int) + (q : Int)))) none).run Tryd.prog w' = .ok (.slice (some ⟨G, 0, none⟩) (f' + q) 64) w' := by
          intro w'; simpa using run_arr_to under47 info5 w' G 0 (f' + q) .i64 (by omega) (by omega)
        obtain ⟨blk2, hblk2⟩ : ∃ b2, b2 = blk.take f' ++ bs' ++ blk.drop (f' + q) := ⟨_, rfl⟩
        have e1 : spl (bcells blk) f' ((bcells bs').take q) = bcells blk2 := by
          rw [bcells_take, spl_bytes, hblk2, List.take_of_length_le (Nat.le_of_eq HQ.out), HQ.out]
        have htake : blk2.take (f' + q) = blk.take f' ++ bs' := by
          rw [hblk2, List.take_append_of_le_length (by simp [HB.out, HQ.out]; omega), List.take_of_length_le (by simp [HB.out, HQ.out]; omega)]
        have HF : Hid (absorb iv bs = (s', blk.take f' ++ bs')) := by
          show _ = _; rw [HA.out, absorb_short _ _ (by simp [HB.out, HQ.out]; omega)]
        have hlen : (blk.take f' ++ bs').length = f' + q := by simp [HB.out, HQ.out]; omega
        have kB2 : At (wr.setRow G (spl (bcells blk) f' ((bcells bs').take q)).toArray) G 78 (bcells blk2) := by rw [e1]; exact kB.setRow
        have kS2 : At (wr.setRow G (spl (bcells blk) f' ((bcells bs').take q)).toArray) w.heap.size 65 (stc s' (.slice none 0 0) (l : Int)) := kS.setRow_far (by omega)
        have kR2 : At (wr.setRow G (spl (bcells blk) f' ((bcells bs').take q)).toArray) (w.heap.size + 1) 65 (stc ⟨0,0,0,0,0,0,0,0⟩ (.slice none 0 0) 0) := kR.setRow_far (by omega)
        have kbel2 : Below w.heap.size w (wr.setRow G (spl (bcells blk) f' ((bcells bs').take q)).toArray) := below_setRow kbel (by omega) _
        have hsz2 : w.heap.size ≤ (wr.setRow G (spl (bcells blk) f' ((bcells bs').take q)).toArray).heap.size := Nat.le_of_lt kS2.lt
        have hsB := Sl.of_at kB2 0 (f' + q)
        rw [List.drop_zero, bcells_take blk2, htake] at hsB
        have HLn : Hid ((blk.take f' ++ bs').length = f' + q) := hlen
        clear hblk2 e1 htake hlen
        go_wp2_with (first
          | (refine wpList_cp rfl (.tmp 47) (.tmp 48) 49 49 5 rfl under22 info5 G f' (64 - f') (64 - f') rfl 78 _ kB A' q c' rfl (bcells bs') (by rw [bcells_len]; exact HQ.out) (kb.below kbel) (by rw [bcells_len, HB.out]; omega) (bcells_one _) ?_; simp only [hmin])
          | (refine wpList_app rfl (.const (.slice none 0 0)) (.tmp 52) 49 rfl bytesTy (G + 1) (.slice none 0 0) 0 [] rfl (World.ownsRow_nil _ _ _ _) (some ⟨G, 0, none⟩) (f' + q) 64 (bcells (blk.take f' ++ bs')) rfl (by rw [bcells_len]; exact HLn.out) hsB (bcells_one _) (by omega) kB2.lt ?_; intro v3 w3 hown3 hgr3 hbl3; obtain ⟨A3, c3, rfl, hsl3, _, _, _, hA3⟩ := own_slice hown3; simp only [List.nil_append] at hsl3; have kS3 : At w3 w.heap.size 65 (stc s' (.slice none 0 0) (l : Int)) := (hgr3.block _ kS2.lt (by simp [Value.ownBlock])).trans kS2; have c8 : w3.cell? ⟨w.heap.size, 8, none⟩ = some (.slice none 0 0) := (kS3.cell 8).trans rfl; have c8f := kS3.froz 8; have kR3 : At w3 (w.heap.size + 1) 65 (stc ⟨0,0,0,0,0,0,0,0⟩ (.slice none 0 0) 0) := (hgr3.block _ kR2.lt (by simp [Value.ownBlock])).trans kR2; have kbel3 : Below w.heap.size w w3 := kbel2.grown hgr3 hsz2 (fun k hk => by cases hk))
          | (refine wpList_loadA rfl 65 (.tmp 2) rfl ty30 w.heap.size 0 rfl 65 _ (kS3.put 8 (.slice A3 (f' + q) c3)) (stc s' (.slice A3 (f' + q) c3) (l : Int)) rfl (all_at _) ?_)
          | (refine wpList_storeA rfl rfl 65 (.tmp 4) (.tmp 55) rfl ty30 (w.heap.size + 1) 0 rfl (stc s' (.slice A3 (f' + q) c3) (l : Int)) rfl 65 _ (kR3.far (by simp) _) rfl (by rw [stc_len]; omega) (stc_one _ _ _ _ _) ?_; simp only [stc_spl_all]))
        refine bodyPost_ret (v := .agg (stc s' (.slice A3 (f' + q) c3) (l : Int)).toArray) (results_cellA rfl ty30 _ _ (w.heap.size + 1) 65 _ rfl (kR3.far (by simp) _).setRow rfl) rfl ⟨A3, f' + q, c3, ?_, ?_, ?_, below_setRow (kbel3.setCell (by simp) _) (by omega) _⟩
        · rw [HF.out]
        · rw [HF.out]
          exact hsl3.from_ hA3 fun b o hb => (cell_setRow_ne _ _ _ _ _ (by omega)).trans (cell_setCell_ne _ _ _ _ _ _ (by omega))
        · rw [HF.out]; exact HLn.out
end Go.Proofs.YtmebogaenbjmnaaDoor.ShaW
