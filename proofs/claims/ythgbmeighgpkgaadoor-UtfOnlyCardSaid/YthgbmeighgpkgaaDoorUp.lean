/- The law UtfOnly. -/
import Derived.Test.YthgbmeighgpkgaaDoorUo
namespace Go.Proofs.YthgbmeighgpkgaaDoor.UtfW
open Go.RowKit
theorem bad_right : rightC ((65533 : Nat) : Int) := by unfold rightC; omega
/-- All that bytes are decoded to are characters. -/
theorem dec_right : ∀ (n : Nat) (b : List UInt8), b.length ≤ n → ∀ c ∈ dec b, rightC ((c : Nat) : Int)
  | 0, b, h => by
    have : b = [] := List.eq_nil_of_length_eq_zero (by omega)
    subst this; simp [dec_nil]
  | n + 1, b, h => by
    by_cases hn : b = []
    · subst hn; simp [dec_nil]
    · rw [dec_cons b hn]
      have hp := one_pos b
      intro c hc
      rcases List.mem_cons.1 hc with rfl | hc
      · by_cases h1 : (one b).1 = 65533
        · rw [h1]; exact bad_right
        · exact (one_ok h1).1
      · exact dec_right n (b.drop (one b).2) (by rw [List.length_drop]; omega) c hc
set_option maxRecDepth 1000000 in
set_option maxHeartbeats 2000000 in
theorem lawOnly (A : Option Addr) (n c : Nat) (bs : List UInt8) (w : World) (hT : Tabs w) (hn : bs.length = n) (hA : Sl w A (bcells bs)) (hnc : n ≤ c) (hc : c ≤ 9223372036854775807) :
    Calls Tryd.prog 7 #[.slice A n c] w fun e w' => e = .returned (.bool true) ∧ Below w.heap.size w w' := by
  have HT := Lib.hid (fun W (hb : Below w.heap.size w W) => hT.below hb hT.pos)
  have HM := Lib.hid hn
  clear hn
  by_cases hg : 2000 < n
  · go_enter Tryd.func7, Tryd.ntmps7
    go_wp2_with fail
    refine (knows_any _ hT).mono ?_
    rintro e w1 ⟨rfl, b1⟩
    go_wp2_with fail
    go_ret
    exact ⟨rfl, b1⟩
  · clear hT
    have o0 : (w.alloc (.cells #[] 5)).ownsRow w.heap.size 5 1 (.slice (some ⟨w.heap.size, 0, none⟩) 0 0) 0 [] := own_lit w w.heap.size 5 [] 0 rfl (Nat.le_refl _) (by omega)
    have b0 : Below w.heap.size w (w.alloc (.cells #[] 5)) := (Below.refl _ _).alloc (Nat.le_refl _) _
    obtain ⟨L, hL⟩ : ∃ L, L = dec bs := ⟨_, rfl⟩
    have HL := Lib.hid hL
    obtain ⟨N, hN⟩ : ∃ N, L.length = N := ⟨_, rfl⟩
    have HN := Lib.hid hN
    have hN2 : N ≤ n := by have := dec_len bs; rw [← hN, hL]; rw [HM.out] at this; exact this
    have HRT : Hid (∀ k, k < N → rightC ((L.getD k 0 : Nat) : Int)) := fun k hk => by
      refine dec_right bs.length bs (Nat.le_refl _) _ ?_
      rw [← hL]
      have : k < L.length := by omega
      simp [List.getD, this]
    have HON : Hid ((∀ k, k < N → L.getD k 0 ≠ 65533) → L.flatMap encU = bs) := fun h => by
      rw [hL]
      refine (dec_only bs.length bs (Nat.le_refl _) ?_).1
      rw [← hL]
      intro x hx
      obtain ⟨i, hi, rfl⟩ := List.getElem_of_mem hx
      have := h i (by omega)
      simpa [List.getD, hi] using this
    obtain ⟨S1, hS1⟩ : ∃ S : ByteArray, S = ⟨bs.toArray⟩ := ⟨_, rfl⟩
    have HS1 := Lib.hid hS1
    clear hL hN hS1
    go_enter Tryd.func7, Tryd.ntmps7
    go_wp2_with (refine wpList_app rfl (.tmp 12) (.tmp 13) 22 rfl bytesTy w.heap.size (.slice (some ⟨w.heap.size, 0, none⟩) 0 0) 0 [] rfl o0 A n c (bcells bs) rfl (by rw [bcells_len]; exact HM.out) (hA.below b0) (bcells_one _) (by omega) (by simp) ?_; intro v1 w1 hown1 hgr1 hbl1)
    have b1 := below_app b0 hgr1 o0 (Nat.le_refl _) (by simp)
    obtain ⟨A1, c1, rfl, hs1, hc1, _, hm1, _⟩ := own_slice hown1
    rw [List.nil_append] at hs1
    rw [Nat.zero_add] at hc1 ⊢
    clear o0 b0 hown1 hgr1 hbl1
    refine (decode_any A1 n c1 bs _ (HT.out _ b1) HM.out hs1 hc1 (by unfold maxLen at hm1; omega) (by omega)).mono ?_
    rintro e w2 ⟨v2, rfl, hown2, hb2⟩
    rw [← HL.out] at hown2
    have b2 := b1.trans (hb2.mono b1.size)
    obtain ⟨A2, c2, rfl, hs2, _, _, _⟩ := hown2.slice
    rw [HN.out]
    clear hs1 hb2 b1 hown2 hc1 hm1
    go_wp2_with fail
    go_loopw [4, 5] (fun v i wr => ∃ (k : Nat), k ≤ N ∧ i = .int .i64 (k : Int) ∧ Ow w2.heap.size wr v ((L.take k).flatMap encU) ∧ Hid (∀ j, j < k → L.getD j 0 ≠ 65533) ∧ Below w2.heap.size w2 wr) (fun _ i _ => N - (intOf i).toNat)
    case atStart => exact ⟨0, by omega, rfl, by simpa using Ow.nil _ _, (fun j hj => by omega), Below.refl _ _⟩
    case round =>
      obtain ⟨k, hk, rfl, hown, HNB, hbel2⟩ := hrel
      have hbel := b2.trans (hbel2.mono b2.size)
      have hs := hbel.size
      by_cases hlt : k < N
      · obtain ⟨q, r, rfl, hqlt, hqc⟩ := hs2.get (j := k) (by rw [icells_len, HN.out]; exact hlt)
        have c0 := (hbel2.cell (p := ⟨q, r + k, none⟩) hqlt).trans (hqc k _ (icells_get L k (by rw [HN.out]; exact hlt)))
        have HCC : Hid (∀ W : World, Below wr.heap.size wr W → W.cell? ⟨q, r + k, none⟩ = some (.int .i64 ((L.getD k 0 : Nat) : Int))) := fun W hW => (hW.cell (p := ⟨q, r + k, none⟩) (by show q < _; have := hbel2.size; omega)).trans c0
        have hr := HRT.out k hlt
        have HNB2 : Hid (L.getD k 0 ≠ 65533 → ∀ j, j < k + 1 → L.getD j 0 ≠ 65533) := fun h j hj => by
          rcases Nat.lt_or_ge j k with h1 | h1
          · exact HNB.out j h1
          · rwa [show j = k by omega]
        have HTK : Hid ((L.take (k + 1)).flatMap encU = (L.take k).flatMap encU ++ encU (L.getD k 0)) := by
          show _ = _
          have hk2 : k < L.length := by rw [HN.out]; exact hlt
          rw [List.take_succ_eq_append_getElem hk2, List.flatMap_append, List.flatMap_cons, List.flatMap_nil, List.append_nil]
          simp [List.getD, hk2]
        clear hqc
        have hfl := flat_len (L.take k)
        rw [List.length_take] at hfl
        generalize hy : L.getD k 0 = y at *
        clear hy
        by_cases hbad : y = 65533
        · subst hbad
          go_wp2_with fail
          refine (knows_any _ (HT.out _ hbel)).mono ?_
          rintro e w9 ⟨rfl, hb9⟩
          go_wp2_with fail
          go_ret
          exact ⟨ret_bool (by first | rfl | (simp; done) | (simp; omega)), hbel.trans (hb9.mono hs)⟩
        · have HNB3 := Lib.hid (HNB2.out hbad)
          have hy2 : (y : Int) ≠ 65533 := by omega
          have h4 := encU_le4 y
          obtain ⟨ne, hne⟩ : ∃ ne, (encU y).length = ne := ⟨_, rfl⟩
          obtain ⟨nf, hnf⟩ : ∃ nf, ((L.take k).flatMap encU).length = nf := ⟨_, rfl⟩
          rw [hne] at h4
          rw [hnf] at hfl
          have HNE := Lib.hid hne
          have HNF := Lib.hid hnf
          clear hne hnf HNB2
          go_wp2_with fail
          refine (encode_ok y _ (HT.out _ hbel) hr).mono ?_
          rintro e w3 ⟨v3, rfl, hown3, hb3⟩
          have b3 := hbel.trans (hb3.mono hs)
          have bb3 := hbel2.trans (hb3.mono hbel2.size)
          have s3 := bb3.size
          have hown' := hown.below hb3
          unfold Ow at hown'
          rw [HNF.out] at hown'
          obtain ⟨A3, c3, rfl, hs3, _, _, _⟩ := hown3.slice
          rw [HNE.out]
          clear c0 hown hown3 hb3 hr
          go_wp2_with (refine wpList_app rfl (.tmp 45) (.tmp 46) 22 rfl bytesTy w2.heap.size u4 nf (bcells ((L.take k).flatMap encU)) rfl hown' A3 ne c3 (bcells (encU y)) rfl (by rw [bcells_len]; exact HNE.out) hs3 (bcells_one _) (by omega) s3 ?_; intro v4 w4 hown4 hgr4 hbl4)
          have bb4 := below_app bb3 hgr4 hown' (Nat.le_refl _) s3
          clear hy2
          go_roundw
          case rel =>
            refine ⟨k + 1, by omega, by go_num, ?_, HNB3, bb4⟩
            unfold Ow
            rw [HTK.out, List.length_append, HNF.out, HNE.out, ← bcells_app]
            exact hown4
          case measure => simp [intOf]; omega
      · have HF := Lib.hid (HON.out (fun j hj => HNB.out j (by omega)))
        have HTK : Hid ((L.take k).flatMap encU = bs) := by
          show _ = _
          rw [List.take_of_length_le (by rw [HN.out]; omega), HF.out]
        rw [HTK.out] at hown
        obtain ⟨A3, c3, rfl, hs3, _, _, _⟩ := hown.slice
        rw [HM.out]
        have cv1 := run_str (P := Tryd.prog) wr 22 9 5 underBytes underU8 underStr A3 bs n c3 HM.out hs3
        have cv2 := run_str (P := Tryd.prog) wr 22 9 5 underBytes underU8 underStr A bs n c HM.out (hA.below hbel)
        rw [← HS1.out] at cv1 cv2
        go_wp2_with fail
        clear cv1 cv2
        refine (knows_any _ (HT.out _ hbel)).mono ?_
        rintro e w9 ⟨rfl, hb9⟩
        go_wp2_with fail
        go_ret
        exact ⟨ret_bool (by first | rfl | (simp; done) | (simp; omega)), hbel.trans (hb9.mono hs)⟩
end Go.Proofs.YthgbmeighgpkgaaDoor.UtfW
