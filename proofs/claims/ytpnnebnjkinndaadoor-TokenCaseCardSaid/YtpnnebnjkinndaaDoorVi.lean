/- token: Positions, the program's and the reference's. -/
import Derived.Test.YtpnnebnjkinndaaDoorVh
import Derived.Test.YtpnnebnjkinndaaDoorVe
namespace Go.Proofs.YtpnnebnjkinndaaDoor.TokW
open Go.RowKit UtfW Go.Sort Go.Shelf
theorem refAtTy : ElemK Tryd.prog 32 36 (.agg #[.string ⟨#[]⟩, .int .i64 0]) 2 24 := ⟨by kernel_rfl, info_parts (by kernel_rfl), rfl, by omega, by omega⟩
theorem new_at (ty : TypeId) (W : World) (s : ByteArray) (i : Nat) : Sl (W.alloc (.cells #[.string s, .int .i64 (i : Int)] ty)) (some ⟨W.heap.size, 0, none⟩) (kcells encP [(s.data.toList, i)]) := Sl.of_at_all (At.new_ W _ ty (kcells encP [(s.data.toList, i)]) rfl)
theorem snoc_ownP {w : World} {ty : TypeId} {base : Nat} {v : Value} {a : List Pl} {x : Pl} {n : Nat} (hn : n = a.length) (h : w.ownsRow base ty 2 v (n + 1) (kcells encP a ++ kcells encP [x])) : OwP ty base w v (a ++ [x]) := by
  subst hn
  unfold OwP
  rw [List.length_append, ← kcells_app]
  exact h
theorem OwP.below {ty : TypeId} {B : Nat} {v : Value} {l : List Pl} {w w' : World} (h : OwP ty B w v l) (hb : Below w.heap.size w w') : OwP ty B w' v l := own_below h hb
theorem OwP.base {ty : TypeId} {B B' : Nat} {v : Value} {l : List Pl} {w : World} (h : OwP ty B w v l) (hb : B' ≤ B) : OwP ty B' w v l := World.ownsRow.mono h hb
set_option maxRecDepth 1000000 in
set_option maxHeartbeats 1000000 in
theorem positions_any (B : Option Addr) (l d : Nat) (bs : List UInt8) (w : World) (hT : Tabs w) (hl : bs.length = l) (hb : Sl w B (bcells bs)) (hld : l ≤ d) (hd63 : d ≤ 9223372036854775807) (hl40 : l ≤ 1099511627776) :
    Calls Tryd.prog 18 #[.slice B l d] w (PlsP 35 (posU (termsU bs)) w) := by
  have hlen := terms_len bs
  rw [hl] at hlen
  have HL := Lib.hid hl
  clear hl
  go_enter Tryd.func18, Tryd.ntmps18
  go_wp2_with fail
  refine (terms_any B l d bs _ hT HL.out hb hld hd63 hl40).mono ?_
  rintro e w1 ⟨v1, ss, rfl, hss, hown1, bb1⟩
  obtain ⟨n, hn⟩ : ∃ n, n = ss.length := ⟨_, rfl⟩
  have hnl : n ≤ l := by rw [hn]; rw [← hss, sbytes_len] at hlen; exact hlen
  have HSS := Lib.hid hss
  have HSN : Hid ((termsU bs).length = n) := by show _ = _; rw [← hss, sbytes_len, hn]
  obtain ⟨A1, c1, rfl, hs1, _, _, _⟩ := hown1.slice
  rw [← hn]
  have HN := Lib.hid hn
  have hz1 := bb1.size
  clear hown1 hss hn hT hb
  go_wp2_with fail
  go_loopw [3, 9] (fun out i wr => ∃ k : Nat, k ≤ n ∧ i = .int .i64 (k : Int) ∧ OwP 35 w1.heap.size wr out (zipK (termsU bs) k) ∧ Below w1.heap.size w1 wr) (fun _ i _ => n - (intOf i).toNat)
  case atStart => exact ⟨0, by omega, rfl, OwP.nil _ _ _, Below.refl _ _⟩
  case round =>
    obtain ⟨k, hk, rfl, hr, hbel⟩ := hrel
    have hs := hbel.size
    by_cases hlt : k < n
    · obtain ⟨b, o, rfl, hblt, hcell⟩ := hs1.get (j := k) (by rw [scells_len, ← HN.out]; exact hlt)
      have hc0 := (hbel.cell (p := ⟨b, o + k, none⟩) hblt).trans (hcell k _ (scells_get ss k (by rw [← HN.out]; exact hlt)))
      have HG := Lib.hid (tx_get ss k (by rw [← HN.out]; exact hlt))
      obtain ⟨P, hP⟩ : ∃ P, P = zipK (termsU bs) k := ⟨_, rfl⟩
      have HP := Lib.hid hP
      have hPl : P.length = k := by rw [hP, zipK_len]
      have HPL := Lib.hid hPl
      unfold OwP at hr
      rw [← hP, hPl] at hr
      clear hcell hP hPl
      generalize ss.getD k ⟨#[]⟩ = x at *
      have HR : Hid (zipK (termsU bs) (k + 1) = P ++ [(x.data.toList, k)]) := by
        show _ = _
        rw [zipK_succ, HP.out, ← HSS.out, HG.out]
      have HNI := Lib.hid (fun (W : World) => new_at 35 W x k)
      go_wp2_with (refine wpList_appK rfl (.tmp 14) (.tmp 18) 30 rfl atTy w1.heap.size u3 k (kcells encP P) rfl (hr.alloc _) _ 1 1 (kcells encP [(x.data.toList, k)]) rfl rfl (HNI.out _) (kcells_one encP_one _) (by omega) (by simp; omega) ?_; intro v3 w3 hown3 hgr3 hbl3)
      have hbel3 := below_appK (hbel.alloc hs (.cells #[.string x, .int .i64 (k : Int)] 35)) hgr3 (hr.alloc _) (Nat.le_refl _) (by simp; omega)
      go_roundw
      case rel => exact ⟨k + 1, by omega, by go_num, by rw [HR.out]; exact snoc_ownP HPL.out.symm hown3, hbel3⟩
      case measure => simp [intOf]; omega
    · have HE : Hid (k = n) := by show _ = _; omega
      have hr' : OwP 35 w1.heap.size wr u3 (zipK (termsU bs) (termsU bs).length) := by rw [HSN.out, ← HE.out]; exact hr
      have HSORT := Lib.hid (sortedA_any w1.heap.size u3 (termsU bs) wr hr' (by rw [HSN.out]; omega))
      clear hr hr'
      go_wp2_with fail
      refine HSORT.out.mono ?_
      rintro e w4 ⟨v4, rfl, hown4, b4⟩
      go_wp2_with fail
      go_ret
      exact ⟨_, rfl, hown4.base (by omega), bb1.trans ((hbel.mono hz1).trans (b4.mono (by omega)))⟩
theorem app_pl (t : List UInt8) (l : List Nat) (k : Nat) (h : k < l.length) (j : Nat) (hj : l.getD k 0 = j) : (l.take (k + 1)).map (fun i => (t, i)) = (l.take k).map (fun i => (t, i)) ++ [(t, j)] := by
  have e : l[k] = j := by simpa [List.getD, h] using hj
  rw [List.take_succ_eq_append_getElem h, List.map_append, e]; rfl
set_option maxRecDepth 1000000 in
set_option maxHeartbeats 4000000 in
theorem refPositions (B : Option Addr) (l d : Nat) (bs : List UInt8) (w : World) (hl : bs.length = l) (hb : Sl w B (bcells bs)) (hld : l ≤ d) (hd63 : d ≤ 9223372036854775807) (hl40 : l ≤ 1099511627776) :
    Calls Tryd.prog 19 #[.slice B l d] w (PlsP 36 (posU (termsU bs)) w) := by
  have hlen := terms_len bs
  rw [hl] at hlen
  have HL := Lib.hid hl
  clear hl
  go_enter Tryd.func19, Tryd.ntmps19
  go_wp2_with fail
  refine (refSet B l d bs _ HL.out hb hld hd63 hl40).mono ?_
  rintro e w1 ⟨v1, ss, rfl, hss, hown1, bb1⟩
  obtain ⟨n, hn⟩ : ∃ n, n = ss.length := ⟨_, rfl⟩
  have HSS := Lib.hid hss
  have HSN : Hid ((setU (termsU bs)).length = n) := by show _ = _; rw [← hss, sbytes_len, hn]
  obtain ⟨A1, c1, rfl, hs1, _, _, _⟩ := hown1.slice
  rw [← hn]
  have HN := Lib.hid hn
  have hz1 := bb1.size
  have hb1 := hb.below bb1
  have HLE : Hid (∀ (i : Nat) (t : List UInt8), i < (setU (termsU bs)).length → (setU (termsU bs)).getD i [] = t → (posK (termsU bs) i).length + (placesU (termsU bs) t).length ≤ (termsU bs).length) := fun i t => posK_le2
  have hn40 : n ≤ l := by
    have h1 := posK_le (termsU bs) 0
    have : (setU (termsU bs)).length ≤ (termsU bs).length := by
      rw [← posU_len (termsU bs)]
      unfold posU
      rw [List.length_flatMap]
      have : ∀ (L : List (List UInt8)), (∀ t ∈ L, placesU (termsU bs) t ≠ []) → L.length ≤ (L.map fun t => ((placesU (termsU bs) t).map fun i => (t, i)).length).sum := by
        intro L
        induction L with
        | nil => intro _; simp
        | cons t L ih =>
          intro h
          have h2 := ih (fun u hu => h u (by simp [hu]))
          have h3 := List.length_pos_iff.2 (h t (by simp))
          simp only [List.length_cons, List.map_cons, List.sum_cons, List.length_map] at h2 ⊢
          omega
      exact this _ (fun t ht => places_mem ((set_mem _ t).1 ht))
    rw [HSN.out] at this; omega
  clear hown1 hss hn hb
  go_wp2_with fail
  go_loopw [3, 5] (fun out i wr => ∃ k : Nat, k ≤ n ∧ i = .int .i64 (k : Int) ∧ OwP 36 w1.heap.size wr out (posK (termsU bs) k) ∧ Below w1.heap.size w1 wr) (fun _ i _ => n - (intOf i).toNat)
  case atStart => exact ⟨0, by omega, rfl, OwP.nil _ _ _, Below.refl _ _⟩
  case round =>
    obtain ⟨k, hk, rfl, hr, hbel⟩ := hrel
    have hs := hbel.size
    by_cases hlt : k < n
    · obtain ⟨b, o, rfl, hblt, hcell⟩ := hs1.get (j := k) (by rw [scells_len, ← HN.out]; exact hlt)
      have hcw := hcell k _ (scells_get ss k (by rw [← HN.out]; exact hlt))
      have hc0 := (hbel.cell (p := ⟨b, o + k, none⟩) hblt).trans hcw
      have HG := Lib.hid (tx_get ss k (by rw [← HN.out]; exact hlt))
      generalize ss.getD k ⟨#[]⟩ = x at *
      have hts : (setU (termsU bs)).getD k [] = x.data.toList := by rw [← HSS.out]; exact HG.out
      have hkl : k < (setU (termsU bs)).length := by rw [HSN.out]; exact hlt
      have hpl := HLE.out _ _ hkl hts
      have HSU := Lib.hid (posK_succ hkl hts)
      obtain ⟨P, hP⟩ : ∃ P, P = posK (termsU bs) k := ⟨_, rfl⟩
      obtain ⟨Q, hQ⟩ : ∃ Q, Q = placesU (termsU bs) x.data.toList := ⟨_, rfl⟩
      have HP := Lib.hid hP
      have HQ := Lib.hid hQ
      rw [← hP] at hr hpl HSU
      rw [← hQ] at hpl HSU
      obtain ⟨m, hm⟩ : ∃ m, m = Q.length := ⟨_, rfl⟩
      have HM := Lib.hid hm
      rw [← hm] at hpl
      clear hcell hts hkl hP hQ hm
      go_wp2_with fail
      refine (refPlaces B l d bs x _ HL.out (hb1.below hbel) hld hd63 hl40).mono ?_
      rintro e w2 ⟨v2, rfl, hown2, b2⟩
      rw [← HQ.out] at hown2
      have hr2 := hr.below b2
      have hbel2 := hbel.trans (b2.mono hs)
      obtain ⟨A2, c2, rfl, hs2, _, _, hge2⟩ := hown2.slice
      have hz2 := hbel2.size
      have hz12 := b2.size
      rw [← HM.out]
      have hne2 : ∀ b o s, A2 = some ⟨b, o, s⟩ → some b ≠ u3.ownBlock := by
        intro b' o' s' hA hb'
        have h1 := hge2 b' o' s' hA
        have h2 := (hr.lt b' hb'.symm).2
        omega
      clear hr hown2 b2 hc0 hge2
      go_wp2_with fail
      go_loopw [3, 7] (fun out i wi => ∃ j : Nat, j ≤ m ∧ i = .int .i64 (j : Int) ∧ OwP 36 w1.heap.size wi out (P ++ (Q.take j).map fun i => (x.data.toList, i)) ∧ Below w1.heap.size w1 wi ∧ Sl wi A2 (icells Q) ∧ Hid (∀ b o s, A2 = some ⟨b, o, s⟩ → some b ≠ out.ownBlock)) (fun _ i _ => m - (intOf i).toNat)
      case atStart => exact ⟨0, by omega, rfl, by simpa using hr2, hbel2, hs2, hne2⟩
      case round =>
        clear hr2 hs2 hne2 hbel2 hz2 hbel
        obtain ⟨j, hj, rfl, hr3, hbel3, hs3, HNE⟩ := hrel
        have hz3 := hbel3.size
        by_cases hjm : j < m
        · obtain ⟨q, p, rfl, hqlt, hqc⟩ := hs3.get (j := j) (by rw [icells_len, ← HM.out]; exact hjm)
          have hc1 := hqc j _ (icells_get Q j (by rw [← HM.out]; exact hjm))
          have hc2 := (hbel3.cell (p := ⟨b, o + k, none⟩) hblt).trans hcw
          obtain ⟨y, hy⟩ : ∃ y, Q.getD j 0 = y := ⟨_, rfl⟩
          rw [hy] at hc1
          have HA := Lib.hid (app_pl x.data.toList Q j (by rw [← HM.out]; exact hjm) y hy)
          obtain ⟨R, hR⟩ : ∃ R, R = P ++ (Q.take j).map fun i => (x.data.toList, i) := ⟨_, rfl⟩
          have hRl : R.length = P.length + j := by rw [hR, List.length_append, List.length_map, List.length_take, ← HM.out]; omega
          have HRL := Lib.hid hRl
          have HRR := Lib.hid hR
          rw [← hR] at hr3
          unfold OwP at hr3
          have HNI := Lib.hid (fun (W : World) => new_at 36 W x y)
          obtain ⟨N, hN⟩ : ∃ N, N = R.length := ⟨_, rfl⟩
          have HNR := Lib.hid hN
          rw [← hN] at hr3 hRl
          clear hqc hy hR hN
          have hAll := hr3
          go_wp2_with fail
          go_region_law (go_must (refine step_appK rfl (.tmp 28) (.tmp 38) 32 rfl refAtTy w1.heap.size u3 N (kcells encP R) rfl (hr3.alloc _).drew _ 1 1 (kcells encP [(x.data.toList, y)]) rfl rfl (HNI.out _) (kcells_one encP_one _) (by omega) (by simp; omega) ?_; intro v4 w4 hown4 hgr4 hbl4))
          all_goals
            have hbel4 := below_appK ((hbel3.alloc hz3 (.cells #[.string x, .int .i64 (y : Int)] 36)).drew) hgr4 (hr3.alloc _).drew (Nat.le_refl _) (by simp; omega)
            have hs4 : Sl w4 (some ⟨q, p, none⟩) (icells Q) := Sl.grown (w := (wr.alloc (.cells #[.string x, .int .i64 (y : Int)] 36)).drew) ((hs3.alloc _).drew) hgr4 HNE.out
            have hne4 : Hid (∀ b o s, (some ⟨q, p, none⟩ : Option Addr) = some ⟨b, o, s⟩ → some b ≠ v4.ownBlock) := by
              intro b' o' s' hA hb'
              rcases hbl4 with h | h
              · rw [h] at hb'; exact HNE.out b' o' s' hA hb'
              · rw [h] at hb'
                cases hA
                have := Option.some.inj hb'
                simp at this
                omega
            clear hgr4 hbl4
            go_simp
            go_wp2_with fail
            go_roundw
            case rel =>
              refine ⟨j + 1, by omega, by go_num, ?_, hbel4, hs4, hne4⟩
              rw [HA.out, ← List.append_assoc, ← HRR.out]
              exact snoc_ownP HNR.out hown4
            case measure => simp [intOf]; omega
        · have HE : Hid (j = m) := by show _ = _; omega
          have hr4 : OwP 36 w1.heap.size wr u3 (posK (termsU bs) (k + 1)) := by
            have : Q.take j = Q := List.take_of_length_le (by rw [← HM.out, HE.out]; exact Nat.le_refl _)
            rw [this] at hr3
            rw [HSU.out]; exact hr3
          clear hr3 hs3
          go_wp2_with fail
          go_roundw
          case rel => exact ⟨k + 1, by omega, by go_num, hr4, hbel3⟩
          case measure => simp [intOf]; omega
    · have HF : Hid (posK (termsU bs) k = posU (termsU bs)) := by
        show _ = _
        rw [posK_all _ (by rw [HSN.out]; omega)]
      go_wp2_with fail
      go_ret
      exact ⟨_, rfl, by rw [← HF.out]; exact OwP.base hr hz1, bb1.trans (hbel.mono hz1)⟩
end Go.Proofs.YtpnnebnjkinndaaDoor.TokW
