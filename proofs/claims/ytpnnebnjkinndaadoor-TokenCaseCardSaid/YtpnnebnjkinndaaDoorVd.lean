/- token: Same; the reference's least, Sorted, Set. -/
import Derived.Test.YtpnnebnjkinndaaDoorVc
import Derived.Sort.Walk0
namespace Go.Proofs.YtpnnebnjkinndaaDoor.TokW
open Go.RowKit UtfW
set_option maxHeartbeats 400000 in
theorem same_any (A B : Option Addr) (n c d : Nat) (ss : List ByteArray) (w : World) (hn : ss.length = n) (hA : Sl w A (scells ss)) (hB : Sl w B (scells ss)) (hn63 : n ≤ 9223372036854775807) :
    Calls Tryd.prog 11 #[.slice A n c, .slice B n d] w fun e w' => e = .returned (.bool true) ∧ Below w.heap.size w w' := by
  have HN : Hid (ss.length = n) := hn
  clear hn
  go_enter Tryd.func11, Tryd.ntmps11
  go_wp2_with fail
  go_loopw [5] (fun i wr => ∃ k : Nat, k ≤ n ∧ i = .int .i64 k ∧ Below w.heap.size w wr) (fun i _ => n - (intOf i).toNat)
  case atStart => exact ⟨0, by omega, rfl, Below.refl _ _⟩
  case round =>
    obtain ⟨k, hk, rfl, hbel⟩ := hrel
    by_cases hlt : k < n
    · obtain ⟨b, o, rfl, hblt, hcell⟩ := (hA.get (j := k) (by rw [scells_len, HN.out]; exact hlt))
      obtain ⟨b2, o2, rfl, hblt2, hcell2⟩ := (hB.get (j := k) (by rw [scells_len, HN.out]; exact hlt))
      have hc0 := (hbel.cell (p := ⟨b, o + k, none⟩) hblt).trans (hcell k _ (scells_get ss k (by rw [HN.out]; exact hlt)))
      have hc1 := (hbel.cell (p := ⟨b2, o2 + k, none⟩) hblt2).trans (hcell2 k _ (scells_get ss k (by rw [HN.out]; exact hlt)))
      clear hcell hcell2
      generalize ss.getD k ⟨#[]⟩ = s at *
      go_wp2_with fail
      go_quiet (fail)
      go_wp2_with fail
      go_roundw
      case rel => exact ⟨k + 1, by omega, by go_num, hbel.trans (below_drewN (Below.refl _ _) _)⟩
      case measure => simp [intOf]; omega
    · have hk8 : k = n := by omega
      go_wp2_with fail
      go_ret
      exact ⟨rfl, hbel⟩
theorem less_yes {X Y : ByteArray} (h : X.data.toList < Y.data.toList) : Op.bytesLess X.toList Y.toList = true := by
  rw [bytesLess_eq, ByteArray.toList_eq, ByteArray.toList_eq]; simpa using h
theorem less_no {X Y : ByteArray} (h : ¬ X.data.toList < Y.data.toList) : Op.bytesLess X.toList Y.toList = false := by
  rw [bytesLess_eq, ByteArray.toList_eq, ByteArray.toList_eq]; simpa using h
def tx (ss : List ByteArray) (k : Nat) : List UInt8 := (ss.getD k ⟨#[]⟩).data.toList
/-- The place of one than which none is less. -/
def LeastP (ss : List ByteArray) (n : Nat) (w : World) (e : Ending) (w' : World) : Prop := ∃ m : Nat, e = .returned (.int .i64 (m : Int)) ∧ m < n ∧ (∀ j, j < n → ¬ tx ss j < tx ss m) ∧ Below w.heap.size w w'
set_option maxRecDepth 1000000 in
set_option maxHeartbeats 1000000 in
theorem refLeast (A : Option Addr) (n c : Nat) (ss : List ByteArray) (w : World) (hn : ss.length = n) (hA : Sl w A (scells ss)) (h0 : 0 < n) (hn63 : n ≤ 9223372036854775807) :
    Calls Tryd.prog 48 #[.slice A n c] w (LeastP ss n w) := by
  have HN := Lib.hid hn
  clear hn
  go_enter Tryd.func48, Tryd.ntmps48
  go_wp2_with fail
  go_loopw [3, 4] (fun a i wr => ∃ k m : Nat, k ≤ n ∧ m < k ∧ i = .int .i64 (k : Int) ∧ a = .int .i64 (m : Int) ∧ Hid (∀ j, j < k → ¬ tx ss j < tx ss m) ∧ Below w.heap.size w wr) (fun _ i _ => n - (intOf i).toNat)
  case atStart => exact ⟨1, 0, by omega, by omega, rfl, rfl, fun j hj => by rw [show j = 0 by omega]; exact List.lt_irrefl _, Below.refl _ _⟩
  case round =>
    obtain ⟨k, m, hk, hm, rfl, rfl, HK, hbel⟩ := hrel
    by_cases hlt : k < n
    · obtain ⟨b, o, rfl, hblt, hcell⟩ := (hA.get (j := k) (by rw [scells_len, HN.out]; exact hlt))
      have hc0 := (hbel.cell (p := ⟨b, o + k, none⟩) hblt).trans (hcell k _ (scells_get ss k (by rw [HN.out]; exact hlt)))
      have hc1 := (hbel.cell (p := ⟨b, o + m, none⟩) hblt).trans (hcell m _ (scells_get ss m (by rw [HN.out]; omega)))
      have HX : Hid (tx ss k = (ss.getD k ⟨#[]⟩).data.toList) := rfl
      have HY : Hid (tx ss m = (ss.getD m ⟨#[]⟩).data.toList) := rfl
      clear hcell
      generalize ss.getD k ⟨#[]⟩ = X at *
      generalize ss.getD m ⟨#[]⟩ = Y at *
      by_cases hxy : X.data.toList < Y.data.toList
      · have hl := less_yes hxy
        have HR : Hid (∀ j, j < k + 1 → ¬ tx ss j < tx ss k) := by
          intro j hj hlt'
          have h1 : tx ss k < tx ss m := by rw [HX.out, HY.out]; exact hxy
          rcases Nat.lt_or_eq_of_le (Nat.le_of_lt_succ hj) with h | h
          · exact HK.out j h (List.lt_trans hlt' h1)
          · subst h; exact List.lt_irrefl _ hlt'
        clear hxy
        go_wp2_with fail
        go_quiet (fail)
        go_wp2_with fail
        go_roundw
        case rel => exact ⟨k + 1, k, by omega, by omega, by go_num, rfl, HR, hbel.trans (below_drewN (Below.refl _ _) _)⟩
        case measure => simp [intOf]; omega
      · have hl := less_no hxy
        have HR : Hid (∀ j, j < k + 1 → ¬ tx ss j < tx ss m) := by
          intro j hj hlt'
          rcases Nat.lt_or_eq_of_le (Nat.le_of_lt_succ hj) with h | h
          · exact HK.out j h hlt'
          · subst h; rw [HX.out, HY.out] at hlt'; exact hxy hlt'
        clear hxy
        go_wp2_with fail
        go_quiet (fail)
        go_wp2_with fail
        go_roundw
        case rel => exact ⟨k + 1, m, by omega, by omega, by go_num, rfl, HR, hbel.trans (below_drewN (Below.refl _ _) _)⟩
        case measure => simp [intOf]; omega
    · have HE : Hid (k = n) := by show _ = _; omega
      go_wp2_with fail
      go_ret
      exact ⟨m, rfl, by rw [← HE.out]; exact hm, by rw [← HE.out]; exact HK.out, hbel⟩
theorem Sl.grown {w w' : World} {A : Option Addr} {cs : List Value} {row : Option Nat} (h : Sl w A cs) (hg : w.grownBy w' row) (hne : ∀ b o s, A = some ⟨b, o, s⟩ → some b ≠ row) : Sl w' A cs := fun hn => by
  obtain ⟨b, o, e, hlt, hc⟩ := h.get (j := 0) (List.length_pos_iff.2 hn)
  refine ⟨b, o, e, fun j u hu => ?_⟩
  rw [← hc j u hu]
  exact World.cell?_of_block (w := w) (a := ⟨b, o + j, none⟩) (hg.block b hlt (hne b o _ e))
theorem filter_bytes (s : ByteArray) : ∀ l : List ByteArray, sbytes (l.filter fun x => decide (x ≠ s)) = (sbytes l).filter fun x => decide (x ≠ s.data.toList)
  | [] => rfl
  | x :: l => by
    have ih := filter_bytes s l
    have e : sbytes (x :: l) = x.data.toList :: sbytes l := rfl
    rw [e, List.filter_cons, List.filter_cons]
    by_cases h : x = s
    · subst h; simpa using ih
    · have h' : x.data.toList ≠ s.data.toList := fun g => h (ba_eq g)
      simp only [h, h', ne_eq, not_false_eq_true, decide_true, if_true]
      show x.data.toList :: sbytes _ = _
      rw [ih]
def fl (s : ByteArray) (l : List ByteArray) : List ByteArray := l.filter fun x => decide (x ≠ s)
theorem fl_yes {s : ByteArray} {l : List ByteArray} {k : Nat} (h : k < l.length) (hne : l.getD k ⟨#[]⟩ ≠ s) : fl s (l.take (k + 1)) = fl s (l.take k) ++ [l.getD k ⟨#[]⟩] := by
  have e : l.getD k ⟨#[]⟩ = l[k] := by simp [List.getD, h]
  rw [e] at hne ⊢
  rw [List.take_succ_eq_append_getElem h]
  unfold fl
  rw [List.filter_append]
  simp [hne]
theorem fl_no {s : ByteArray} {l : List ByteArray} {k : Nat} (h : k < l.length) (he : l.getD k ⟨#[]⟩ = s) : fl s (l.take (k + 1)) = fl s (l.take k) := by
  have e : l.getD k ⟨#[]⟩ = l[k] := by simp [List.getD, h]
  rw [e] at he
  rw [List.take_succ_eq_append_getElem h]
  unfold fl
  rw [List.filter_append]
  simp [he]
theorem fl_len (s : ByteArray) (l : List ByteArray) : (fl s l).length ≤ l.length := List.length_filter_le _ _
theorem fl_less {s : ByteArray} {l : List ByteArray} {m : Nat} (h : m < l.length) (he : l.getD m ⟨#[]⟩ = s) : (fl s l).length < l.length := by
  have e : l.getD m ⟨#[]⟩ = l[m] := by simp [List.getD, h]
  unfold fl
  rw [List.length_filter_lt_length_iff_exists]
  exact ⟨s, by rw [← he, e]; exact List.getElem_mem h, by simp⟩
theorem set_step {l : List ByteArray} {m : Nat} {s : ByteArray} (h : m < l.length) (he : l.getD m ⟨#[]⟩ = s) (hl : ∀ j, j < l.length → ¬ tx l j < tx l m) : setU (sbytes l) = s.data.toList :: setU (sbytes (fl s l)) := by
  have e : l.getD m ⟨#[]⟩ = l[m] := by simp [List.getD, h]
  unfold fl
  rw [filter_bytes]
  refine set_least ?_ ?_
  · rw [← he, e]; exact List.mem_map.2 ⟨_, List.getElem_mem h, rfl⟩
  · intro x hx
    obtain ⟨y, hy, rfl⟩ := List.mem_map.1 hx
    obtain ⟨j, hj, rfl⟩ := List.getElem_of_mem hy
    have := hl j hj
    unfold tx at this
    rw [he] at this
    have e2 : l.getD j ⟨#[]⟩ = l[j] := by simp [List.getD, hj]
    rwa [e2] at this
theorem OwS.block {B : Nat} {w : World} {A : Option Addr} {n c : Nat} {ss : List ByteArray} (h : OwS B w (.slice A n c) ss) : ∀ b o s, A = some ⟨b, o, s⟩ → (Value.slice A n c).ownBlock = some b := by
  intro b o s hA
  subst hA
  rcases h.2 with ⟨h1, _⟩ | ⟨g, cap, cur, h1, _⟩
  · cases h1
  · cases h1; rfl
set_option maxRecDepth 1000000 in
set_option maxHeartbeats 2000000 in
theorem refSorted (A : Option Addr) (n c : Nat) (ss : List ByteArray) (w : World) (hn : ss.length = n) (hA : Sl w A (scells ss)) (hn40 : n ≤ 1099511627776) :
    Calls Tryd.prog 30 #[.slice A n c] w (TextsP (setU (sbytes ss)) w) := by
  have HN := Lib.hid hn
  have hlt0 : ∀ b o s, A = some ⟨b, o, s⟩ → scells ss ≠ [] → b < w.heap.size := by
    intro b o s hA' hne
    obtain ⟨b', o', e, hlt, _⟩ := hA.get (j := 0) (List.length_pos_iff.2 hne)
    rw [hA'] at e; cases e; exact hlt
  clear hn
  go_enter Tryd.func30, Tryd.ntmps30
  go_wp2_with fail
  go_loopw [0, 3] (fun l out wr => ∃ (B : Option Addr) (m d : Nat) (R O : List ByteArray), l = .slice B m d ∧ Hid (R.length = m) ∧ m ≤ n ∧ Sl wr B (scells R) ∧ OwS w.heap.size wr out O ∧ O.length + m ≤ n ∧
      Hid (∀ b o s, B = some ⟨b, o, s⟩ → some b ≠ out.ownBlock) ∧ Hid (setU (sbytes ss) = sbytes O ++ setU (sbytes R)) ∧ Below w.heap.size w wr) (fun l _ _ => slLen l)
  case atStart => exact ⟨A, n, c, ss, [], rfl, HN.out, Nat.le_refl _, hA, OwS.nil _ _, by simp, (by show ∀ b o s, A = some ⟨b, o, s⟩ → some b ≠ none; intro b o s _ h; cases h), rfl, Below.refl _ _⟩
  case round =>
    clear hA
    obtain ⟨B, m, d, R, O, rfl, HRM, hmn, hB, hown, hom, HAP, HK, hbel⟩ := hrel
    have hs := hbel.size
    by_cases hm0 : 0 < m
    · obtain ⟨b, o, rfl, hblt, hcell⟩ := hB.get (j := 0) (by rw [scells_len, HRM.out]; exact hm0)
      go_wp2_with fail
      refine (refLeast (some ⟨b, o, none⟩) m d R _ HRM.out hB hm0 (by omega)).mono ?_
      rintro e w1 ⟨i, rfl, him, hleast, b1⟩
      have hc1 := (b1.cell (p := ⟨b, o + i, none⟩) hblt).trans (hcell i _ (scells_get R i (by rw [HRM.out]; exact him)))
      have HST := Lib.hid (fun s he => set_step (l := R) (m := i) (s := s) (by rw [HRM.out]; exact him) he (by rw [HRM.out]; exact hleast))
      have HLS := Lib.hid (fun s he => fl_less (l := R) (m := i) (s := s) (by rw [HRM.out]; exact him) he)
      obtain ⟨s, hse⟩ : ∃ s, R.getD i ⟨#[]⟩ = s := ⟨_, rfl⟩
      rw [hse] at hc1
      have HST2 := Lib.hid (HST.out s hse)
      have HLS2 := Lib.hid (HLS.out s hse)
      have hB1 := hB.below b1
      have hown1 := hown.below b1
      have hz1 := b1.size
      have hbel1 := hbel.trans (b1.mono hs)
      have hs1 := hbel1.size
      have hbl1 : b < w1.heap.size := by omega
      have HN1 := Lib.hid (fun (W : World) => new_str W s)
      clear HST HLS hse hleast hcell hB hown b1 hbel
      go_wp2_with (refine wpList_app rfl (.tmp 15) (.tmp 17) 26 rfl strsTy w.heap.size u3 O.length (scells O) rfl (hown1.alloc _) _ 1 1 (scells [s]) rfl rfl (HN1.out _) (scells_one _) (by omega) (by simp; omega) ?_; intro v2 w2 hown2 hgr2 hbk2)
      have hbel2 := below_app (hbel1.alloc hs1 (.cells #[.string s] 9)) hgr2 (hown1.alloc _) (Nat.le_refl _) (by simp; omega)
      have hB2 : Sl w2 (some ⟨b, o, none⟩) (scells R) := Sl.grown (hB1.alloc _) hgr2 HAP.out
      have hown2' : OwS w.heap.size w2 v2 (O ++ [s]) := snoc_ownS rfl hown2
      have hz2 : w1.heap.size < w2.heap.size := by have := hgr2.size; simp at this; omega
      have hlt2 : ∀ k, v2.ownBlock = some k → k < w2.heap.size := fun k hk => (hown2'.lt k hk).2
      have HLT := Lib.hid hlt2
      have hs2 := hbel2.size
      clear hB1 hown1 hown2 hgr2 hbk2 hbel1 hlt2 hc1
      go_wp2_with fail
      go_loopw [5, 6] (fun r i6 wi => ∃ k : Nat, k ≤ m ∧ i6 = .int .i64 (k : Int) ∧ OwS w2.heap.size wi r (fl s (R.take k)) ∧ Below w2.heap.size w2 wi) (fun _ i6 _ => m - (intOf i6).toNat)
      case atStart => exact ⟨0, by omega, rfl, OwS.nil _ _, Below.refl _ _⟩
      case round =>
        obtain ⟨k, hk, rfl, hr, hbi⟩ := hrel
        have hsi := hbi.size
        have hfl := fl_len s (R.take k)
        have hfk : (R.take k).length ≤ k := List.length_take_le _ _
        by_cases hkm : k < m
        · obtain ⟨b', o', hbo, hblt2, hcell2⟩ := hB2.get (j := k) (by rw [scells_len, HRM.out]; exact hkm)
          cases hbo
          have hc1 := (hbi.cell (p := ⟨b, o + k, none⟩) hblt2).trans (hcell2 k _ (scells_get R k (by rw [HRM.out]; exact hkm)))
          have HY := Lib.hid (fun hne => fl_yes (s := s) (l := R) (k := k) (by rw [HRM.out]; exact hkm) hne)
          have HNO := Lib.hid (fun he => fl_no (s := s) (l := R) (k := k) (by rw [HRM.out]; exact hkm) he)
          obtain ⟨x, hx⟩ : ∃ x, R.getD k ⟨#[]⟩ = x := ⟨_, rfl⟩
          rw [hx] at hc1 HY HNO
          obtain ⟨T, hT⟩ : ∃ T, T = fl s (R.take k) := ⟨_, rfl⟩
          rw [← hT] at hr hfl HY HNO
          clear hcell2 hx hT
          by_cases he : x = s
          · have hq := beq_yes he
            have HR := Lib.hid (HNO.out he)
            clear he HY HNO
            go_wp2_with fail
            go_roundw
            case rel => exact ⟨k + 1, by omega, by go_num, by rw [HR.out]; exact hr, hbi⟩
            case measure => simp [intOf]; omega
          · have hq := beq_no he
            have HR := Lib.hid (HY.out he)
            have HN1 := Lib.hid (fun (W : World) => new_str W x)
            clear he HY HNO
            go_wp2_with (refine wpList_app rfl (.tmp 31) (.tmp 36) 26 rfl strsTy w2.heap.size u5 T.length (scells T) rfl (hr.alloc _) _ 1 1 (scells [x]) rfl rfl (HN1.out _) (scells_one _) (by omega) (by simp; omega) ?_; intro v7 w7 hown7 hgr7 hbk7)
            have hbi7 := below_app (hbi.alloc hsi (.cells #[.string x] 9)) hgr7 (hr.alloc _) (Nat.le_refl _) (by simp; omega)
            go_roundw
            case rel => exact ⟨k + 1, by omega, by go_num, by rw [HR.out]; exact snoc_ownS rfl hown7, hbi7⟩
            case measure => simp [intOf]; omega
        · have hr' : OwS w2.heap.size wr u5 (fl s R) := by
            have : R.take k = R := List.take_of_length_le (by rw [HRM.out]; omega)
            rwa [this] at hr
          obtain ⟨A7, c7, rfl, hs7, _, _, hge7⟩ := hr'.slice
          have hown3 := hown2'.below hbi
          have hall := hbel2.trans (hbi.mono hs2)
          clear hr hown2' hB2
          go_wp2_with fail
          go_roundw
          case rel =>
            refine ⟨A7, (fl s R).length, c7, fl s R, O ++ [s], rfl, rfl, ?_, hs7, hown3, ?_, ?_, ?_, hall⟩
            · have := HLS2.out; rw [HRM.out] at this; omega
            · have := HLS2.out; rw [HRM.out] at this; rw [List.length_append, List.length_singleton]; omega
            · intro b' o' s' hA7 hb'
              have h1 := hge7 b' o' s' hA7
              have h2 := HLT.out b' hb'.symm
              omega
            · show _ = _
              rw [HK.out, HST2.out, sbytes_app, List.append_assoc]; rfl
          case measure => have := HLS2.out; rw [HRM.out] at this; simp [slLen]; omega
    · have HF : Hid (sbytes O = setU (sbytes ss)) := by
        show _ = _
        have : R = [] := List.eq_nil_of_length_eq_zero (by rw [HRM.out]; omega)
        rw [HK.out, this]; simp [sbytes, setU]
      go_wp2_with fail
      go_ret
      exact ⟨_, O, rfl, HF.out, hown, hbel⟩
set_option maxHeartbeats 1000000 in
theorem refSet (B : Option Addr) (l d : Nat) (bs : List UInt8) (w : World) (hl : bs.length = l) (hb : Sl w B (bcells bs)) (hld : l ≤ d) (hd63 : d ≤ 9223372036854775807) (hl40 : l ≤ 1099511627776) :
    Calls Tryd.prog 15 #[.slice B l d] w (TextsP (setU (termsU bs)) w) := by
  have hlen := terms_len bs
  rw [hl] at hlen
  have HL := Lib.hid hl
  clear hl
  go_enter Tryd.func15, Tryd.ntmps15
  go_wp2_with fail
  refine (refTerms B l d bs _ HL.out hb hld hd63 hl40).mono ?_
  rintro e w1 ⟨v1, ss, rfl, hss, hown1, bb1⟩
  have hsl : ss.length ≤ l := by rw [← hss, sbytes_len] at hlen; exact hlen
  have HSS := Lib.hid hss
  obtain ⟨A1, c1, rfl, hs1, _, _, _⟩ := hown1.slice
  clear hown1 hss
  go_wp2_with fail
  refine (refSorted A1 ss.length c1 ss _ rfl hs1 (by omega)).mono ?_
  rintro e w2 ⟨v2, tt, rfl, htt, hown2, bb2⟩
  go_wp2_with fail
  go_ret
  exact ⟨_, tt, rfl, by rw [htt, HSS.out], hown2.base bb1.size, bb1.trans (bb2.mono bb1.size)⟩
end Go.Proofs.YtpnnebnjkinndaaDoor.TokW
