/- The law TokenCase. -/
import Derived.Test.YtpnnebnjkinndaaDoorVj
import Derived.Test.YtpnnebnjkinndaaDoorBools
import Derived.Laws.OwnMore
namespace Go.Proofs.YtpnnebnjkinndaaDoor.TokW
open Go.RowKit UtfW Go.Sort Go.Shelf
theorem simB_refl (x : UInt8) : SimB x x := .inl rfl
theorem simS_refl : ∀ l : List UInt8, SimS l l
  | [] => trivial
  | _ :: l => ⟨.inl rfl, simS_refl l⟩
theorem simS_append : ∀ {a b c d : List UInt8}, SimS a b → SimS c d → SimS (a ++ c) (b ++ d)
  | [], [], _, _, _, h => h
  | _ :: _, _ :: _, _, _, h, h' => ⟨h.1, simS_append h.2 h'⟩
  | [], _ :: _, _, _, h, _ => h.elim
  | _ :: _, [], _, _, h, _ => h.elim
/-- The first k are changed, or not. -/
def CaseI (bs : List UInt8) (k : Nat) (X : List UInt8) : Prop := ∃ P, P.length = k ∧ SimS (bs.take k) P ∧ X = P ++ bs.drop k
theorem case_zero (bs : List UInt8) : CaseI bs 0 bs := ⟨[], rfl, by simp [SimS], rfl⟩
theorem case_len {bs : List UInt8} {k : Nat} {X : List UInt8} (h : CaseI bs k X) (hk : k ≤ bs.length) : X.length = bs.length := by
  obtain ⟨P, h1, _, rfl⟩ := h
  rw [List.length_append, List.length_drop, h1]; omega
theorem case_get {bs : List UInt8} {k : Nat} {X : List UInt8} (h : CaseI bs k X) : X.getD k 0 = bs.getD k 0 := by
  obtain ⟨P, h1, _, rfl⟩ := h
  simp [List.getD, List.getElem?_append_right, h1]
theorem case_flip {bs : List UInt8} {k : Nat} {X : List UInt8} {y : UInt8} (h : CaseI bs k X) (hk : k < bs.length) (hy : SimB (bs.getD k 0) y) : CaseI bs (k + 1) (X.set k y) := by
  obtain ⟨P, h1, h2, rfl⟩ := h
  have e : bs.getD k 0 = bs[k] := by simp [List.getD, hk]
  rw [e] at hy
  refine ⟨P ++ [y], by simp [h1], ?_, ?_⟩
  · rw [List.take_succ_eq_append_getElem hk]
    exact simS_append h2 ⟨hy, trivial⟩
  · rw [List.drop_eq_getElem_cons hk, List.set_append_right (h := by omega), h1, Nat.sub_self, List.append_assoc]
    rfl
theorem case_keep {bs : List UInt8} {k : Nat} {X : List UInt8} (h : CaseI bs k X) (hk : k < bs.length) : CaseI bs (k + 1) X := by
  obtain ⟨P, h1, h2, rfl⟩ := h
  refine ⟨P ++ [bs[k]], by simp [h1], ?_, ?_⟩
  · rw [List.take_succ_eq_append_getElem hk]
    exact simS_append h2 ⟨simB_refl _, trivial⟩
  · rw [List.drop_eq_getElem_cons hk, List.append_assoc]
    rfl
theorem case_done {bs : List UInt8} {k : Nat} {X : List UInt8} (h : CaseI bs k X) : SimS bs X := by
  obtain ⟨P, _, h2, rfl⟩ := h
  have := simS_append h2 (simS_refl (bs.drop k))
  rwa [List.take_append_drop] at this
theorem flip_low {x : UInt8} (h1 : 97 ≤ ub x) (h2 : ub x ≤ 122) : ∃ y, ub y = ub x - 32 ∧ SimB x y := by
  have hs := flip_sim x
  unfold ub at *
  have e : flip8 x = x - 32 := by unfold flip8; rw [if_pos (by omega)]
  rw [e] at hs
  refine ⟨_, ?_, hs⟩
  rw [UInt8.toNat_sub_of_le _ _ (by rw [UInt8.le_iff_toNat_le]; show 32 ≤ x.toNat; omega)]
  show ((x.toNat - 32 : Nat) : Int) = _
  omega
theorem flip_up {x : UInt8} (h1 : 65 ≤ ub x) (h2 : ub x ≤ 90) : ∃ y, ub y = ub x + 32 ∧ SimB x y := by
  have hs := flip_sim x
  unfold ub at *
  have e : flip8 x = x + 32 := by unfold flip8; rw [if_neg (by omega), if_pos (by omega)]
  rw [e] at hs
  refine ⟨_, ?_, hs⟩
  rw [UInt8.toNat_add]
  show (((x.toNat + 32) % 256 : Nat) : Int) = _
  omega
set_option maxRecDepth 1000000 in
set_option maxHeartbeats 4000000 in
theorem lawCase (A : Option Addr) (n c : Nat) (bs : List UInt8) (B : Option Addr) (l d : Nat) (gs : List Bool) (w : World) (hT : Tabs w) (hn : bs.length = n) (hA : Sl w A (bcells bs)) (hnc : n ≤ c) (hc : c ≤ 9223372036854775807)
    (hl : gs.length = l) (hB : Sl w B (lcells gs)) (hld : l ≤ d) (hd : d ≤ 9223372036854775807) :
    Calls Tryd.prog 8 #[.slice A n c, .slice B l d] w fun e w' => e = .returned (.bool true) ∧ Below w.heap.size w w' := by
  have HT := Lib.hid (fun W (hb : Below w.heap.size w W) => hT.below hb hT.pos)
  have hlen := terms_len bs
  rw [hn] at hlen
  have HM := Lib.hid hn
  have HL := Lib.hid hl
  clear hn hl
  by_cases hg : 2000 < n
  · go_enter Tryd.func8, Tryd.ntmps8
    go_wp2_with fail
    refine (great_yes A n c _ hg).mono ?_
    rintro e w1 ⟨rfl, rfl⟩
    go_wp2_with fail
    refine (knows_any _ hT).mono ?_
    rintro e w1 ⟨rfl, b1⟩
    go_wp2_with fail
    go_ret
    exact ⟨rfl, b1⟩
  clear hT
  have o0 : (w.alloc (.cells #[] 5)).ownsRow w.heap.size 5 1 (.slice (some ⟨w.heap.size, 0, none⟩) 0 0) 0 [] := own_lit w w.heap.size 5 [] 0 rfl (Nat.le_refl _) (by omega)
  have b0 : Below w.heap.size w (w.alloc (.cells #[] 5)) := (Below.refl _ _).alloc (Nat.le_refl _) _
  go_enter Tryd.func8, Tryd.ntmps8
  go_wp2_with fail
  refine (great_no A n c _ hg).mono ?_
  rintro e w1 ⟨rfl, rfl⟩
  go_wp2_with (refine wpList_app rfl (.tmp 10) (.tmp 11) 22 rfl bytesTy w.heap.size (.slice (some ⟨w.heap.size, 0, none⟩) 0 0) 0 [] rfl o0 A n c (bcells bs) rfl (by rw [bcells_len]; exact HM.out) (hA.below b0) (bcells_one _) (by omega) (by simp) ?_; intro v1 w1 hown1 hgr1 hbl1)
  have b1 := below_app b0 hgr1 o0 (Nat.le_refl _) (by simp)
  rw [Nat.zero_add, List.nil_append] at hown1
  obtain ⟨A1, c1, rfl, hs1, hc1, _, hm1, hg1⟩ := own_slice hown1
  unfold maxLen at hm1
  clear o0 b0 hgr1 hbl1 hs1
  go_wp2_with fail
  go_loopw [6] (fun i wr => ∃ (k : Nat) (X : List UInt8), k ≤ n ∧ i = .int .i64 (k : Int) ∧ wr.ownsRow w.heap.size 5 1 (.slice A1 n c1) n (bcells X) ∧ Hid (CaseI bs k X) ∧ Below w.heap.size w wr) (fun i _ => n - (intOf i).toNat)
  case atStart => exact ⟨0, bs, by omega, rfl, hown1, case_zero bs, b1⟩
  case round =>
    clear hown1 b1
    obtain ⟨k, X, hk, rfl, hown, HC, hbel⟩ := hrel
    have hs := hbel.size
    have HXL : Hid (X.length = n) := by show _ = _; rw [case_len HC.out (by rw [HM.out]; exact hk), HM.out]
    by_cases hgo : k < n ∧ k < l
    · obtain ⟨hlt, hkl⟩ := hgo
      obtain ⟨gb, go, rfl, hglt, hgcell⟩ := hB.get (j := k) (by rw [lcells_len, HL.out]; exact hkl)
      have hgc := (hbel.cell (p := ⟨gb, go + k, none⟩) hglt).trans (hgcell k _ (lcells_get gs k (by rw [HL.out]; exact hkl)))
      generalize gs.getD k false = v at hgc
      obtain ⟨g, rfl⟩ : ∃ g, A1 = some ⟨g, 0, none⟩ := by
        rcases hown.2 with ⟨_, h⟩ | ⟨g, cap, cur, h, _⟩
        · omega
        · cases h; exact ⟨g, rfl⟩
      have hcb : wr.cell? ⟨g, k, none⟩ = some (.int .u8 (ub (X.getD k 0))) := by
        rw [hown.cellAt k (by omega), bcells_get X k (by rw [HXL.out]; exact hlt)]
      have hcf := hown.frozenAt k
      have hge := hg1 g 0 none rfl
      have hst := fun u => hown.stored k u
      have HSB := Lib.hid (case_get HC.out)
      obtain ⟨x, hx⟩ : ∃ x, X.getD k 0 = x := ⟨_, rfl⟩
      rw [hx] at hcb HSB
      have HKEEP : Hid (CaseI bs (k + 1) X) := case_keep HC.out (by rw [HM.out]; exact hlt)
      have HFLIP : Hid (∀ y, SimB x y → CaseI bs (k + 1) (X.set k y)) := fun y hy => case_flip HC.out (by rw [HM.out]; exact hlt) (by rw [← HSB.out]; exact hy)
      have hylt := ub_lt x
      have hynn := ub_nn x
      clear hgcell hx
      cases v
      · clear hst
        go_wp2_with fail
        go_roundw
        case rel => exact ⟨k + 1, X, by omega, by go_num, hown, HKEEP, hbel⟩
        case measure => simp [intOf]; omega
      · by_cases h1 : 97 ≤ ub x ∧ ub x ≤ 122
        · obtain ⟨h1, h2⟩ := h1
          obtain ⟨y, hy, hsim⟩ := flip_low h1 h2
          have HF := Lib.hid (HFLIP.out y hsim)
          have hw : IntKind.u8.wrap (ub x - 32) = ub x - 32 := IntWalk.u8_in _ (by omega)
          obtain ⟨hst1, hst2⟩ := hst (.int .u8 (ub x - 32))
          have hown2 : (wr.setCell ⟨g, k, none⟩ (.int .u8 (ub x - 32))).ownsRow w.heap.size 5 1 (.slice (some ⟨g, 0, none⟩) n c1) n (bcells (X.set k y)) := by
            rw [← bcells_set, hy]; exact hst1
          have hbel2 : Below w.heap.size w (wr.setCell ⟨g, k, none⟩ (.int .u8 (ub x - 32))) := hbel.grown hst2 hs (fun j hj => by cases hj; exact hge)
          clear hst hst1 hst2 hsim hy hown HFLIP HKEEP
          go_wp2_with fail
          go_roundw
          case rel => exact ⟨k + 1, _, by omega, by go_num, hown2, HF, hbel2⟩
          case measure => simp [intOf]; omega
        · by_cases h3 : 65 ≤ ub x ∧ ub x ≤ 90
          · obtain ⟨h4, h5⟩ := h3
            obtain ⟨y, hy, hsim⟩ := flip_up h4 h5
            have h6 : ¬ 97 ≤ ub x := by omega
            have HF := Lib.hid (HFLIP.out y hsim)
            have hw : IntKind.u8.wrap (ub x + 32) = ub x + 32 := IntWalk.u8_in _ (by omega)
            obtain ⟨hst1, hst2⟩ := hst (.int .u8 (ub x + 32))
            have hown2 : (wr.setCell ⟨g, k, none⟩ (.int .u8 (ub x + 32))).ownsRow w.heap.size 5 1 (.slice (some ⟨g, 0, none⟩) n c1) n (bcells (X.set k y)) := by
              rw [← bcells_set, hy]; exact hst1
            have hbel2 : Below w.heap.size w (wr.setCell ⟨g, k, none⟩ (.int .u8 (ub x + 32))) := hbel.grown hst2 hs (fun j hj => by cases hj; exact hge)
            clear hst hst1 hst2 hsim hy hown HFLIP HKEEP h1
            go_wp2_with fail
            go_roundw
            case rel => exact ⟨k + 1, _, by omega, by go_num, hown2, HF, hbel2⟩
            case measure => simp [intOf]; omega
          · clear hst HFLIP
            by_cases h6 : 97 ≤ ub x
            · have h7 : ¬ ub x ≤ 122 := by omega
              have h8 : ¬ ub x ≤ 90 := by omega
              clear h1 h3
              go_wp2_with fail
              go_roundw
              case rel => exact ⟨k + 1, X, by omega, by go_num, hown, HKEEP, hbel⟩
              case measure => simp [intOf]; omega
            · by_cases h7 : 65 ≤ ub x
              · have h8 : ¬ ub x ≤ 90 := by omega
                clear h1 h3
                go_wp2_with fail
                go_roundw
                case rel => exact ⟨k + 1, X, by omega, by go_num, hown, HKEEP, hbel⟩
                case measure => simp [intOf]; omega
              · clear h1 h3
                go_wp2_with fail
                go_roundw
                case rel => exact ⟨k + 1, X, by omega, by go_num, hown, HKEEP, hbel⟩
                case measure => simp [intOf]; omega
    · have HEQ : Hid (termsU X = termsU bs) := (terms_sim (case_done HC.out)).symm
      have hsx : Sl wr A1 (bcells X) := Sl.of_own hown
      have hx2 : (¬ k < n) ∨ (k < n ∧ ¬ k < l) := by omega
      clear HC hown hB
      rcases hx2 with hlt | ⟨hlt, hkl⟩
      all_goals
        clear hgo
        go_wp2_with fail
        refine (terms_any A n c bs _ (HT.out _ hbel) HM.out (hA.below hbel) hnc hc (by omega)).mono ?_
        rintro e w2 ⟨v2, s2, rfl, hss2, o2, hb2⟩
        have b2 := hbel.trans (hb2.mono hs)
        have hsx2 := hsx.below hb2
        clear hb2
        go_wp2_with fail
        refine (terms_any A1 n c1 X _ (HT.out _ b2) HXL.out hsx2 hc1 (by omega) (by omega)).mono ?_
        rintro e w3 ⟨v3, s3, rfl, hss3, o3, hb3⟩
        rw [HEQ.out] at hss3
        obtain rfl : s2 = s3 := sbytes_inj (by rw [hss2, hss3])
        have hsl : s2.length ≤ n := by rw [← hss2, sbytes_len] at hlen; exact hlen
        have b3 := b2.trans (hb3.mono b2.size)
        have hsx3 := hsx2.below hb3
        have o2' := o2.below hb3
        obtain ⟨A2, c2, rfl, t2, _, _, _⟩ := o2'.slice
        obtain ⟨A3, c3, rfl, t3, _, _, _⟩ := o3.slice
        clear o2 o2' o3 hb3 b2 hsx2 hss2 hss3
        go_wp2_with fail
        refine (same_any A2 A3 s2.length c2 c3 s2 _ rfl t2 t3 (by omega)).mono ?_
        rintro e w4 ⟨rfl, hb4⟩
        have b4 := b3.trans (hb4.mono b3.size)
        have hsx4 := hsx3.below hb4
        clear t2 t3 hb4 b3 hsx3
        go_wp2_with fail
        refine (set_any A n c bs _ (HT.out _ b4) HM.out (hA.below b4) hnc hc (by omega)).mono ?_
        rintro e w5 ⟨v5, s5, rfl, hss5, o5, hb5⟩
        have b5 := b4.trans (hb5.mono b4.size)
        have hsx5 := hsx4.below hb5
        clear hb5 b4 hsx4
        go_wp2_with fail
        refine (set_any A1 n c1 X _ (HT.out _ b5) HXL.out hsx5 hc1 (by omega) (by omega)).mono ?_
        rintro e w6 ⟨v6, s6, rfl, hss6, o6, hb6⟩
        rw [HEQ.out] at hss6
        obtain rfl : s5 = s6 := sbytes_inj (by rw [hss5, hss6])
        have b6 := b5.trans (hb6.mono b5.size)
        have o5' := o5.below hb6
        obtain ⟨A5, c5, rfl, t5, hl5, hm5, _⟩ := o5'.slice
        obtain ⟨A6, c6, rfl, t6, _, _, _⟩ := o6.slice
        unfold maxLen at hm5
        clear o5 o5' o6 hb6 b5 hsx5 hss5 hss6
        go_wp2_with fail
        refine (same_any A5 A6 s5.length c5 c6 s5 _ rfl t5 t6 (by omega)).mono ?_
        rintro e w7 ⟨rfl, hb7⟩
        have b7 := b6.trans (hb7.mono b6.size)
        clear t5 t6 hb7 b6
        go_wp2_with fail
        refine (knows_any _ (HT.out _ b7)).mono ?_
        rintro e w8 ⟨rfl, hb8⟩
        have b8 := b7.trans (hb8.mono b7.size)
        go_wp2_with fail
        go_ret
        exact ⟨rfl, b8⟩
end Go.Proofs.YtpnnebnjkinndaaDoor.TokW
