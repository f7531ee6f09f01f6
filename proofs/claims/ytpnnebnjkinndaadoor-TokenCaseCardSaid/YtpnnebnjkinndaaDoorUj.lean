/- utf: Decode. -/
import Derived.Test.YtpnnebnjkinndaaDoorUi
namespace Go.Proofs.YtpnnebnjkinndaaDoor.UtfW
open Go.RowKit
def DecP (bs : List UInt8) (w : World) (e : Ending) (w' : World) : Prop := ∃ v, e = .returned v ∧ OwI w.heap.size w' v (dec bs) ∧ Below w.heap.size w w'
theorem new_int (W : World) (c : Nat) : Sl (W.alloc (.cells #[.int .i64 (c : Int)] 3)) (some ⟨W.heap.size, 0, none⟩) (icells [c]) := Sl.of_at_all (At.new_ W _ 3 (icells [c]) rfl)
theorem snoc_ownI {w : World} {base : Nat} {v : Value} {a : List Nat} {x : Nat} {n : Nat} (hn : n = a.length) (h : w.ownsRow base 3 1 v (n + 1) (icells a ++ icells [x])) : OwI base w v (a ++ [x]) := by
  subst hn
  unfold OwI
  rw [List.length_append, ← icells_app]
  exact h
set_option maxRecDepth 1000000 in
set_option maxHeartbeats 1000000 in
theorem decode_any (B : Option Addr) (l d : Nat) (bs : List UInt8) (w : World) (hT : Tabs w) (hl : bs.length = l) (hb : Sl w B (bcells bs)) (hld : l ≤ d) (hd63 : d ≤ 9223372036854775807) (hl40 : l ≤ 1099511627776) :
    Calls Tryd.prog 23 #[.slice B l d] w (DecP bs w) := by
  have HL := Lib.hid hl
  have HT := Lib.hid hT
  clear hl hT
  go_enter Tryd.func23, Tryd.ntmps23
  go_wp2_with fail
  go_loopw [0, 3] (fun a out wr => ∃ (p d' : Nat) (B' : Option Addr) (D : List Nat), p ≤ l ∧ a = .slice B' ((l - p : Nat)) d' ∧ l - p ≤ d' ∧ d' ≤ 9223372036854775807 ∧ Sl w B' (bcells (bs.drop p)) ∧ OwI w.heap.size wr out D ∧ D.length ≤ p ∧
      Hid (dec bs = D ++ dec (bs.drop p)) ∧ Below w.heap.size w wr) (fun a _ _ => slLen a)
  case atStart => exact ⟨0, d, B, [], by omega, by simp, by omega, hd63, hb, OwI.nil _ _, Nat.le_refl _, rfl, Below.refl _ _⟩
  case round =>
    obtain ⟨p, d', B', D, hp, rfl, hld', hd63', hb', hown, hDp, HD, hbel⟩ := hrel
    have hs := hbel.size
    by_cases hlt : p < l
    · obtain ⟨h, t, hht⟩ : ∃ h t, bs.drop p = h :: t := by
        cases hdp : bs.drop p with
        | nil => have := congrArg List.length hdp; rw [List.length_drop, HL.out] at this; simp at this; omega
        | cons h t => exact ⟨h, t, rfl⟩
      have htl : t.length + 1 = l - p := by
        have := congrArg List.length hht; rw [List.length_drop, HL.out] at this; simpa using this.symm
      rw [hht] at hb'
      have hpos := one_pos (h :: t)
      have hle := one_le (h :: t) (by simp)
      have HST := Lib.hid (dec_cons (h :: t) (by simp))
      have HDR : Hid (∀ k, (h :: t).drop k = bs.drop (p + k)) := fun k => by rw [← hht, List.drop_drop]
      have HHT := Lib.hid hht
      clear hht
      obtain ⟨c, k, hck⟩ : ∃ c k, one (h :: t) = (c, k) := ⟨_, _, rfl⟩
      have HCK := Lib.hid hck
      rw [hck] at hpos hle
      simp only [List.length_cons] at hpos hle
      obtain ⟨q, hq⟩ : ∃ q, q = l - p := ⟨_, rfl⟩
      rw [← hq] at htl hld' ⊢
      have hkq : k ≤ q := by omega
      obtain ⟨B2, hB2⟩ : ∃ B2, B2 = (if d' = k then B' else B'.map (·.add k)) := ⟨_, rfl⟩
      have hpt := fun w' => run_from (P := Tryd.prog) bytesTy w' B' q d' k .i64 hkq
      have hsl2 : Sl w B2 (bcells (bs.drop (p + k))) := by
        have := hb'.cut k d' (by rw [bcells_len, List.length_cons, htl]; exact hld')
        rw [← hB2, bcells_drop, HDR.out] at this
        exact this
      rw [← hB2] at hpt
      have HQ := Lib.hid hq
      have HTL := Lib.hid htl
      clear hB2 hck hq htl
      go_wp2_with fail
      refine (first_any B' q d' h t _ (HT.out.below hbel HT.out.pos) HTL.out (hb'.below hbel) hld' hd63').mono ?_
      rintro e w2 ⟨rfl, hb2⟩
      rw [HCK.out]
      simp only
      have hbel1 := hbel.trans (hb2.mono hs)
      have hs1 := hbel1.size
      have hown1 := own_below hown hb2
      have HN := Lib.hid (fun (W : World) => new_int W c)
      clear hown hb2
      go_wp2_with (refine wpList_app rfl (.tmp 14) (.tmp 16) 28 rfl intsTy w.heap.size u3 D.length (icells D) rfl (hown1.alloc _) _ 1 1 (icells [c]) rfl rfl (HN.out _) (icells_one _) (by omega) (by simp; omega) ?_; intro v3 w3 hown3 hgr3 hbl3)
      have hbel3 := below_app (hbel1.alloc hs1 (.cells #[.int .i64 (c : Int)] 3)) hgr3 (hown1.alloc _) (Nat.le_refl _) (by simp; omega)
      clear hpt
      go_roundw
      case rel =>
        refine ⟨p + k, d' - k, B2, D ++ [c], ?_, ?_, ?_, by omega, hsl2, snoc_ownI rfl hown3, ?_, ?_, hbel3⟩
        · have := HQ.out; omega
        · rw [show l - (p + k) = q - k by have := HQ.out; omega]
        · have := HQ.out; omega
        · rw [List.length_append, List.length_singleton]; omega
        · show _ = _
          rw [HD.out, HHT.out, HST.out, HCK.out, HDR.out, List.append_assoc]; rfl
      case measure => simp [slLen]; omega
    · have HF : Hid (dec bs = D) := by
        show _ = _
        rw [HD.out, List.drop_eq_nil_of_le (by rw [HL.out]; omega), dec_nil, List.append_nil]
      have hlp : l - p = 0 := by omega
      rw [hlp]
      clear hlp
      go_wp2_with fail
      go_ret
      exact ⟨_, rfl, by rw [HF.out]; exact hown, hbel⟩
end Go.Proofs.YtpnnebnjkinndaaDoor.UtfW
