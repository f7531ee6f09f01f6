/- code: list, and its closure. -/
import Derived.Test.YtpbldkfoldjocaaCe
namespace Go.Proofs.Ytpbldkfoldjocaa
open Go.RowKit
open Cod
/-- A value that is a slice of texts of the call's own, and reads as these. -/
def OwS (base : Nat) (w : World) (v : Value) (ss : List ByteArray) : Prop := w.ownsRow base 9 1 v ss.length (scells ss)
theorem OwS.nil (base : Nat) (w : World) : OwS base w (.slice none 0 0) [] := World.ownsRow_nil _ _ _ _
theorem OwS.slice {base : Nat} {w : World} {v : Value} {ss : List ByteArray} (h : OwS base w v ss) : ∃ A c, v = .slice A ss.length c ∧ Sl w A (scells ss) ∧ ss.length ≤ c ∧ c ≤ maxLen ∧ (∀ b o s, A = some ⟨b, o, s⟩ → base ≤ b) := by
  obtain ⟨A, c, h1, h2, h3, _, h5, h6⟩ := own_slice h
  exact ⟨A, c, h1, h2, h3, h5, h6⟩
theorem OwS.below {B : Nat} {v : Value} {ss : List ByteArray} {w w' : World} (h : OwS B w v ss) (hb : Below w.heap.size w w') : OwS B w' v ss := own_below h hb
theorem OwS.mono {b b' : Nat} {w : World} {v : Value} {ss : List ByteArray} (h : OwS b w v ss) (hb : b' ≤ b) : OwS b' w v ss := by
  refine ⟨h.1, ?_⟩
  rcases h.2 with h2 | ⟨g, cap, cur, h3, h4, h5⟩
  · exact .inl h2
  · exact .inr ⟨g, cap, cur, h3, Nat.le_trans hb h4, h5⟩
def RLP (r : List (List UInt8) × Nat × Nat) (w : World) (e : Ending) (w' : World) : Prop :=
  ∃ v ss, e = .returned (.tuple #[v, .int .i64 r.2.1, .int .i64 r.2.2]) ∧ OwS w.heap.size w' v ss ∧ sbytes ss = r.1 ∧ Below w.heap.size w w'
theorem scells_app (a b : List ByteArray) : scells a ++ scells b = scells (a ++ b) := by simp [scells]
theorem sbytes_app (a b : List ByteArray) : sbytes a ++ sbytes b = sbytes (a ++ b) := by simp [sbytes]
set_option maxRecDepth 100000 in
set_option maxHeartbeats 2000000 in
theorem rlist_any (B : Option Addr) (l d : Nat) (bs : List UInt8) (many most : Int) (w : World) (hl : bs.length = l) (hb : Sl w B (bcells bs)) (hld : l ≤ d) (h47 : l ≤ 4611686018427387904) (hl40 : l ≤ 1099511627776) :
    Calls Try.prog 30 #[.slice B l d, .int .i64 many, .int .i64 most] w (RLP (listS bs many most) w) := by
  have HL : Hid (bs.length = l) := hl
  clear hl
  have hle := num_le bs
  rw [HL.out] at hle
  obtain ⟨v, n, x, hx⟩ : ∃ v n x, numS bs = (v, n, x) := ⟨_, _, _, rfl⟩
  have HX : Hid (numS bs = (v, n, x)) := hx
  rw [hx] at hle
  simp only at hle
  obtain ⟨hv, hn, hx3⟩ := hle
  clear hx
  rcases hx3 with rfl | rfl | rfl
  · by_cases h1 : many < (v : Int)
    · have HR : Hid (listS bs many most = ([], 0, 2)) := by unfold Hid listS; rw [HX.out]; simp [h1]
      go_enter Try.func30, Try.ntmps30
      go_wp2_with fail
      refine (rnum_eq HX.out 0 rfl B l d _ HL.out hb (by omega)).mono ?_
      rintro e w1 ⟨rfl, rfl⟩
      go_wp2_with fail
      go_ret3
      exact ⟨_, [], by rw [HR.out]; rfl, OwS.nil _ _, by rw [HR.out]; rfl, Below.refl _ _⟩
    · have HR : Hid (listS bs many most = joinI [] n (itemsS v (bs.drop n) most)) := by
        unfold Hid listS; rw [HX.out]; simp only; rw [if_neg (by simp), if_neg h1]
      go_enter Try.func30, Try.ntmps30
      go_wp2_with fail
      refine (rnum_eq HX.out 0 rfl B l d _ HL.out hb (by omega)).mono ?_
      rintro e w1 ⟨rfl, rfl⟩
      go_wp2_with fail
      go_loopw [10, 12, 31] (fun a o i wr => ∃ (k p : Nat) (ss : List ByteArray), k ≤ v ∧ i = .int .i64 k ∧ a = .int .i64 p ∧ p ≤ l ∧ OwS w.heap.size wr o ss ∧ Hid (ss.length ≤ p) ∧
          Hid (listS bs many most = joinI (sbytes ss) p (itemsS (v - k) (bs.drop p) most)) ∧ Below w.heap.size w wr)
        (fun _ _ i _ => v - (intOf i).toNat)
      case atStart => exact ⟨0, n, [], by omega, rfl, rfl, hn, OwS.nil _ _, by unfold Hid; simp, HR.out, Below.refl _ _⟩
      case round =>
        obtain ⟨k, p, ss, hk, rfl, rfl, hp, hown, HSP, HJ, hbel⟩ := hrel
        have hbs := hbel.size
        by_cases hlt : k < v
        · obtain ⟨B', hB'⟩ : ∃ B', B' = (if d = p then B else B.map (·.add p)) := ⟨_, rfl⟩
          have hpt := fun w' => run_from (P := Try.prog) bytesTy w' B l d p .i64 hp
          have hsl : Sl wr B' (bcells (bs.drop p)) := by
            rw [← bcells_drop, hB']
            exact (hb.below hbel).cut p d (by rw [bcells_len, HL.out]; exact hld)
          rw [← hB'] at hpt
          have hlen : (bs.drop p).length = l - p := by rw [List.length_drop, HL.out]
          have HLEN : Hid ((bs.drop p).length = l - p) := hlen
          have HVK : Hid (v - k = (v - (k + 1)) + 1) := by unfold Hid; omega
          have HD : Hid (∀ m, (bs.drop p).drop m = bs.drop (p + m)) := fun m => by rw [List.drop_drop]
          clear hB' hlen
          have HT := textS_cases (bs.drop p) most
          by_cases hok : (textS (bs.drop p) most).2.2 = 0
          · obtain ⟨t, m, hT⟩ : ∃ t m, textS (bs.drop p) most = (t, m, 0) := ⟨_, _, by rw [← hok]⟩
            have HTT : Hid (textS (bs.drop p) most = (t, m, 0)) := hT
            obtain ⟨_, _, _, hm1, hm2, _⟩ := text_ok hT
            rw [HLEN.out] at hm2
            have HJ2 : Hid (listS bs many most = joinI (sbytes ss ++ [t]) (p + m) (itemsS (v - (k + 1)) (bs.drop (p + m)) most)) := by
              unfold Hid
              rw [HJ.out, HVK.out, join_step _ _ _ _ _ hok, hT, HD.out]
            clear hT hok HT
            go_wp2_with fail
            refine (rtext_any B' (l - p) (d - p) (bs.drop p) most _ HLEN.out hsl (by omega) (by omega)).mono ?_
            rintro e w2 ⟨rfl, rfl⟩
            rw [HTT.out]
            simp only
            have hsp := HSP.out
            unfold OwS at hown
            obtain ⟨T, hTa⟩ : ∃ T : ByteArray, T = ⟨t.toArray⟩ := ⟨_, rfl⟩
            have HTA : Hid (T = ⟨t.toArray⟩) := hTa
            rw [← hTa]
            clear hTa hpt
            go_wp2_with (refine wpList_app rfl (.tmp 45) (.tmp 47) 22 rfl strsTy w.heap.size u12 ss.length (scells ss) rfl (hown.alloc _) _ 1 1 (scells [T]) rfl rfl (Sl.of_at_all (At.new_ _ _ 9 (scells [T]) rfl)) (scells_one _) (by omega) (by simp; omega) ?_; intro v2 w2 hown2 hgr2 hbl2)
            have hbel2 := below_app (hbel.alloc hbs (.cells #[.string T] 9)) hgr2 (hown.alloc _) (Nat.le_refl _) (by simp; omega)
            go_roundw
            case rel =>
              refine ⟨k + 1, p + m, ss ++ [T], by omega, by go_num, by go_num, by omega, ?_, ?_, ?_, hbel2⟩
              · unfold OwS; rw [List.length_append, ← scells_app]; exact hown2
              · unfold Hid; rw [List.length_append]; simp; omega
              · unfold Hid
                rw [HJ2.out, ← sbytes_app, HTA.out]; rfl
            case measure => simp [intOf]; omega
          · have HR2 : Hid (listS bs many most = ([], 0, (textS (bs.drop p) most).2.2)) := by
              unfold Hid
              rw [HJ.out, HVK.out, join_fail _ _ _ _ _ hok]
            obtain ⟨x2, hx2⟩ : ∃ x2, x2 = (textS (bs.drop p) most).2.2 := ⟨_, rfl⟩
            have hx24 : x2 = 2 ∨ x2 = 4 := by
              rcases HT with h | ⟨_, _, _, _, _, h⟩
              · rw [hx2]; exact h.2.2
              · rw [h] at hok; simp at hok
            rw [← hx2] at HR2
            have HX2 : Hid (x2 = (textS (bs.drop p) most).2.2) := hx2
            clear hx2 hok HT
            rcases hx24 with rfl | rfl
            · go_wp2_with fail
              refine (rtext_any B' (l - p) (d - p) (bs.drop p) most _ HLEN.out hsl (by omega) (by omega)).mono ?_
              rintro e w2 ⟨rfl, rfl⟩
              rw [← HX2.out]
              go_wp2_with fail
              go_ret3
              exact ⟨_, [], by rw [HR2.out]; rfl, OwS.nil _ _, by rw [HR2.out]; rfl, hbel⟩
            · go_wp2_with fail
              refine (rtext_any B' (l - p) (d - p) (bs.drop p) most _ HLEN.out hsl (by omega) (by omega)).mono ?_
              rintro e w2 ⟨rfl, rfl⟩
              rw [← HX2.out]
              go_wp2_with fail
              go_ret3
              exact ⟨_, [], by rw [HR2.out]; rfl, OwS.nil _ _, by rw [HR2.out]; rfl, hbel⟩
        · have HF : Hid (listS bs many most = (sbytes ss, p, 0)) := by
            unfold Hid
            rw [HJ.out, show v - k = 0 by omega]
            simp [itemsS, joinI]
          go_wp2_with fail
          go_ret3
          exact ⟨_, ss, by rw [HF.out]; rfl, hown, by rw [HF.out], hbel⟩
  · have HR : Hid (listS bs many most = ([], 0, 2)) := by unfold Hid listS; rw [HX.out]; simp
    go_enter Try.func30, Try.ntmps30
    go_wp2_with fail
    refine (rnum_eq HX.out 2 rfl B l d _ HL.out hb (by omega)).mono ?_
    rintro e w1 ⟨rfl, rfl⟩
    go_wp2_with fail
    go_ret3
    exact ⟨_, [], by rw [HR.out]; rfl, OwS.nil _ _, by rw [HR.out]; rfl, Below.refl _ _⟩
  · have HR : Hid (listS bs many most = ([], 0, 4)) := by unfold Hid listS; rw [HX.out]; simp
    go_enter Try.func30, Try.ntmps30
    go_wp2_with fail
    refine (rnum_eq HX.out 4 rfl B l d _ HL.out hb (by omega)).mono ?_
    rintro e w1 ⟨rfl, rfl⟩
    go_wp2_with fail
    go_ret3
    exact ⟨_, [], by rw [HR.out]; rfl, OwS.nil _ _, by rw [HR.out]; rfl, Below.refl _ _⟩
set_option maxHeartbeats 400000 in
theorem rlist1_any (B : Option Addr) (l d : Nat) (bs : List UInt8) (many most : Int) (g g' : Nat) (w : World) (hl : bs.length = l) (hb : Sl w B (bcells bs)) (hld : l ≤ d) (h47 : l ≤ 4611686018427387904) (hl40 : l ≤ 1099511627776)
    (hg : w.cell? ⟨g, 0, none⟩ = some (.int .i64 many)) (hg' : w.cell? ⟨g', 0, none⟩ = some (.int .i64 most)) :
    Calls Try.prog 29 #[.slice B l d, .pointer (some ⟨g, 0, none⟩), .pointer (some ⟨g', 0, none⟩)] w (RLP (listS bs many most) w) := by
  have HL : Hid (bs.length = l) := hl
  clear hl
  go_enter Try.func29, Try.ntmps29
  go_wp2_with fail
  refine (rlist_any B l d bs many most _ HL.out hb hld h47 hl40).mono ?_
  rintro e w1 ⟨v, ss, rfl, h1, h2, h3⟩
  have H2 : Hid (sbytes ss = (listS bs many most).1) := h2
  clear h2
  go_wp2_with fail
  go_ret3
  exact ⟨v, ss, rfl, h1, H2.out, h3⟩
end Go.Proofs.Ytpbldkfoldjocaa
