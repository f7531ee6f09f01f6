/- tree: Climb. -/
import Derived.Test.YtmebogaenbjmnaaDoorMe
namespace Go.Proofs.YtmebogaenbjmnaaDoor.TrW
open Go.RowKit TreeW
open ShaW Sha
theorem climb_arg (leaf : ByteArray) (i n : Int) (A : Option Addr) (l c : Nat) (w : World) (h : leaf.size ≠ 32 ∨ n < 1 ∨ 1099511627776 < n ∨ i < 0 ∨ n ≤ i) :
    Calls Tryd.prog 21 #[.string leaf, .int .i64 i, .int .i64 n, .slice A l c] w fun e w' => e = .returned (.tuple #[.string ⟨#[]⟩, .int .i64 1]) ∧ w = w' := by
  by_cases h1 : leaf.size = 32
  · have e1 : (leaf.size : Int) = 32 := by omega
    by_cases h2 : n < 1
    · clear h h1
      go_enter Tryd.func21, Tryd.ntmps21
      go_wp2_with fail
      go_ret2
      exact ⟨rfl, rfl⟩
    by_cases h3 : n > 1099511627776
    · clear h h1
      go_enter Tryd.func21, Tryd.ntmps21
      go_wp2_with fail
      go_ret2
      exact ⟨rfl, rfl⟩
    by_cases h4 : i < 0
    · clear h h1
      go_enter Tryd.func21, Tryd.ntmps21
      go_wp2_with fail
      go_ret2
      exact ⟨rfl, rfl⟩
    have h5 : i ≥ n := by omega
    clear h h1
    go_enter Tryd.func21, Tryd.ntmps21
    go_wp2_with fail
    go_ret2
    exact ⟨rfl, rfl⟩
  · have e1 : ¬ (leaf.size : Int) = 32 := by omega
    clear h h1
    go_enter Tryd.func21, Tryd.ntmps21
    go_wp2_with fail
    go_ret2
    exact ⟨rfl, rfl⟩
set_option maxRecDepth 1000000 in
set_option maxHeartbeats 2000000 in
theorem climb_proof (leaf : ByteArray) (i n : Nat) (A : Option Addr) (l c : Nat) (ss : List ByteArray) (w : World) (h1 : leaf.size = 32) (hi : i < n) (hn : n ≤ 1099511627776) (hl : ss.length = l) (hs : Sl w A (scells ss)) (hl63 : l ≤ 9223372036854775807)
    (h : l ≠ steps i n ∨ ¬ Digs ss) :
    Calls Tryd.prog 21 #[.string leaf, .int .i64 (i : Int), .int .i64 (n : Int), .slice A l c] w fun e w' => e = .returned (.tuple #[.string ⟨#[]⟩, .int .i64 6]) ∧ Below w.heap.size w w' := by
  have e1 : (leaf.size : Int) = 32 := by omega
  have e2 : ¬ (n : Int) < 1 := by omega
  have e3 : ¬ (n : Int) > 1099511627776 := by omega
  have e4 : ¬ (i : Int) < 0 := by omega
  have e5 : ¬ (i : Int) ≥ (n : Int) := by omega
  have HL := Lib.hid hl
  have HTL := Lib.hid (turns_len n i n (Nat.le_refl _))
  clear hl h1
  by_cases hlen : l = steps i n
  · have hd : ¬ Digs ss := by
      rcases h with h | h
      · exact absurd hlen h
      · exact h
    have HDN : Hid (decide (Digs ss) = false) := decide_eq_false hd
    clear h hd
    go_enter Tryd.func21, Tryd.ntmps21
    go_wp2_with fail
    refine (turns_any i n _ hi hn).mono ?_
    rintro e w1 ⟨v, rfl, hown, hb1⟩
    obtain ⟨A2, c2, rfl, hsl, hc2, _, hm2, _⟩ := own_slice hown
    rw [HTL.out, ← hlen]
    have hs1 := hs.below hb1
    clear hown hlen hsl
    go_wp2_with fail
    refine (digests_any A l c ss _ HL.out hs1 hl63).mono ?_
    rintro e w2 ⟨rfl, rfl⟩
    rw [HDN.out]
    go_wp2_with fail
    go_ret2
    exact ⟨rfl, hb1⟩
  · obtain ⟨q, hq⟩ : ∃ q, q = steps i n := ⟨_, rfl⟩
    rw [← hq] at hlen HTL
    have e6 : ¬ (l : Int) = (q : Int) := by omega
    clear h hq hlen
    go_enter Tryd.func21, Tryd.ntmps21
    go_wp2_with fail
    refine (turns_any i n _ hi hn).mono ?_
    rintro e w1 ⟨v, rfl, hown, hb1⟩
    obtain ⟨A2, c2, rfl, hsl, hc2, _, hm2, _⟩ := own_slice hown
    rw [HTL.out]
    clear hown hsl
    go_wp2_with fail
    go_ret2
    exact ⟨rfl, hb1⟩
set_option maxRecDepth 1000000 in
set_option maxHeartbeats 2000000 in
theorem climb_ok (leaf : ByteArray) (i n : Nat) (A : Option Addr) (l c : Nat) (ss : List ByteArray) (w : World) (hT : Tab w) (h1 : leaf.size = 32) (hi : i < n) (hn : n ≤ 1099511627776) (hl : ss.length = l) (hs : Sl w A (scells ss)) (hl63 : l ≤ 9223372036854775807)
    (hlen : l = steps i n) (hd : Digs ss) :
    Calls Tryd.prog 21 #[.string leaf, .int .i64 (i : Int), .int .i64 (n : Int), .slice A l c] w fun e w' => e = .returned (.tuple #[.string (climb nd ed leaf i n ss), .int .i64 0]) ∧ Below w.heap.size w w' := by
  have hpos := hT.pos
  have HT := Lib.hid (fun W (hb : Below w.heap.size w W) => hT.below hb hpos)
  have e1 : (leaf.size : Int) = 32 := by omega
  have e2 : ¬ (n : Int) < 1 := by omega
  have e3 : ¬ (n : Int) > 1099511627776 := by omega
  have e4 : ¬ (i : Int) < 0 := by omega
  have e5 : ¬ (i : Int) ≥ (n : Int) := by omega
  have HL := Lib.hid hl
  have HTL : Hid ((turns i n).length = l) := by show _ = _; rw [hlen]; exact turns_len n i n (Nat.le_refl _)
  have HCU := Lib.hid (climb_up nd ed n leaf i n ss (Nat.le_refl _) (by rw [hl]; exact hlen))
  have HDY : Hid (decide (Digs ss) = true) := decide_eq_true hd
  have HD := Lib.hid hd
  have H1 := Lib.hid h1
  clear hl h1 hlen hd hT hpos
  go_enter Tryd.func21, Tryd.ntmps21
  go_wp2_with fail
  refine (turns_any i n _ hi hn).mono ?_
  rintro e w1 ⟨v, rfl, hown, hb1⟩
  obtain ⟨A2, c2, rfl, hsl, hc2, _, hm2, _⟩ := own_slice hown
  rw [HTL.out]
  have hs1 := hs.below hb1
  clear hown hs
  go_wp2_with fail
  refine (digests_any A l c ss _ HL.out hs1 hl63).mono ?_
  rintro e w2 ⟨rfl, rfl⟩
  rw [HDY.out]
  go_wp2_with fail
  go_loopw [11, 12, 49] (fun vd _ vj wr => ∃ (j : Nat) (d : ByteArray), j ≤ l ∧ vj = .int .i64 (j : Int) ∧ vd = .string d ∧ Hid (d.size = 32) ∧ Hid (up nd leaf (turns i n).reverse ss = up nd d ((turns i n).reverse.drop j) (ss.drop j)) ∧ Below w1.heap.size w1 wr) (fun _ _ vj _ => l - (intOf vj).toNat)
  case atStart => exact ⟨0, leaf, by omega, rfl, rfl, H1, rfl, Below.refl _ _⟩
  case round =>
    obtain ⟨j, d, hj, rfl, rfl, HZ, HU, hbel⟩ := hrel
    by_cases hlt : j < l
    · obtain ⟨b, o, rfl, hblt, hcell⟩ := hs1.get (j := j) (by rw [scells_len, HL.out]; exact hlt)
      obtain ⟨b2, o2, rfl, hblt2, hcell2⟩ := hsl.get (j := l - 1 - j) (by rw [lcells_len, HTL.out]; omega)
      have hget := get_of (ss := ss) (j := j) (by rw [HL.out]; exact hlt)
      obtain ⟨s, hsj⟩ : ∃ s, ss.getD j ⟨#[]⟩ = s := ⟨_, rfl⟩
      rw [hsj] at hget
      have hc0 := (hbel.cell (p := ⟨b, o + j, none⟩) hblt).trans (hcell j _ (scells_at hget))
      have hjt : l - 1 - j < (turns i n).length := by rw [HTL.out]; omega
      have hrev : (turns i n).reverse[j]? = some ((turns i n).getD (l - 1 - j) false) := by
        rw [List.getElem?_reverse (by rw [HTL.out]; exact hlt), HTL.out]
        simp [List.getD, hjt]
      obtain ⟨t, ht⟩ : ∃ t, (turns i n).getD (l - 1 - j) false = t := ⟨_, rfl⟩
      have hc1 := (hbel.cell (p := ⟨b2, o2 + (l - 1 - j), none⟩) hblt2).trans (hcell2 (l - 1 - j) _ (lcells_get _ _ hjt))
      rw [ht] at hrev hc1
      have HUD := Lib.hid (up_drop nd d (turns i n).reverse ss j t s hrev hget)
      have H32 := Lib.hid (HD.out s (List.mem_of_getElem? hget))
      have k6 : (l : Int) - 1 - (j : Int) = ((l - 1 - j : Nat) : Int) := by omega
      obtain ⟨r, hr⟩ : ∃ r, l - 1 - j = r := ⟨_, rfl⟩
      have hrl : r < l := by omega
      rw [hr] at hc1 k6
      clear hcell hcell2 hget hsj hrev ht hr hjt
      cases t with
      | true =>
        go_wp2_with fail
        refine (node_any s d _ (HT.out _ (hb1.trans (hbel.mono hb1.size))) H32.out HZ.out).mono ?_
        rintro e w3 ⟨rfl, hb3⟩
        have b3 := hbel.trans (hb3.mono hbel.size)
        go_wp2_with fail
        go_roundw
        case rel => exact ⟨j + 1, nd s d, by omega, by go_num, rfl, nd_size _ _, by show _ = _; rw [HU.out, HUD.out]; rfl, b3⟩
        case measure => simp [intOf]; omega
      | false =>
        go_wp2_with fail
        refine (node_any d s _ (HT.out _ (hb1.trans (hbel.mono hb1.size))) HZ.out H32.out).mono ?_
        rintro e w3 ⟨rfl, hb3⟩
        have b3 := hbel.trans (hb3.mono hbel.size)
        go_wp2_with fail
        go_roundw
        case rel => exact ⟨j + 1, nd d s, by omega, by go_num, rfl, nd_size _ _, by show _ = _; rw [HU.out, HUD.out]; rfl, b3⟩
        case measure => simp [intOf]; omega
    · have HF : Hid (climb nd ed leaf i n ss = d) := by
        show _ = _
        rw [HCU.out, HU.out, List.drop_eq_nil_of_le (by rw [List.length_reverse, HTL.out]; omega), up_nil]
      go_wp2_with fail
      go_ret2
      exact ⟨by rw [HF.out]; rfl, hb1.trans (hbel.mono hb1.size)⟩
end Go.Proofs.YtmebogaenbjmnaaDoor.TrW
