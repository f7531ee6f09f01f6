/- tree: Path, Leaves, turns, Climb. -/
import Derived.Test.YtmebogaenbjmnaaDoorMd
import Derived.Test.YtmebogaenbjmnaaDoorBools
namespace Go.Proofs.YtmebogaenbjmnaaDoor.TrW
open Go.RowKit TreeW
open ShaW Sha
set_option maxHeartbeats 1000000 in
theorem path_ok (A : Option Addr) (l c : Nat) (ss : List ByteArray) (i : Nat) (w : World) (hT : Tab w) (hl : ss.length = l) (hs : Sl w A (scells ss)) (hd : Digs ss) (hi : i < l) (hlc : l ≤ c) (hl40 : l ≤ 1099511627776) :
    Calls Tryd.prog 18 #[.slice A l c, .int .i64 (i : Int)] w fun e w' => ∃ v, e = .returned (.tuple #[v, .int .i64 0]) ∧ OwS w.heap.size w' v (path nd ed ss i) ∧ Below w.heap.size w w' := by
  have HDY : Hid (decide (Digs ss) = true) := decide_eq_true hd
  have HL := Lib.hid hl
  have HD := Lib.hid hd
  have k1 : ¬ (i : Int) < 0 := by omega
  have k2 : ¬ (i : Int) ≥ (l : Int) := by omega
  clear hl hd
  go_enter Tryd.func18, Tryd.ntmps18
  go_wp2_with fail
  refine (digests_any A l c ss _ HL.out hs (by omega)).mono ?_
  rintro e w1 ⟨rfl, rfl⟩
  rw [HDY.out]
  go_wp2_with fail
  refine (siblings_any l A l c ss i (Nat.le_refl _) _ hT HL.out hs HD.out hi hlc hl40).mono ?_
  rintro e w1 ⟨v, rfl, hown, hb1⟩
  go_wp2_with fail
  go_ret2
  exact ⟨v, rfl, hown, hb1⟩
set_option maxHeartbeats 1000000 in
theorem path_bad (A : Option Addr) (l c : Nat) (ss : List ByteArray) (i : Int) (w : World) (hl : ss.length = l) (hs : Sl w A (scells ss)) (hl40 : l ≤ 1099511627776) (h : i < 0 ∨ (l : Int) ≤ i ∨ ¬ Digs ss) :
    Calls Tryd.prog 18 #[.slice A l c, .int .i64 i] w fun e w' => e = .returned (.tuple #[.slice none 0 0, .int .i64 1]) ∧ w = w' := by
  by_cases h1 : i < 0
  · clear h
    go_enter Tryd.func18, Tryd.ntmps18
    go_wp2_with fail
    go_ret2
    exact ⟨rfl, rfl⟩
  by_cases h2 : i ≥ (l : Int)
  · clear h
    go_enter Tryd.func18, Tryd.ntmps18
    go_wp2_with fail
    go_ret2
    exact ⟨rfl, rfl⟩
  have hd : ¬ Digs ss := by
    rcases h with h | h | h
    · exact absurd h h1
    · exact absurd h h2
    · exact h
  have HDN : Hid (decide (Digs ss) = false) := decide_eq_false hd
  have HL := Lib.hid hl
  clear hl hd h
  go_enter Tryd.func18, Tryd.ntmps18
  go_wp2_with fail
  refine (digests_any A l c ss _ HL.out hs (by omega)).mono ?_
  rintro e w1 ⟨rfl, rfl⟩
  rw [HDN.out]
  go_wp2_with fail
  go_ret2
  exact ⟨rfl, rfl⟩
/-- The digest of a leaf. -/
def lf (b : List UInt8) : ByteArray := ⟨(sha (0 :: b)).toArray⟩
theorem lf_size (b : List UInt8) : (lf b).size = 32 := SealW.sha_size _
theorem lf_digs (bss : List (List UInt8)) : Digs (bss.map lf) := by
  intro x hx
  obtain ⟨b, _, rfl⟩ := List.mem_map.1 hx
  exact lf_size b
theorem lf_snoc {bss : List (List UInt8)} {j : Nat} (h : j < bss.length) : (bss.take (j + 1)).map lf = (bss.take j).map lf ++ [lf (bss.getD j [])] := by
  rw [List.take_add_one, List.map_append]
  simp [h]
theorem boolsTy : ElemTy Tryd.prog 57 4 (.bool false) 1 := ⟨by kernel_rfl, info_parts (by kernel_rfl), rfl, by omega⟩
set_option maxRecDepth 100000 in
set_option maxHeartbeats 2000000 in
theorem leaves_any (A : Option Addr) (l c : Nat) (vs : List Value) (bss : List (List UInt8)) (w : World) (hT : Tab w) (hl : bss.length = l) (hA : Sl w A vs) (hR : RowsAt w vs bss) (hl40 : l ≤ 1099511627776) (hle : ∀ b ∈ bss, b.length ≤ 1000000000000) :
    Calls Tryd.prog 29 #[.slice A l c] w fun e w' => ∃ v, e = .returned v ∧ OwS w.heap.size w' v (bss.map lf) ∧ Below w.heap.size w w' := by
  have hpos := hT.pos
  have HT := Lib.hid (fun W (hb : Below w.heap.size w W) => hT.below hb hpos)
  have HL := Lib.hid hl
  have HRL := Lib.hid hR.1
  have HR2 := Lib.hid hR.2
  have HLE := Lib.hid hle
  clear hl hT hpos hR hle
  go_enter Tryd.func29, Tryd.ntmps29
  go_wp2_with (refine wpList_mk rfl (.const (.int .i64 0)) (.tmp 7) rfl strsTy w.heap.size .i64 .i64 l l rfl rfl rfl (by omega) (Nat.le_refl _) ?_; intro w1 hown1 hgr1)
  have hb1 : Below w.heap.size w w1 := (Below.refl _ _).grown hgr1 (Nat.le_refl _) (fun k hk => by cases hk)
  clear hgr1
  go_loopw [3, 5, 11] (fun v _ i wr => ∃ j : Nat, j ≤ l ∧ i = .int .i64 (j : Int) ∧ OwS w.heap.size wr v ((bss.take j).map lf) ∧ Below w.heap.size w wr) (fun _ _ i _ => l - (intOf i).toNat)
  case atStart => exact ⟨0, by omega, rfl, hown1, hb1⟩
  case round =>
    clear hown1 hb1
    obtain ⟨j, hj, rfl, hown, hbel⟩ := hrel
    by_cases hlt : j < l
    · have hjb : j < bss.length := by rw [HL.out]; exact hlt
      obtain ⟨b, o, rfl, hblt, hcell⟩ := hA.get (j := j) (by rw [HRL.out]; exact hjb)
      obtain ⟨B, d, hv, hB, hBd, hd⟩ := HR2.out j hjb
      have hc0 := (hbel.cell (p := ⟨b, o + j, none⟩) hblt).trans (hcell j _ hv)
      have hB1 := hB.below hbel
      have HX := Lib.hid (lf_snoc hjb)
      have hle := HLE.out (bss.getD j []) (by simp [List.getD, hjb])
      obtain ⟨x, hx⟩ : ∃ x, bss.getD j [] = x := ⟨_, rfl⟩
      rw [hx] at hc0 hB1 hle HX hBd
      obtain ⟨q, hq⟩ : ∃ q, x.length = q := ⟨_, rfl⟩
      rw [hq] at hc0 hle hBd
      have HQ := Lib.hid hq
      obtain ⟨m, hm⟩ : ∃ m, m = ((bss.take j).map lf).length := ⟨_, rfl⟩
      have HM := Lib.hid hm
      have hmj : m ≤ j := by rw [hm, List.length_map, List.length_take]; omega
      unfold OwS at hown
      rw [← hm] at hown
      clear hcell hv hB hx hq hm hjb
      go_wp2_with fail
      refine (SealW.leaf_any B q d x _ (HT.out _ hbel) HQ.out hB1 hle).mono ?_
      rintro e w2 ⟨rfl, hb2⟩
      have b2 := hbel.trans (hb2.mono hbel.size)
      have hown2 := own_below hown hb2
      obtain ⟨s, hs⟩ : ∃ s, (⟨(sha (0 :: x)).toArray⟩ : ByteArray) = s := ⟨_, rfl⟩
      have HS : Hid (lf x = s) := hs
      rw [hs]
      have HSL := Lib.hid (fun (W : World) => new_str W s)
      have hbx := b2.alloc b2.size (.cells #[.string s] 9)
      clear hb2 hown hs hc0 hB1
      go_wp2_with (refine wpList_app rfl (.tmp 15) (.tmp 18) 22 rfl strsTy w.heap.size _ m (scells ((bss.take j).map lf)) rfl (hown2.alloc _) _ 1 1 (scells [s]) rfl rfl (HSL.out _) (scells_one _) (by omega) hbx.size ?_; intro v3 w3 hown3 hgr3 hbl3)
      have hb3 := below_app hbx hgr3 (hown2.alloc (.cells #[.string s] 9)) (Nat.le_refl _) hbx.size
      have hown4 := snoc_ownS HM.out hown3
      clear hown2 hown3 hgr3 hbl3 hbx
      go_roundw
      case rel => exact ⟨j + 1, by omega, by go_num, by rw [HX.out, HS.out]; exact hown4, hb3⟩
      case measure => simp [intOf]; omega
    · have hfl : bss.take j = bss := List.take_of_length_le (by rw [HL.out]; omega)
      rw [hfl] at hown
      go_wp2_with fail
      go_ret
      exact ⟨_, rfl, hown, hbel⟩
/-- Rows of yes and no of the call's own. -/
def OwL (base : Nat) (w : World) (v : Value) (bs : List Bool) : Prop := w.ownsRow base 4 1 v bs.length (lcells bs)
theorem new_bool (W : World) (b : Bool) : Sl (W.alloc (.cells #[.bool b] 4)) (some ⟨W.heap.size, 0, none⟩) (lcells [b]) := Sl.of_at_all (At.new_ W _ 4 (lcells [b]) rfl)
theorem lcells_app (a b : List Bool) : lcells a ++ lcells b = lcells (a ++ b) := by simp [lcells]
theorem lcells_one (l : List Bool) : ∀ v ∈ lcells l, v.oneCell' = true := by
  intro v hv; simp [lcells] at hv; rcases hv with ⟨_, rfl⟩ | ⟨_, rfl⟩ <;> rfl
theorem snoc_ownL {w : World} {base : Nat} {v : Value} {a : List Bool} {x : Bool} {n : Nat} (hn : n = a.length) (h : w.ownsRow base 4 1 v (n + 1) (lcells a ++ lcells [x])) : OwL base w v (a ++ [x]) := by
  subst hn
  unfold OwL
  rw [List.length_append, ← lcells_app]
  exact h
set_option maxRecDepth 1000000 in
set_option maxHeartbeats 2000000 in
theorem turns_any (i n : Nat) (w : World) (hi : i < n) (hn : n ≤ 1099511627776) :
    Calls Tryd.prog 36 #[.int .i64 (i : Int), .int .i64 (n : Int)] w fun e w' => ∃ v, e = .returned v ∧ OwL w.heap.size w' v (turns i n) ∧ Below w.heap.size w w' := by
  have h0 : Below w.heap.size w w := Below.refl _ _
  go_enter Tryd.func36, Tryd.ntmps36
  go_wp2_with fail
  go_loopw [0, 1, 5, 6, 7] (fun vi vn v _ _ wr => ∃ (i' n' : Nat) (ts : List Bool), vi = .int .i64 (i' : Int) ∧ vn = .int .i64 (n' : Int) ∧ i' < n' ∧ ts.length + n' ≤ n ∧ Hid (turns i n = ts ++ turns i' n') ∧ OwL w.heap.size wr v ts ∧ Below w.heap.size w wr) (fun _ vn _ _ _ _ => (intOf vn).toNat)
  case atStart => exact ⟨i, n, [], rfl, rfl, hi, by simp, rfl, World.ownsRow_nil _ _ _ _, h0⟩
  case round =>
    clear h0 hi
    obtain ⟨i', n', ts, rfl, rfl, hi, hle, HK, hown, hbel⟩ := hrel
    by_cases h2 : 2 ≤ n'
    · obtain ⟨a, b, _, _⟩ := split_spec h2
      have hyes := turns_left (i := i') h2
      have hno := turns_right (i := i') h2
      obtain ⟨k, hk⟩ : ∃ k, k = split n' := ⟨_, rfl⟩
      rw [← hk] at a b hyes hno
      have HKK := Lib.hid hk
      have HYS := Lib.hid hyes
      have HNO := Lib.hid hno
      obtain ⟨m, hm⟩ : ∃ m, m = ts.length := ⟨_, rfl⟩
      have HM := Lib.hid hm
      unfold OwL at hown
      rw [← hm] at hown hle
      have hgt : (1 : Int) < (n' : Int) := by omega
      clear hk hyes hno hm
      by_cases hik : i' < k
      · have HT2 : Hid (turns i n = (ts ++ [false]) ++ turns i' k) := by show _ = _; rw [HK.out, HYS.out hik]; simp
        have k5 : ¬ (k : Int) ≤ (i' : Int) := by omega
        have hbx := hbel.alloc hbel.size (.cells #[.bool false] 4)
        have HSL := Lib.hid (fun (W : World) => new_bool W false)
        clear HYS HNO HK
        go_wp2_with fail
        refine (split_in n' _ (by omega) (by omega)).mono ?_
        rintro e w1 ⟨rfl, rfl⟩
        rw [← HKK.out]
        go_wp2_with (refine wpList_app rfl (.tmp 23) (.tmp 25) 57 rfl boolsTy w.heap.size _ m (lcells ts) rfl (hown.alloc _) _ 1 1 (lcells [false]) rfl rfl (HSL.out _) (lcells_one _) (by omega) hbx.size ?_; intro v3 w3 hown3 hgr3 hbl3)
        have hb3 := below_app hbx hgr3 (hown.alloc (.cells #[.bool false] 4)) (Nat.le_refl _) hbx.size
        have hown4 := snoc_ownL HM.out hown3
        clear hown hown3 hgr3 hbl3 hbx
        go_roundw
        case rel => exact ⟨i', k, ts ++ [false], rfl, rfl, hik, by rw [List.length_append, ← HM.out]; simp; omega, HT2, hown4, hb3⟩
        case measure => simp [intOf]; omega
      · have HT2 : Hid (turns i n = (ts ++ [true]) ++ turns (i' - k) (n' - k)) := by show _ = _; rw [HK.out, HNO.out hik]; simp
        have k5 : (k : Int) ≤ (i' : Int) := by omega
        have hbx := hbel.alloc hbel.size (.cells #[.bool true] 4)
        have HSL := Lib.hid (fun (W : World) => new_bool W true)
        clear HYS HNO HK
        go_wp2_with fail
        refine (split_in n' _ (by omega) (by omega)).mono ?_
        rintro e w1 ⟨rfl, rfl⟩
        rw [← HKK.out]
        go_wp2_with (refine wpList_app rfl (.tmp 23) (.tmp 25) 57 rfl boolsTy w.heap.size _ m (lcells ts) rfl (hown.alloc _) _ 1 1 (lcells [true]) rfl rfl (HSL.out _) (lcells_one _) (by omega) hbx.size ?_; intro v3 w3 hown3 hgr3 hbl3)
        have hb3 := below_app hbx hgr3 (hown.alloc (.cells #[.bool true] 4)) (Nat.le_refl _) hbx.size
        have hown4 := snoc_ownL HM.out hown3
        clear hown hown3 hgr3 hbl3 hbx
        go_roundw
        case rel => exact ⟨i' - k, n' - k, ts ++ [true], by go_num, by go_num, by omega, by rw [List.length_append, ← HM.out]; simp; omega, HT2, hown4, hb3⟩
        case measure => simp [intOf]; omega
    · have HF : Hid (turns i n = ts) := by show _ = _; rw [HK.out, turns_one i' n' (by omega), List.append_nil]
      have k5 : ¬ (1 : Int) < (n' : Int) := by omega
      go_wp2_with fail
      go_ret
      exact ⟨_, rfl, by rw [HF.out]; exact hown, hbel⟩
end Go.Proofs.YtmebogaenbjmnaaDoor.TrW
