/- utf: first. -/
import Derived.Test.YtpnnebnjkinndaaDoorUh
import Derived.Deep.QuietTactic
import Derived.BigQuiet
namespace Go.Proofs.YtpnnebnjkinndaaDoor.UtfW
open Go.RowKit
theorem join_some (c : Int) (B : Option Addr) (l d : Nat) (bs : List UInt8) (n r : Nat) (w : World) (hr : joinS c.toNat bs n = some r) (hc : 0 ≤ c) (hc2 : c < 256) (hl : bs.length = l) (hb : Sl w B (bcells bs)) (hld : l ≤ d) (hl63 : d ≤ 9223372036854775807) (hn : n ≤ 3) :
    Calls Tryd.prog 55 #[.int .i64 c, .slice B l d, .int .i64 (n : Int)] w fun e w' => e = .returned (.tuple #[.int .i64 (r : Int), .bool true]) ∧ w' = w :=
  (join_any c B l d bs n w hc hc2 hl hb hld hl63 hn).mono fun _ _ ⟨h1, h2⟩ => ⟨by rw [h1, hr]; rfl, h2.symm⟩
theorem join_none (c : Int) (B : Option Addr) (l d : Nat) (bs : List UInt8) (n : Nat) (w : World) (hr : joinS c.toNat bs n = none) (hc : 0 ≤ c) (hc2 : c < 256) (hl : bs.length = l) (hb : Sl w B (bcells bs)) (hld : l ≤ d) (hl63 : d ≤ 9223372036854775807) (hn : n ≤ 3) :
    Calls Tryd.prog 55 #[.int .i64 c, .slice B l d, .int .i64 (n : Int)] w fun e w' => e = .returned (.tuple #[.int .i64 0, .bool false]) ∧ w' = w :=
  (join_any c B l d bs n w hc hc2 hl hb hld hl63 hn).mono fun _ _ ⟨h1, h2⟩ => ⟨by rw [h1, hr]; rfl, h2.symm⟩
theorem shape_row : ∀ k, k < 4 → row3 shapeT k = ((least4 k : Int), (mark4 k : Int), (end4 k : Int)) := by decide
theorem shape_bound : ∀ k, k < 4 → mark4 k ≤ 240 ∧ end4 k ≤ 248 ∧ least4 k ≤ 65536 := by decide
def FirstP (bs : List UInt8) (w : World) (e : Ending) (w' : World) : Prop := e = .returned (.tuple #[.int .i64 ((one bs).1 : Nat), .int .i64 ((one bs).2 : Nat)]) ∧ Below w.heap.size w w'
set_option maxRecDepth 1000000 in
set_option maxHeartbeats 2000000 in
theorem first_any (B : Option Addr) (l d : Nat) (h : UInt8) (t : List UInt8) (w : World) (hT : Tabs w) (hl : t.length + 1 = l) (hb : Sl w B (bcells (h :: t))) (hld : l ≤ d) (hd63 : d ≤ 9223372036854775807) :
    Calls Tryd.prog 35 #[.slice B l d] w (FirstP (h :: t) w) := by
  subst hl
  have HT : Hid (Tri w 0 shapeT) := hT.shp
  clear hT
  obtain ⟨b, o, rfl, hblt, hcell⟩ := hb.get (j := 0) (by simp [bcells])
  obtain ⟨y, hy⟩ : ∃ y : Nat, y = h.toNat := ⟨_, rfl⟩
  have hy8 : y < 256 := by rw [hy]; exact UInt8.toNat_lt _
  have hc0 : w.cell? ⟨b, o, none⟩ = some (.int .u8 (y : Int)) := by
    have := hcell 0 _ (bcells_get (h :: t) 0 (by simp))
    rw [hy]; exact this
  have HC : Hid (∀ W : World, Below w.heap.size w W → W.cell? ⟨b, o, none⟩ = some (.int .u8 (y : Int))) := fun W hW => (hW.cell (p := ⟨b, o, none⟩) hblt).trans hc0
  have HY := Lib.hid hy
  clear hc0 hcell hy
  obtain ⟨B', hB'⟩ : ∃ B', B' = (if d = 1 then some ⟨b, o, none⟩ else (some (⟨b, o, none⟩ : Addr)).map (·.add 1)) := ⟨_, rfl⟩
  have hpt := fun w' => run_from (P := Tryd.prog) bytesTy w' (some ⟨b, o, none⟩) (t.length + 1) d 1 .i64 (by omega)
  have hsl : Sl w B' (bcells t) := by
    have := hb.cut 1 d (by rw [bcells_len]; simpa using hld)
    rw [← hB'] at this
    simpa [bcells] using this
  rw [← hB'] at hpt
  have HPT : Hid (∀ w', (Instr.slice 22 (.slice (some ⟨b, o, none⟩) (t.length + 1) d) (some (.int .i64 1)) none none).run Tryd.prog w' = .ok (.slice B' t.length (d - 1)) w') := by
    intro w'
    have := hpt w'
    rw [show t.length + 1 - 1 = t.length by omega] at this
    exact this
  have HSL : Hid (∀ W : World, Below w.heap.size w W → Sl W B' (bcells t)) := fun W hW => hsl.below hW
  clear hpt hB' hsl hb
  obtain ⟨tl, htl⟩ : ∃ tl, tl = t.length := ⟨_, rfl⟩
  have HTL : Hid (t.length = tl) := htl.symm
  rw [← htl] at hld ⊢
  have HPT2 : Hid (∀ w', (Instr.slice 22 (.slice (some ⟨b, o, none⟩) (tl + 1) d) (some (.int .i64 1)) none none).run Tryd.prog w' = .ok (.slice B' tl (d - 1)) w') := by rw [htl]; exact HPT
  clear HPT htl
  unfold FirstP
  go_enter Tryd.func35, Tryd.ntmps35
  go_wp2_with (refine wpList_loadT rfl 69 (.global 0) rfl tyShapes 0 rfl shapeT HT.out rfl ?_)
  go_loopw [10] (fun i wr => ∃ k : Nat, k ≤ 4 ∧ i = .int .i64 k ∧ Hid (∀ j c, j < k → ¬ Has h t j c) ∧ Below w.heap.size w wr) (fun i _ => 4 - (intOf i).toNat)
  case atStart => exact ⟨0, by omega, rfl, (fun j c hj => by omega), Below.refl _ _⟩
  case round =>
    obtain ⟨k, hk, rfl, HK, hbel⟩ := hrel
    by_cases hlt : k < 4
    · have hs := hbel.size
      have HZ := Lib.hid (shape_row k hlt)
      obtain ⟨hm1, hm2, hm3⟩ := shape_bound k hlt
      have HH : Hid (∀ c, Has h t k c ↔ (mark4 k ≤ y ∧ y < end4 k ∧ joinS (y - mark4 k) t k = some c ∧ least4 k ≤ c ∧ rightC (c : Int))) := by
        intro c; rw [HY.out]; exact Iff.rfl
      have HN : Hid ((∀ c, ¬ Has h t k c) → ∀ j c, j < k + 1 → ¬ Has h t j c) := by
        intro h0 j c hj
        rcases Nat.lt_or_ge j k with h1 | h1
        · exact HK.out j c h1
        · obtain rfl : j = k := by omega
          exact h0 c
      generalize least4 k = ls at *
      generalize mark4 k = mk at *
      generalize end4 k = en at *
      have k1 : At (wr.alloc (.cells (t3 (0, 0, 0)).toArray 68)) wr.heap.size 68 (t3 (0, 0, 0)) := At.new_ wr _ _ _ rfl
      have l1 : Below w.heap.size w (wr.alloc (.cells (t3 (0, 0, 0)).toArray 68)) := hbel.alloc hs _
      by_cases h1 : mk ≤ y
      · by_cases h2 : y < en
        · have hcv : ((y : Int) - (mk : Int)).toNat = y - mk := by omega
          have HCV := Lib.hid hcv
          clear hcv
          cases hj : joinS (y - mk) t k with
          | none =>
            have HJ : Hid (joinS ((y : Int) - (mk : Int)).toNat t k = none) := by show _ = _; rw [HCV.out, hj]
            have HNN := Lib.hid (HN.out fun c hh => by have := ((HH.out c).1 hh).2.2.1; rw [hj] at this; cases this)
            clear hj HCV
            go_wp2_with (first
              | (refine wpList_idxT rfl 69 68 (.tmp 9) (.tmp 10) rfl 4 undShapes tyShape shapeT rfl .i64 k rfl hlt rfl ?_; rw [HZ.out])
              | (refine wpList_storeB rfl rfl 68 (.tmp 5) (.tmp 13) rfl tyShape wr.heap.size rfl (t3 ((ls : Int), (mk : Int), (en : Int))) rfl 68 _ k1 rfl rfl (t3_one _) ?_; intro x1 kx1 ox1; have q1 := ox1.below _ _ l1 hs; obtain ⟨c0, c1, c2⟩ := rec_cells kx1; have hc := HC.out _ q1))
            have hsl1 := HSL.out _ q1
            have hpt := HPT2.out
            go_quiet ((go_at_call 55; exact Calls.quiet_of_same (join_none _ B' tl (d - 1) t k _ HJ.out (by omega) (by omega) HTL.out (hsl1.drewN _) (by omega) (by omega) (by omega))))
            clear hpt hsl1
            go_wp2_with fail
            go_roundw
            case rel => exact ⟨k + 1, by omega, by go_num, HNN, below_drewN q1 _⟩
            case measure => simp [intOf]; omega
          | some c =>
            have HJ : Hid (joinS ((y : Int) - (mk : Int)).toNat t k = some c) := by show _ = _; rw [HCV.out, hj]
            have HHC := Lib.hid (fun c' (hh : Has h t k c') => Option.some.inj (hj.symm.trans ((HH.out c').1 hh).2.2.1))
            have HYES := Lib.hid (fun (a : ls ≤ c) (b : rightC (c : Int)) => one_yes hlt ((HH.out c).2 ⟨h1, h2, hj, a, b⟩))
            clear hj HCV
            by_cases h3 : ls ≤ c
            · by_cases h4 : rightC (c : Int)
              · have hd := Lib.hid (decide_eq_true h4)
                have HO := Lib.hid (HYES.out h3 h4)
                clear h4
                go_wp2_with (first
                  | (refine wpList_idxT rfl 69 68 (.tmp 9) (.tmp 10) rfl 4 undShapes tyShape shapeT rfl .i64 k rfl hlt rfl ?_; rw [HZ.out])
                  | (refine wpList_storeB rfl rfl 68 (.tmp 5) (.tmp 13) rfl tyShape wr.heap.size rfl (t3 ((ls : Int), (mk : Int), (en : Int))) rfl 68 _ k1 rfl rfl (t3_one _) ?_; intro x1 kx1 ox1; have q1 := ox1.below _ _ l1 hs; obtain ⟨c0, c1, c2⟩ := rec_cells kx1; have hc := HC.out _ q1))
                have hsl1 := HSL.out _ q1
                have hpt := HPT2.out
                go_quiet ((go_at_call 55; exact Calls.quiet_of_same (join_some _ B' tl (d - 1) t k c _ HJ.out (by omega) (by omega) HTL.out (hsl1.drewN _) (by omega) (by omega) (by omega))))
                clear hpt hsl1
                go_wp2_with fail
                refine (right_any c _).mono ?_
                rintro e w9 ⟨rfl, rfl⟩
                rw [hd.out]
                go_wp2_with fail
                go_ret2
                rw [HO.out]
                exact ⟨rfl, below_drewN q1 _⟩
              · have hd := Lib.hid (decide_eq_false h4)
                have HNN := Lib.hid (HN.out fun c' hh => by have e := HHC.out c' hh; subst e; exact h4 ((HH.out _).1 hh).2.2.2.2)
                clear h4
                go_wp2_with (first
                  | (refine wpList_idxT rfl 69 68 (.tmp 9) (.tmp 10) rfl 4 undShapes tyShape shapeT rfl .i64 k rfl hlt rfl ?_; rw [HZ.out])
                  | (refine wpList_storeB rfl rfl 68 (.tmp 5) (.tmp 13) rfl tyShape wr.heap.size rfl (t3 ((ls : Int), (mk : Int), (en : Int))) rfl 68 _ k1 rfl rfl (t3_one _) ?_; intro x1 kx1 ox1; have q1 := ox1.below _ _ l1 hs; obtain ⟨c0, c1, c2⟩ := rec_cells kx1; have hc := HC.out _ q1))
                have hsl1 := HSL.out _ q1
                have hpt := HPT2.out
                go_quiet ((go_at_call 55; exact Calls.quiet_of_same (join_some _ B' tl (d - 1) t k c _ HJ.out (by omega) (by omega) HTL.out (hsl1.drewN _) (by omega) (by omega) (by omega))))
                clear hpt hsl1
                go_wp2_with fail
                refine (right_any c _).mono ?_
                rintro e w9 ⟨rfl, rfl⟩
                rw [hd.out]
                go_wp2_with fail
                go_roundw
                case rel => exact ⟨k + 1, by omega, by go_num, HNN, below_drewN q1 _⟩
                case measure => simp [intOf]; omega
            · have HNN := Lib.hid (HN.out fun c' hh => by have e := HHC.out c' hh; subst e; exact h3 ((HH.out _).1 hh).2.2.2.1)
              go_wp2_with (first
                | (refine wpList_idxT rfl 69 68 (.tmp 9) (.tmp 10) rfl 4 undShapes tyShape shapeT rfl .i64 k rfl hlt rfl ?_; rw [HZ.out])
                | (refine wpList_storeB rfl rfl 68 (.tmp 5) (.tmp 13) rfl tyShape wr.heap.size rfl (t3 ((ls : Int), (mk : Int), (en : Int))) rfl 68 _ k1 rfl rfl (t3_one _) ?_; intro x1 kx1 ox1; have q1 := ox1.below _ _ l1 hs; obtain ⟨c0, c1, c2⟩ := rec_cells kx1; have hc := HC.out _ q1))
              have hsl1 := HSL.out _ q1
              have hpt := HPT2.out
              go_quiet ((go_at_call 55; exact Calls.quiet_of_same (join_some _ B' tl (d - 1) t k c _ HJ.out (by omega) (by omega) HTL.out (hsl1.drewN _) (by omega) (by omega) (by omega))))
              clear hpt hsl1
              go_wp2_with fail
              go_roundw
              case rel => exact ⟨k + 1, by omega, by go_num, HNN, below_drewN q1 _⟩
              case measure => simp [intOf]; omega
        · have HNN := Lib.hid (HN.out fun c hh => h2 ((HH.out c).1 hh).2.1)
          go_wp2_with (first
            | (refine wpList_idxT rfl 69 68 (.tmp 9) (.tmp 10) rfl 4 undShapes tyShape shapeT rfl .i64 k rfl hlt rfl ?_; rw [HZ.out])
            | (refine wpList_storeB rfl rfl 68 (.tmp 5) (.tmp 13) rfl tyShape wr.heap.size rfl (t3 ((ls : Int), (mk : Int), (en : Int))) rfl 68 _ k1 rfl rfl (t3_one _) ?_; intro x1 kx1 ox1; have q1 := ox1.below _ _ l1 hs; obtain ⟨c0, c1, c2⟩ := rec_cells kx1; have hc := HC.out _ q1))
          go_roundw
          case rel => exact ⟨k + 1, by omega, by go_num, HNN, q1⟩
          case measure => simp [intOf]; omega
      · have HNN := Lib.hid (HN.out fun c hh => h1 ((HH.out c).1 hh).1)
        go_wp2_with (first
          | (refine wpList_idxT rfl 69 68 (.tmp 9) (.tmp 10) rfl 4 undShapes tyShape shapeT rfl .i64 k rfl hlt rfl ?_; rw [HZ.out])
          | (refine wpList_storeB rfl rfl 68 (.tmp 5) (.tmp 13) rfl tyShape wr.heap.size rfl (t3 ((ls : Int), (mk : Int), (en : Int))) rfl 68 _ k1 rfl rfl (t3_one _) ?_; intro x1 kx1 ox1; have q1 := ox1.below _ _ l1 hs; obtain ⟨c0, c1, c2⟩ := rec_cells kx1; have hc := HC.out _ q1))
        go_roundw
        case rel => exact ⟨k + 1, by omega, by go_num, HNN, q1⟩
        case measure => simp [intOf]; omega
    · have HO := Lib.hid (one_no (h := h) (t := t) fun j c hj => HK.out j c (by omega))
      go_wp2_with fail
      go_ret2
      rw [HO.out]
      exact ⟨rfl, hbel⟩
end Go.Proofs.YtpnnebnjkinndaaDoor.UtfW
