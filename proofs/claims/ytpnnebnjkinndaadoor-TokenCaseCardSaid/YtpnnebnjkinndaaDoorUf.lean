/- utf: Encode. -/
import Derived.Test.YtpnnebnjkinndaaDoorUe
namespace Go.Proofs.YtpnnebnjkinndaaDoor.UtfW
open Go.RowKit
theorem snoc_own {w : World} {base : Nat} {v : Value} {a : List UInt8} {x : UInt8} {r : List UInt8} (h : w.ownsRow base 5 1 v (a.length + 1) (bcells a ++ bcells [x])) (hr : r = a ++ [x]) : Ow base w v r := by
  subst hr
  unfold Ow
  rw [List.length_append, ← bcells_app]
  exact h
set_option maxRecDepth 1000000 in
set_option maxHeartbeats 1000000 in
theorem encode_bad (c : Int) (w : World) (h : ¬ rightC c) : Calls Tryd.prog 38 #[.int .i64 c] w fun e w' => e = .returned (.tuple #[.slice none 0 0, .int .i64 1]) ∧ w = w' := by
  have hd := decide_eq_false h
  clear h
  go_enter Tryd.func38, Tryd.ntmps38
  go_wp2_with fail
  refine (right_any c _).mono ?_
  rintro e w1 ⟨rfl, rfl⟩
  rw [hd]
  go_wp2_with fail
  go_ret2
  exact ⟨rfl, rfl⟩
def EncP (c : Nat) (w : World) (e : Ending) (w' : World) : Prop := ∃ v, e = .returned (.tuple #[v, .int .i64 0]) ∧ Ow w.heap.size w' v (encU c) ∧ Below w.heap.size w w'
set_option maxRecDepth 1000000 in
set_option maxHeartbeats 1000000 in
theorem encode_ok0 (c : Nat) (w : World) (hT : Tabs w) (hr : rightC (c : Int)) (h : c < 128) : Calls Tryd.prog 38 #[.int .i64 (c : Int)] w (EncP c w) := by
  have hd := decide_eq_true hr
  have HF := Lib.hid (fol1 h)
  have HE := Lib.hid (enc1 h)
  have hlt := rightC_lt hr
  have h0 : ∀ o : Obj, Below w.heap.size w (w.alloc o) := fun o => (Below.refl _ _).alloc (Nat.le_refl _) o
  have H0 := Lib.hid h0
  have HT := Lib.hid (following_any c w hT)
  have cm : w.cell? ⟨0, 1, none⟩ = some (.int .i64 0) := hT.shp 0 1 _ (by decide) (by decide) rfl
  clear h0 hr hT
  go_enter Tryd.func38, Tryd.ntmps38
  go_wp2_with fail
  refine (right_any c _).mono ?_
  rintro e w1 ⟨rfl, rfl⟩
  rw [hd]
  clear hd
  go_wp2_with fail
  refine HT.out.mono ?_
  rintro e w1 ⟨rfl, rfl⟩
  rw [HF.out]
  go_wp2_with fail
  have hw : IntKind.i64.wrap 0 = 0 := by decide
  have hv : IntKind.i64.wrap ((c : Int)) = (c : Int) := by rw [IntWalk.i64_in] <;> omega
  have hu : IntKind.u8.wrap ((c : Int)) = (c : Int) := by rw [IntWalk.u8_in] <;> omega
  refine wp_region_still_tail 10 (by kernel_rfl) (by kernel_rfl) ?_
  simp only [List.take_succ_cons, List.take_zero, List.drop_succ_cons, List.drop_zero]
  repeat still_step
  refine wpStill_nil ?_
  change wpList _ _ _ _ _ w.drew
  obtain ⟨wd, hwd⟩ : ∃ wd, wd = w.drew := ⟨_, rfl⟩
  have hbd : Below w.heap.size w wd := by rw [hwd]; exact (Below.refl _ _).drew
  have hsd := hbd.size
  rw [← hwd]
  clear hwd cm hw hv hu
  go_wp2_with fail
  go_loopw [5, 6] (fun b i wr => ∃ j : Nat, j ≤ 0 ∧ i = .int .i64 ((j : Int) - 1) ∧ Ow w.heap.size wr b ((encU c).take (1 - j)) ∧ Below w.heap.size w wr) (fun _ i _ => (intOf i + 1).toNat)
  case atStart =>
    refine ⟨0, by omega, by go_num, ?_, hbd.alloc hsd _⟩
    rw [HE.out]
    exact own_bytes wd w.heap.size [by8 c] [_] 1 (by unfold bcells; exact List.cons_eq_cons.2 ⟨bcell_eq (by omega) (by omega), rfl⟩) rfl hsd (by omega)
  case round =>
    obtain ⟨j, hj, rfl, hown, hbel⟩ := hrel
    rw [HE.out] at hown
    have hsw := hbel.size
    obtain rfl : j = 0 := by omega
    change Ow w.heap.size wr u5 [by8 c] at hown
    go_wp2_with fail
    go_ret2
    exact ⟨u5, rfl, by rw [HE.out]; exact hown, hbel⟩
set_option maxRecDepth 1000000 in
set_option maxHeartbeats 1000000 in
theorem encode_ok1 (c : Nat) (w : World) (hT : Tabs w) (hr : rightC (c : Int)) (h : 128 ≤ c) (h' : c < 2048) : Calls Tryd.prog 38 #[.int .i64 (c : Int)] w (EncP c w) := by
  have hd := decide_eq_true hr
  have HF := Lib.hid (fol2 h h')
  have HE := Lib.hid (enc2 h h')
  have hlt := rightC_lt hr
  have h0 : ∀ o : Obj, Below w.heap.size w (w.alloc o) := fun o => (Below.refl _ _).alloc (Nat.le_refl _) o
  have H0 := Lib.hid h0
  have HT := Lib.hid (following_any c w hT)
  have cm : w.cell? ⟨0, 4, none⟩ = some (.int .i64 192) := hT.shp 1 1 _ (by decide) (by decide) rfl
  clear h0 hr hT
  go_enter Tryd.func38, Tryd.ntmps38
  go_wp2_with fail
  refine (right_any c _).mono ?_
  rintro e w1 ⟨rfl, rfl⟩
  rw [hd]
  clear hd
  go_wp2_with fail
  refine HT.out.mono ?_
  rintro e w1 ⟨rfl, rfl⟩
  rw [HF.out]
  go_wp2_with fail
  have hw : IntKind.i64.wrap 6 = 6 := by decide
  have hv : IntKind.i64.wrap (192 + (c : Int) / 64) = 192 + (c : Int) / 64 := by rw [IntWalk.i64_in] <;> omega
  have hu : IntKind.u8.wrap (192 + (c : Int) / 64) = 192 + (c : Int) / 64 := by rw [IntWalk.u8_in] <;> omega
  refine wp_region_still_tail 10 (by kernel_rfl) (by kernel_rfl) ?_
  simp only [List.take_succ_cons, List.take_zero, List.drop_succ_cons, List.drop_zero]
  repeat still_step
  refine wpStill_nil ?_
  change wpList _ _ _ _ _ w.drew
  obtain ⟨wd, hwd⟩ : ∃ wd, wd = w.drew := ⟨_, rfl⟩
  have hbd : Below w.heap.size w wd := by rw [hwd]; exact (Below.refl _ _).drew
  have hsd := hbd.size
  rw [← hwd]
  clear hwd cm hw hv hu
  go_wp2_with fail
  go_loopw [5, 6] (fun b i wr => ∃ j : Nat, j ≤ 1 ∧ i = .int .i64 ((j : Int) - 1) ∧ Ow w.heap.size wr b ((encU c).take (2 - j)) ∧ Below w.heap.size w wr) (fun _ i _ => (intOf i + 1).toNat)
  case atStart =>
    refine ⟨1, by omega, by go_num, ?_, hbd.alloc hsd _⟩
    rw [HE.out]
    exact own_bytes wd w.heap.size [by8 (192 + c / 64)] [_] 1 (by unfold bcells; exact List.cons_eq_cons.2 ⟨bcell_eq (by omega) (by omega), rfl⟩) rfl hsd (by omega)
  case round =>
    obtain ⟨j, hj, rfl, hown, hbel⟩ := hrel
    rw [HE.out] at hown
    have hsw := hbel.size
    by_cases hj1 : j = 1
    · subst hj1
      change Ow w.heap.size wr u5 [by8 (192 + c / 64)] at hown
      have HS : Hid (∀ (W : World) (x : Int), x = ((128 + c % 64 : Nat) : Int) → Sl (W.alloc (.cells #[.int .u8 x] 5)) (some ⟨W.heap.size, 0, none⟩) (bcells [by8 (128 + c % 64)])) := fun W x hx => new_bytes W [_] [_] (by unfold bcells; exact List.cons_eq_cons.2 ⟨bcell_eq (by omega) hx, rfl⟩)
      have HB : Hid (∀ o : Obj, Below w.heap.size w (wr.alloc o)) := fun o => hbel.alloc hsw o
      unfold Ow at hown
      go_wp2_with (refine wpList_app rfl (.tmp 35) (.tmp 39) 22 rfl bytesTy w.heap.size u5 1 (bcells [by8 (192 + c / 64)]) rfl (hown.alloc _) _ 1 1 (bcells [by8 (128 + c % 64)]) rfl rfl (HS.out _ _ (by omega)) (bcells_one _) (by omega) (by simp; omega) ?_; intro v1 w1 hown1 hgr1 hbl1)
      have hbel2 := below_app (HB.out _) hgr1 (hown.alloc (.cells #[.int .u8 _] 5)) (Nat.le_refl _) (by simp; omega)
      go_roundw
      case rel => exact ⟨0, by omega, by go_num, snoc_own hown1 (by rw [HE.out]; rfl), hbel2⟩
      case measure => simp [intOf]
    obtain rfl : j = 0 := by omega
    change Ow w.heap.size wr u5 [by8 (192 + c / 64), by8 (128 + c % 64)] at hown
    go_wp2_with fail
    go_ret2
    exact ⟨u5, rfl, by rw [HE.out]; exact hown, hbel⟩
set_option maxRecDepth 1000000 in
set_option maxHeartbeats 1000000 in
theorem encode_ok2 (c : Nat) (w : World) (hT : Tabs w) (hr : rightC (c : Int)) (h : 2048 ≤ c) (h' : c < 65536) : Calls Tryd.prog 38 #[.int .i64 (c : Int)] w (EncP c w) := by
  have hd := decide_eq_true hr
  have HF := Lib.hid (fol3 h h')
  have HE := Lib.hid (enc3 h h')
  have hlt := rightC_lt hr
  have h0 : ∀ o : Obj, Below w.heap.size w (w.alloc o) := fun o => (Below.refl _ _).alloc (Nat.le_refl _) o
  have H0 := Lib.hid h0
  have HT := Lib.hid (following_any c w hT)
  have cm : w.cell? ⟨0, 7, none⟩ = some (.int .i64 224) := hT.shp 2 1 _ (by decide) (by decide) rfl
  clear h0 hr hT
  go_enter Tryd.func38, Tryd.ntmps38
  go_wp2_with fail
  refine (right_any c _).mono ?_
  rintro e w1 ⟨rfl, rfl⟩
  rw [hd]
  clear hd
  go_wp2_with fail
  refine HT.out.mono ?_
  rintro e w1 ⟨rfl, rfl⟩
  rw [HF.out]
  go_wp2_with fail
  have hw : IntKind.i64.wrap 12 = 12 := by decide
  have hv : IntKind.i64.wrap (224 + (c : Int) / 4096) = 224 + (c : Int) / 4096 := by rw [IntWalk.i64_in] <;> omega
  have hu : IntKind.u8.wrap (224 + (c : Int) / 4096) = 224 + (c : Int) / 4096 := by rw [IntWalk.u8_in] <;> omega
  refine wp_region_still_tail 10 (by kernel_rfl) (by kernel_rfl) ?_
  simp only [List.take_succ_cons, List.take_zero, List.drop_succ_cons, List.drop_zero]
  repeat still_step
  refine wpStill_nil ?_
  change wpList _ _ _ _ _ w.drew
  obtain ⟨wd, hwd⟩ : ∃ wd, wd = w.drew := ⟨_, rfl⟩
  have hbd : Below w.heap.size w wd := by rw [hwd]; exact (Below.refl _ _).drew
  have hsd := hbd.size
  rw [← hwd]
  clear hwd cm hw hv hu
  go_wp2_with fail
  go_loopw [5, 6] (fun b i wr => ∃ j : Nat, j ≤ 2 ∧ i = .int .i64 ((j : Int) - 1) ∧ Ow w.heap.size wr b ((encU c).take (3 - j)) ∧ Below w.heap.size w wr) (fun _ i _ => (intOf i + 1).toNat)
  case atStart =>
    refine ⟨2, by omega, by go_num, ?_, hbd.alloc hsd _⟩
    rw [HE.out]
    exact own_bytes wd w.heap.size [by8 (224 + c / 4096)] [_] 1 (by unfold bcells; exact List.cons_eq_cons.2 ⟨bcell_eq (by omega) (by omega), rfl⟩) rfl hsd (by omega)
  case round =>
    obtain ⟨j, hj, rfl, hown, hbel⟩ := hrel
    rw [HE.out] at hown
    have hsw := hbel.size
    by_cases hj2 : j = 2
    · subst hj2
      change Ow w.heap.size wr u5 [by8 (224 + c / 4096)] at hown
      have HS : Hid (∀ (W : World) (x : Int), x = ((128 + c / 64 % 64 : Nat) : Int) → Sl (W.alloc (.cells #[.int .u8 x] 5)) (some ⟨W.heap.size, 0, none⟩) (bcells [by8 (128 + c / 64 % 64)])) := fun W x hx => new_bytes W [_] [_] (by unfold bcells; exact List.cons_eq_cons.2 ⟨bcell_eq (by omega) hx, rfl⟩)
      have HB : Hid (∀ o : Obj, Below w.heap.size w (wr.alloc o)) := fun o => hbel.alloc hsw o
      unfold Ow at hown
      go_wp2_with (refine wpList_app rfl (.tmp 35) (.tmp 39) 22 rfl bytesTy w.heap.size u5 1 (bcells [by8 (224 + c / 4096)]) rfl (hown.alloc _) _ 1 1 (bcells [by8 (128 + c / 64 % 64)]) rfl rfl (HS.out _ _ (by omega)) (bcells_one _) (by omega) (by simp; omega) ?_; intro v1 w1 hown1 hgr1 hbl1)
      have hbel2 := below_app (HB.out _) hgr1 (hown.alloc (.cells #[.int .u8 _] 5)) (Nat.le_refl _) (by simp; omega)
      go_roundw
      case rel => exact ⟨1, by omega, by go_num, snoc_own hown1 (by rw [HE.out]; rfl), hbel2⟩
      case measure => simp [intOf]
    by_cases hj1 : j = 1
    · subst hj1
      change Ow w.heap.size wr u5 [by8 (224 + c / 4096), by8 (128 + c / 64 % 64)] at hown
      have HS : Hid (∀ (W : World) (x : Int), x = ((128 + c % 64 : Nat) : Int) → Sl (W.alloc (.cells #[.int .u8 x] 5)) (some ⟨W.heap.size, 0, none⟩) (bcells [by8 (128 + c % 64)])) := fun W x hx => new_bytes W [_] [_] (by unfold bcells; exact List.cons_eq_cons.2 ⟨bcell_eq (by omega) hx, rfl⟩)
      have HB : Hid (∀ o : Obj, Below w.heap.size w (wr.alloc o)) := fun o => hbel.alloc hsw o
      unfold Ow at hown
      go_wp2_with (refine wpList_app rfl (.tmp 35) (.tmp 39) 22 rfl bytesTy w.heap.size u5 2 (bcells [by8 (224 + c / 4096), by8 (128 + c / 64 % 64)]) rfl (hown.alloc _) _ 1 1 (bcells [by8 (128 + c % 64)]) rfl rfl (HS.out _ _ (by omega)) (bcells_one _) (by omega) (by simp; omega) ?_; intro v1 w1 hown1 hgr1 hbl1)
      have hbel2 := below_app (HB.out _) hgr1 (hown.alloc (.cells #[.int .u8 _] 5)) (Nat.le_refl _) (by simp; omega)
      go_roundw
      case rel => exact ⟨0, by omega, by go_num, snoc_own hown1 (by rw [HE.out]; rfl), hbel2⟩
      case measure => simp [intOf]
    obtain rfl : j = 0 := by omega
    change Ow w.heap.size wr u5 [by8 (224 + c / 4096), by8 (128 + c / 64 % 64), by8 (128 + c % 64)] at hown
    go_wp2_with fail
    go_ret2
    exact ⟨u5, rfl, by rw [HE.out]; exact hown, hbel⟩
set_option maxRecDepth 1000000 in
set_option maxHeartbeats 1000000 in
theorem encode_ok3 (c : Nat) (w : World) (hT : Tabs w) (hr : rightC (c : Int)) (h : 65536 ≤ c) : Calls Tryd.prog 38 #[.int .i64 (c : Int)] w (EncP c w) := by
  have hd := decide_eq_true hr
  have HF := Lib.hid (fol4 h)
  have HE := Lib.hid (enc4 h)
  have hlt := rightC_lt hr
  have h0 : ∀ o : Obj, Below w.heap.size w (w.alloc o) := fun o => (Below.refl _ _).alloc (Nat.le_refl _) o
  have H0 := Lib.hid h0
  have HT := Lib.hid (following_any c w hT)
  have cm : w.cell? ⟨0, 10, none⟩ = some (.int .i64 240) := hT.shp 3 1 _ (by decide) (by decide) rfl
  clear h0 hr hT
  go_enter Tryd.func38, Tryd.ntmps38
  go_wp2_with fail
  refine (right_any c _).mono ?_
  rintro e w1 ⟨rfl, rfl⟩
  rw [hd]
  clear hd
  go_wp2_with fail
  refine HT.out.mono ?_
  rintro e w1 ⟨rfl, rfl⟩
  rw [HF.out]
  go_wp2_with fail
  have hw : IntKind.i64.wrap 18 = 18 := by decide
  have hv : IntKind.i64.wrap (240 + (c : Int) / 262144) = 240 + (c : Int) / 262144 := by rw [IntWalk.i64_in] <;> omega
  have hu : IntKind.u8.wrap (240 + (c : Int) / 262144) = 240 + (c : Int) / 262144 := by rw [IntWalk.u8_in] <;> omega
  refine wp_region_still_tail 10 (by kernel_rfl) (by kernel_rfl) ?_
  simp only [List.take_succ_cons, List.take_zero, List.drop_succ_cons, List.drop_zero]
  repeat still_step
  refine wpStill_nil ?_
  change wpList _ _ _ _ _ w.drew
  obtain ⟨wd, hwd⟩ : ∃ wd, wd = w.drew := ⟨_, rfl⟩
  have hbd : Below w.heap.size w wd := by rw [hwd]; exact (Below.refl _ _).drew
  have hsd := hbd.size
  rw [← hwd]
  clear hwd cm hw hv hu
  go_wp2_with fail
  go_loopw [5, 6] (fun b i wr => ∃ j : Nat, j ≤ 3 ∧ i = .int .i64 ((j : Int) - 1) ∧ Ow w.heap.size wr b ((encU c).take (4 - j)) ∧ Below w.heap.size w wr) (fun _ i _ => (intOf i + 1).toNat)
  case atStart =>
    refine ⟨3, by omega, by go_num, ?_, hbd.alloc hsd _⟩
    rw [HE.out]
    exact own_bytes wd w.heap.size [by8 (240 + c / 262144)] [_] 1 (by unfold bcells; exact List.cons_eq_cons.2 ⟨bcell_eq (by omega) (by omega), rfl⟩) rfl hsd (by omega)
  case round =>
    obtain ⟨j, hj, rfl, hown, hbel⟩ := hrel
    rw [HE.out] at hown
    have hsw := hbel.size
    by_cases hj3 : j = 3
    · subst hj3
      change Ow w.heap.size wr u5 [by8 (240 + c / 262144)] at hown
      have HS : Hid (∀ (W : World) (x : Int), x = ((128 + c / 4096 % 64 : Nat) : Int) → Sl (W.alloc (.cells #[.int .u8 x] 5)) (some ⟨W.heap.size, 0, none⟩) (bcells [by8 (128 + c / 4096 % 64)])) := fun W x hx => new_bytes W [_] [_] (by unfold bcells; exact List.cons_eq_cons.2 ⟨bcell_eq (by omega) hx, rfl⟩)
      have HB : Hid (∀ o : Obj, Below w.heap.size w (wr.alloc o)) := fun o => hbel.alloc hsw o
      unfold Ow at hown
      go_wp2_with (refine wpList_app rfl (.tmp 35) (.tmp 39) 22 rfl bytesTy w.heap.size u5 1 (bcells [by8 (240 + c / 262144)]) rfl (hown.alloc _) _ 1 1 (bcells [by8 (128 + c / 4096 % 64)]) rfl rfl (HS.out _ _ (by omega)) (bcells_one _) (by omega) (by simp; omega) ?_; intro v1 w1 hown1 hgr1 hbl1)
      have hbel2 := below_app (HB.out _) hgr1 (hown.alloc (.cells #[.int .u8 _] 5)) (Nat.le_refl _) (by simp; omega)
      go_roundw
      case rel => exact ⟨2, by omega, by go_num, snoc_own hown1 (by rw [HE.out]; rfl), hbel2⟩
      case measure => simp [intOf]
    by_cases hj2 : j = 2
    · subst hj2
      change Ow w.heap.size wr u5 [by8 (240 + c / 262144), by8 (128 + c / 4096 % 64)] at hown
      have HS : Hid (∀ (W : World) (x : Int), x = ((128 + c / 64 % 64 : Nat) : Int) → Sl (W.alloc (.cells #[.int .u8 x] 5)) (some ⟨W.heap.size, 0, none⟩) (bcells [by8 (128 + c / 64 % 64)])) := fun W x hx => new_bytes W [_] [_] (by unfold bcells; exact List.cons_eq_cons.2 ⟨bcell_eq (by omega) hx, rfl⟩)
      have HB : Hid (∀ o : Obj, Below w.heap.size w (wr.alloc o)) := fun o => hbel.alloc hsw o
      unfold Ow at hown
      go_wp2_with (refine wpList_app rfl (.tmp 35) (.tmp 39) 22 rfl bytesTy w.heap.size u5 2 (bcells [by8 (240 + c / 262144), by8 (128 + c / 4096 % 64)]) rfl (hown.alloc _) _ 1 1 (bcells [by8 (128 + c / 64 % 64)]) rfl rfl (HS.out _ _ (by omega)) (bcells_one _) (by omega) (by simp; omega) ?_; intro v1 w1 hown1 hgr1 hbl1)
      have hbel2 := below_app (HB.out _) hgr1 (hown.alloc (.cells #[.int .u8 _] 5)) (Nat.le_refl _) (by simp; omega)
      go_roundw
      case rel => exact ⟨1, by omega, by go_num, snoc_own hown1 (by rw [HE.out]; rfl), hbel2⟩
      case measure => simp [intOf]
    by_cases hj1 : j = 1
    · subst hj1
      change Ow w.heap.size wr u5 [by8 (240 + c / 262144), by8 (128 + c / 4096 % 64), by8 (128 + c / 64 % 64)] at hown
      have HS : Hid (∀ (W : World) (x : Int), x = ((128 + c % 64 : Nat) : Int) → Sl (W.alloc (.cells #[.int .u8 x] 5)) (some ⟨W.heap.size, 0, none⟩) (bcells [by8 (128 + c % 64)])) := fun W x hx => new_bytes W [_] [_] (by unfold bcells; exact List.cons_eq_cons.2 ⟨bcell_eq (by omega) hx, rfl⟩)
      have HB : Hid (∀ o : Obj, Below w.heap.size w (wr.alloc o)) := fun o => hbel.alloc hsw o
      unfold Ow at hown
      go_wp2_with (refine wpList_app rfl (.tmp 35) (.tmp 39) 22 rfl bytesTy w.heap.size u5 3 (bcells [by8 (240 + c / 262144), by8 (128 + c / 4096 % 64), by8 (128 + c / 64 % 64)]) rfl (hown.alloc _) _ 1 1 (bcells [by8 (128 + c % 64)]) rfl rfl (HS.out _ _ (by omega)) (bcells_one _) (by omega) (by simp; omega) ?_; intro v1 w1 hown1 hgr1 hbl1)
      have hbel2 := below_app (HB.out _) hgr1 (hown.alloc (.cells #[.int .u8 _] 5)) (Nat.le_refl _) (by simp; omega)
      go_roundw
      case rel => exact ⟨0, by omega, by go_num, snoc_own hown1 (by rw [HE.out]; rfl), hbel2⟩
      case measure => simp [intOf]
    obtain rfl : j = 0 := by omega
    change Ow w.heap.size wr u5 [by8 (240 + c / 262144), by8 (128 + c / 4096 % 64), by8 (128 + c / 64 % 64), by8 (128 + c % 64)] at hown
    go_wp2_with fail
    go_ret2
    exact ⟨u5, rfl, by rw [HE.out]; exact hown, hbel⟩
theorem encode_ok (c : Nat) (w : World) (hT : Tabs w) (hr : rightC (c : Int)) : Calls Tryd.prog 38 #[.int .i64 (c : Int)] w (EncP c w) := by
  rcases sizes c with h | ⟨h, h'⟩ | ⟨h, h'⟩ | h
  · exact encode_ok0 c w hT hr h
  · exact encode_ok1 c w hT hr h h'
  · exact encode_ok2 c w hT hr h h'
  · exact encode_ok3 c w hT hr h
end Go.Proofs.YtpnnebnjkinndaaDoor.UtfW
