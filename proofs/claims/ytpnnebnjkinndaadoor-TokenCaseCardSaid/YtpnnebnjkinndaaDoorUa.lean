/- utf: the tables; isOf, Letter, Digit, Small. -/
import Derived.Test.YtpnnebnjkinndaaDoorRows
import Derived.Test.YtpnnebnjkinndaaDoorUs
import Derived.Test.YtpnnebnjkinndaaDoorTri
import Derived.Lib.Hide
namespace Go.Proofs.YtpnnebnjkinndaaDoor.UtfW
open Go.RowKit
def classT : List I3 := [(48, 57, 2), (65, 90, 1), (97, 122, 1), (192, 214, 1), (216, 246, 1), (248, 255, 1), (913, 929, 1), (931, 937, 1), (945, 969, 1), (1024, 1119, 1)]
def capT : List I3 := [(65, 90, 32), (192, 214, 32), (216, 222, 32), (913, 929, 32), (931, 937, 32), (1024, 1039, 80), (1040, 1071, 32)]
def shapeT : List I3 := [(0, 0, 128), (128, 192, 224), (2048, 224, 240), (65536, 240, 248)]
/-- The three tables. -/
structure Tabs (w : World) : Prop where
  cls : Tri w 3 classT
  cap : Tri w 1 capT
  shp : Tri w 0 shapeT
theorem Tabs.below {B : Nat} {w w' : World} (h : Tabs w) (hb : Below B w w') (hB : 3 < B ∧ 1 < B ∧ 0 < B) : Tabs w' := ⟨h.cls.below hb hB.1, h.cap.below hb hB.2.1, h.shp.below hb hB.2.2⟩
theorem Tabs.pos {w : World} (h : Tabs w) : 3 < w.heap.size ∧ 1 < w.heap.size ∧ 0 < w.heap.size := ⟨h.cls.pos (by decide), h.cap.pos (by decide), h.shp.pos (by decide)⟩
theorem Tabs.next {w w' : World} (h : Tabs w) (hb : Below w.heap.size w w') : Tabs w' := h.below hb h.pos
def hit (zs : List I3) (c : Int) : Option I3 := zs.find? fun z => decide (z.1 ≤ c) && decide (c ≤ z.2.1)
def clsOf (c cls : Int) : Bool := match hit classT c with | some z => decide (z.2.2 = cls) | none => false
def capOf (c : Int) : Int := match hit capT c with | some z => c + z.2.2 | none => c
theorem drop_row (zs : List I3) (k : Nat) (h : k < zs.length) : zs.drop k = row3 zs k :: zs.drop (k + 1) := by
  rw [List.drop_eq_getElem_cons h]; simp [row3, h]
theorem hit_yes (zs : List I3) (k : Nat) (c : Int) (h : k < zs.length) (h1 : (row3 zs k).1 ≤ c) (h2 : c ≤ (row3 zs k).2.1) : hit (zs.drop k) c = some (row3 zs k) := by
  rw [drop_row zs k h]; simp [hit, h1, h2]
theorem hit_no (zs : List I3) (k : Nat) (c : Int) (h : k < zs.length) (h1 : ¬ ((row3 zs k).1 ≤ c ∧ c ≤ (row3 zs k).2.1)) : hit (zs.drop k) c = hit (zs.drop (k + 1)) c := by
  rw [drop_row zs k h]
  unfold hit
  rw [List.find?_cons_of_neg]
  simpa using h1
theorem hit_mem {zs : List I3} {c : Int} {z : I3} (h : hit zs c = some z) : z ∈ zs := List.mem_of_find?_eq_some h
def clsL (c cls : Int) : List I3 → Bool
  | [] => false
  | z :: zs => if z.1 ≤ c ∧ c ≤ z.2.1 then decide (z.2.2 = cls) else clsL c cls zs
theorem clsL_eq (c cls : Int) : ∀ zs : List I3, (match hit zs c with | some z => decide (z.2.2 = cls) | none => false) = clsL c cls zs
  | [] => rfl
  | z :: zs => by
    unfold clsL
    have ih := clsL_eq c cls zs
    unfold hit at ih ⊢
    rw [List.find?_cons]
    by_cases h : z.1 ≤ c ∧ c ≤ z.2.1
    · rw [if_pos h, show (decide (z.1 ≤ c) && decide (c ≤ z.2.1)) = true by simp [h]]
    · rw [if_neg h, show (decide (z.1 ≤ c) && decide (c ≤ z.2.1)) = false by simpa using h]; exact ih
theorem cls_digit (c : Int) : clsOf c 2 = (decide (48 ≤ c) && decide (c ≤ 57)) := by
  unfold clsOf
  rw [clsL_eq]
  simp only [clsL, classT]
  repeat' split
  all_goals (rw [Bool.eq_iff_iff]; simp; try omega)
theorem cls_letter (c : Int) : clsOf c 1 = letterU c := by
  unfold clsOf
  rw [clsL_eq]
  simp only [clsL, classT]
  unfold letterU inR
  repeat' split
  all_goals (rw [Bool.eq_iff_iff]; simp; try omega)
def capL (c : Int) : List I3 → Int
  | [] => c
  | z :: zs => if z.1 ≤ c ∧ c ≤ z.2.1 then c + z.2.2 else capL c zs
theorem capL_eq (c : Int) : ∀ zs : List I3, (match hit zs c with | some z => c + z.2.2 | none => c) = capL c zs
  | [] => rfl
  | z :: zs => by
    unfold capL
    have ih := capL_eq c zs
    unfold hit at ih ⊢
    rw [List.find?_cons]
    by_cases h : z.1 ≤ c ∧ c ≤ z.2.1
    · rw [if_pos h, show (decide (z.1 ≤ c) && decide (c ≤ z.2.1)) = true by simp [h]]
    · rw [if_neg h, show (decide (z.1 ≤ c) && decide (c ≤ z.2.1)) = false by simpa using h]; exact ih
theorem cap_small (c : Int) : capOf c = smallU c := by
  unfold capOf
  rw [capL_eq]
  simp only [capL, capT]
  unfold smallU inR
  simp only [Bool.and_eq_true, Bool.or_eq_true, decide_eq_true_eq]
  repeat' split
  all_goals omega
theorem tyClasses : AggTy Tryd.prog 80 30 := ⟨by kernel_rfl, by kernel_rfl⟩
theorem tyClass : AggTy Tryd.prog 79 3 := ⟨by kernel_rfl, by kernel_rfl⟩
theorem tyCaps : AggTy Tryd.prog 74 21 := ⟨by kernel_rfl, by kernel_rfl⟩
theorem tyCap : AggTy Tryd.prog 73 3 := ⟨by kernel_rfl, by kernel_rfl⟩
theorem tyShapes : AggTy Tryd.prog 69 12 := ⟨by kernel_rfl, by kernel_rfl⟩
theorem tyShape : AggTy Tryd.prog 68 3 := ⟨by kernel_rfl, by kernel_rfl⟩
theorem undClasses : Tryd.prog.underlying 80 = some (.array 10 79) := by kernel_rfl
theorem undCaps : Tryd.prog.underlying 74 = some (.array 7 73) := by kernel_rfl
theorem undShapes : Tryd.prog.underlying 69 = some (.array 4 68) := by kernel_rfl
theorem t3_one (z : I3) : ∀ v ∈ t3 z, v.oneCell' = true := by
  intro v hv; simp [t3] at hv; rcases hv with rfl | rfl | rfl <;> rfl
/-- The cells of a block that holds one record. -/
theorem rec_cells {w : World} {b : Nat} {t : TypeId} {z : I3} (h : At w b t (t3 z)) : w.cell? ⟨b, 0, none⟩ = some (.int .i64 z.1) ∧ w.cell? ⟨b, 1, none⟩ = some (.int .i64 z.2.1) ∧ w.cell? ⟨b, 2, none⟩ = some (.int .i64 z.2.2) :=
  ⟨h.cell 0, h.cell 1, h.cell 2⟩
theorem ret_bool {a b : Bool} (h : a = b) : Ending.returned (.bool a) = .returned (.bool b) := by rw [h]
set_option maxRecDepth 100000 in
set_option maxHeartbeats 1000000 in
theorem isOf_any (c cls : Int) (w : World) (hT : Tabs w) : Calls Tryd.prog 57 #[.int .i64 c, .int .i64 cls] w fun e w' => e = .returned (.bool (clsOf c cls)) ∧ Below w.heap.size w w' := by
  have HT : Hid (Tri w 3 classT) := hT.cls
  clear hT
  go_enter Tryd.func57, Tryd.ntmps57
  go_wp2_with (refine wpList_loadT rfl 80 (.global 3) rfl tyClasses 3 rfl classT HT.out rfl ?_)
  go_loopw [8] (fun i wr => ∃ k : Nat, k ≤ 10 ∧ i = .int .i64 k ∧ Hid (hit classT c = hit (classT.drop k) c) ∧ Below w.heap.size w wr) (fun i _ => 10 - (intOf i).toNat)
  case atStart => exact ⟨0, by omega, rfl, rfl, Below.refl _ _⟩
  case round =>
    obtain ⟨k, hk, rfl, HK, hbel⟩ := hrel
    by_cases hlt : k < 10
    · have hs := hbel.size
      obtain ⟨z, hz⟩ : ∃ z, z = row3 classT k := ⟨_, rfl⟩
      have HZ : Hid (z = row3 classT k) := hz
      clear hz
      have k1 : At (wr.alloc (.cells (t3 (0, 0, 0)).toArray 79)) wr.heap.size 79 (t3 (0, 0, 0)) := At.new_ wr _ _ _ rfl
      have l1 : Below w.heap.size w (wr.alloc (.cells (t3 (0, 0, 0)).toArray 79)) := hbel.alloc hs _
      have YES : Hid (z.1 ≤ c → c ≤ z.2.1 → clsOf c cls = decide (z.2.2 = cls)) := by
        intro h1 h2
        unfold clsOf
        rw [HK.out, hit_yes classT k c hlt (by rw [← HZ.out]; exact h1) (by rw [← HZ.out]; exact h2), ← HZ.out]
      have NO : Hid (¬ (z.1 ≤ c ∧ c ≤ z.2.1) → hit classT c = hit (classT.drop (k + 1)) c) := by
        intro h1
        rw [HK.out, hit_no classT k c hlt (by rw [← HZ.out]; exact h1)]
      by_cases h1 : z.1 ≤ c
      · by_cases h2 : c ≤ z.2.1
        · have HY := Lib.hid (YES.out h1 h2)
          clear YES NO
          go_wp2_with (first
            | (refine wpList_idxT rfl 80 79 (.tmp 7) (.tmp 8) rfl 10 undClasses tyClass classT rfl .i64 k rfl hlt rfl ?_; rw [← HZ.out])
            | (refine wpList_storeB rfl rfl 79 (.tmp 6) (.tmp 10) rfl tyClass wr.heap.size rfl (t3 z) rfl 79 _ k1 rfl rfl (t3_one _) ?_; intro x1 kx1 ox1; have q1 := ox1.below _ _ l1 hs; obtain ⟨c0, c1, c2⟩ := rec_cells kx1))
          go_ret
          exact ⟨by rw [HY.out]; rfl, q1⟩
        · have HN := Lib.hid (NO.out (by omega))
          clear YES NO
          go_wp2_with (first
            | (refine wpList_idxT rfl 80 79 (.tmp 7) (.tmp 8) rfl 10 undClasses tyClass classT rfl .i64 k rfl hlt rfl ?_; rw [← HZ.out])
            | (refine wpList_storeB rfl rfl 79 (.tmp 6) (.tmp 10) rfl tyClass wr.heap.size rfl (t3 z) rfl 79 _ k1 rfl rfl (t3_one _) ?_; intro x1 kx1 ox1; have q1 := ox1.below _ _ l1 hs; obtain ⟨c0, c1, c2⟩ := rec_cells kx1))
          go_roundw
          case rel => exact ⟨k + 1, by omega, by go_num, HN, q1⟩
          case measure => simp [intOf]; omega
      · have HN := Lib.hid (NO.out (by omega))
        clear YES NO
        go_wp2_with (first
          | (refine wpList_idxT rfl 80 79 (.tmp 7) (.tmp 8) rfl 10 undClasses tyClass classT rfl .i64 k rfl hlt rfl ?_; rw [← HZ.out])
          | (refine wpList_storeB rfl rfl 79 (.tmp 6) (.tmp 10) rfl tyClass wr.heap.size rfl (t3 z) rfl 79 _ k1 rfl rfl (t3_one _) ?_; intro x1 kx1 ox1; have q1 := ox1.below _ _ l1 hs; obtain ⟨c0, c1, c2⟩ := rec_cells kx1))
        go_roundw
        case rel => exact ⟨k + 1, by omega, by go_num, HN, q1⟩
        case measure => simp [intOf]; omega
    · have HN : Hid (clsOf c cls = false) := by
        unfold Hid clsOf
        rw [HK.out, show k = 10 by omega]; rfl
      go_wp2_with fail
      go_ret
      exact ⟨by rw [HN.out]; rfl, hbel⟩
end Go.Proofs.YtpnnebnjkinndaaDoor.UtfW
