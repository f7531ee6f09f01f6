/- The law CodeOnly. -/
import Derived.Test.YtpbldkfoldjocaaCk
namespace Go.Proofs.Ytpbldkfoldjocaa
open Go.RowKit
open Cod
/-- 's[:h]' of a slice. -/
theorem run_to {P : Program} {t e : TypeId} {z : Value} {by_ : Nat} (E : ElemTy P t e z by_) (w : World) (A : Option Addr) (n c h : Nat) (jk : IntKind) (hh : h ≤ c) :
    (Instr.slice t (.slice A n c) none (some (.int jk (h : Int))) none).run P w = .ok (.slice A h c) w := by
  simp [Instr.slice, run_underlying E.ht, Instr.sliceBounds, E.size, run_sliceBound w jk (h : Int) c _ (by omega) (by omega)]
  intro _
  cases A <;> simp [Addr.add]
theorem readList0 (B : Option Addr) (l d : Nat) (bs : List UInt8) (many most : Int) (w : World) (hl : bs.length = l) (hb : Sl w B (bcells bs)) (hld : l ≤ d) (hl40 : l ≤ 1099511627776) (tl : List (List UInt8)) (n x : Nat) (hX : listS bs many most = (tl, n, x)) :
    Calls Try.prog 17 #[.agg (rdc (.slice B l d) 0 0).toArray, .int .i64 many, .int .i64 most] w (RDLP bs n x tl w) := by
  have h := readList_ok B l d bs 0 many most w hl hb hld (by omega) (by omega) hl40 tl n x (by rw [List.drop_zero]; exact hX)
  rw [show ((0 : Nat) : Int) + (n : Int) = n by omega] at h
  exact h
theorem sbytes_nil {ss : List ByteArray} (h : sbytes ss = []) : ss = [] := by
  cases ss with
  | nil => rfl
  | cons s l => simp [sbytes] at h
theorem rem_fact (cut : Int) (n : Nat) (h : 1 ≤ n) (hn : n ≤ 3000) : ∃ r : Nat, r < n ∧ wrap64 ((IntKind.u64.wrap cut).tmod (n : Int)) = (r : Int) := by
  have h0 : 0 ≤ IntKind.u64.wrap cut := by
    simp only [IntKind.wrap, IntKind.bits, IntKind.signed]
    exact Int.emod_nonneg _ (by decide)
  have h1 : (IntKind.u64.wrap cut).tmod (n : Int) = IntKind.u64.wrap cut % (n : Int) := Int.tmod_eq_emod_of_nonneg h0
  have h2 := Int.emod_nonneg (IntKind.u64.wrap cut) (show (n : Int) ≠ 0 by omega)
  have h3 := Int.emod_lt_of_pos (IntKind.u64.wrap cut) (show (0 : Int) < (n : Int) by omega)
  rw [h1, IntWalk.wrap64_in _ ⟨by omega, by omega⟩]
  exact ⟨(IntKind.u64.wrap cut % (n : Int)).toNat, by omega, by omega⟩
set_option maxRecDepth 100000 in
set_option maxHeartbeats 4000000 in
theorem lawOnly (B : Option Addr) (l d : Nat) (bs : List UInt8) (cut : Int) (w : World) (hl : bs.length = l) (hb : Sl w B (bcells bs)) (hld : l ≤ d) :
    Calls Try.prog 5 #[.slice B l d, .int .i64 cut] w fun e w' => e = .returned (.bool true) ∧ Below w.heap.size w w' := by
  have HL : Hid (bs.length = l) := hl
  clear hl
  by_cases hbig : 3000 < l
  · go_enter Try.func5, Try.ntmps5
    go_wp2_with fail
    refine (knows_any _).mono ?_
    rintro e w1 ⟨rfl, hb1⟩
    go_wp2_with fail
    go_ret
    exact ⟨rfl, hb1⟩
  · obtain ⟨tl, n, x, hX⟩ : ∃ tl n x, listS bs 50 1000 = (tl, n, x) := ⟨_, _, _, rfl⟩
    have HX : Hid (listS bs 50 1000 = (tl, n, x)) := hX
    by_cases hx : x = 0
    · subst hx
      obtain ⟨t1, t2, t3, t4, t5, t6⟩ := list_ok hX
      rw [HL.out] at t5
      have HT : Hid (bs.take n = encL tl) := t6
      have HTL : Hid (n = (encL tl).length) := t3
      clear t6 t3 t2 hX
      go_enter Try.func5, Try.ntmps5
      go_wp2_with fail
      refine (readList0 B l d bs 50 1000 _ HL.out hb hld (by omega) tl n 0 HX.out).mono ?_
      rintro e w1 ⟨A1, c1, V1, ss, rfl, hsl1, hlc1, _, _, hos, htl, hb1⟩
      obtain ⟨A2, c2, rfl, hsl2, hlc2, _⟩ := hos.slice
      have HSS : Hid (sbytes ss = tl) := htl
      have k1 : At (w1.alloc (.cells (rdc (.slice none 0 0) 0 0).toArray 36)) w1.heap.size 36 (rdc (.slice none 0 0) 0 0) := At.new_ w1 _ 36 _ rfl
      have l1 : Below w1.heap.size w1 (w1.alloc (.cells (rdc (.slice none 0 0) 0 0).toArray 36)) := (Below.refl _ _).alloc (Nat.le_refl _) _
      rw [HL.out]
      clear hsl1 hlc1 htl hos
      go_wp2_with (refine wpList_storeB rfl rfl 36 (.tmp 5) (.tmp 18) rfl ty36 w1.heap.size rfl (rdc (.slice A1 l c1) n 0) rfl 36 _ k1 rfl rfl (rdc_one _ _ _ _ _) ?_; intro x1 kx1 ox1; have q1 := ox1.below _ _ l1 (Nat.le_refl _); obtain ⟨u0, u1, u2, _, _, _⟩ := rd_cells kx1)
      have hA2x := hsl2.below q1
      have hBx := hb.below (hb1.trans (q1.mono hb1.size))
      have hbx := hb1.trans (q1.mono hb1.size)
      have HTK : Hid (bs.take n = encL tl) := HT.out
      have hnl : (encL tl).length = n := HTL.out.symm
      have hBn : Sl x1 B (bcells (encL tl)) := by rw [← HT.out, ← bcells_take]; exact hBx.take n
      have HTN : Hid ((encL tl).length = n) := hnl
      have hto := fun w' => run_to (P := Try.prog) bytesTy w' B l d n .i64 (by omega)
      obtain ⟨S, hS⟩ : ∃ S : ByteArray, S = ⟨(encL tl).toArray⟩ := ⟨_, rfl⟩
      have HS : Hid (S = ⟨(encL tl).toArray⟩) := hS
      have cv1 := run_str (P := Try.prog) x1.drew 23 9 5 underBytes underU8 underStr B (encL tl) n d hnl hBn.drew
      rw [← hS] at cv1
      have hsn : ss.length ≤ 50 := by rw [← sbytes_len, HSS.out]; omega
      have hel : (0 : Nat) + (encL (sbytes ss)).length ≤ 35184372088832 := by rw [HSS.out, hnl]; omega
      clear hnl hS hb q1 k1 l1 ox1 hsl2
      have sx := hbx.size
      have gx := kx1.lt
      have hx1 : decide ((n : Int) < 1) = false := by simp; omega
      have hx2 : decide (n = 0) = false := by simp; omega
      have hx3 : decide ((l : Int) < (n : Int)) = false := by simp; omega
      have hx4 : decide (l < n) = false := by simp; omega
      obtain ⟨r, hrn, hr⟩ := rem_fact cut n t4 (by omega)
      have HRX : Hid (listS (bs.take r) 50 1000 = ([], 0, 4)) := list_cut HX.out hrn
      have HRL : Hid ((bs.take r).length = r) := by unfold Hid; rw [List.length_take, HL.out]; omega
      have hto2 := fun w' => run_to (P := Try.prog) bytesTy w' B l d r .i64 (by omega)
      go_region_law (go_simp; go_at_call 13; refine (list_any none 0 0 [] A2 ss.length c2 ss _ rfl Sl.nil rfl hA2x.drew (by omega) (by omega)).mono ?_; rintro e w3 ⟨V3, rfl, hown3, hb3⟩; rw [List.nil_append, HSS.out] at hown3; obtain ⟨A3, c3, rfl, hsl3, hlc3, _⟩ := hown3.slice; rw [HTN.out]; have cv3 := run_str (P := Try.prog) w3 23 9 5 underBytes underU8 underStr A3 (encL tl) n c3 HTN.out hsl3; have cv4 := run_str (P := Try.prog) w3 23 9 5 underBytes underU8 underStr B (encL tl) n d HTN.out (hBn.drew.below hb3); rw [← HS.out] at cv3 cv4; obtain ⟨y0, y1, y2, _, _, _⟩ := rd_cells (kx1.drew.below hb3 gx))
      all_goals
        have hb3x := hb3.mono (show w.heap.size ≤ x1.drew.heap.size from sx)
        have hbel3 := hbx.drew.trans hb3x
        have hB3 : Sl w3 B (bcells (bs.take r)) := by rw [← bcells_take]; exact (hBx.drew.below hb3).take r
        have s3 := hbel3.size
        clear hto cv1 u0 u1 u2 kx1 hA2x hBn hBx hb3 hb3x hown3 hsl3 hbx
        go_simp
        go_wp2_with fail
        refine (readList0 B r d (bs.take r) 50 1000 _ HRL.out hB3 (by omega) (by omega) [] 0 4 HRX.out).mono ?_
        rintro e w4 ⟨A5, c5, V5, ss5, rfl, _, _, _, _, hos5, htl5, hb4⟩
        obtain ⟨A6, c6, rfl, _⟩ := hos5.slice
        obtain rfl := sbytes_nil htl5
        have hbel4 := hbel3.trans (hb4.mono s3)
        have k4 : At (w4.alloc (.cells (rdc (.slice none 0 0) 0 0).toArray 36)) w4.heap.size 36 (rdc (.slice none 0 0) 0 0) := At.new_ w4 _ 36 _ rfl
        have l4 : Below w4.heap.size w4 (w4.alloc (.cells (rdc (.slice none 0 0) 0 0).toArray 36)) := (Below.refl _ _).alloc (Nat.le_refl _) _
        rw [HRL.out]
        clear cv3 cv4 y0 y1 y2 hos5 htl5 hb4 hB3 hto2 hr
        go_wp2_with (refine wpList_storeB rfl rfl 36 (.tmp 8) (.tmp 68) rfl ty36 w4.heap.size rfl (rdc (.slice A5 r c5) 0 4) rfl 36 _ k4 rfl rfl (rdc_one _ _ _ _ _) ?_; intro x4 kx4 ox4; have q4 := ox4.below _ _ l4 (Nat.le_refl _); obtain ⟨z0, z1, z2, _, _, _⟩ := rd_cells kx4)
        refine (knows_any _).mono ?_
        rintro e w5 ⟨rfl, hb5⟩
        have hbel5 := hbel4.trans (q4.mono hbel4.size)
        have hbel6 := hbel5.trans (hb5.mono hbel5.size)
        clear z0 z1 z2 kx4 ox4 q4
        go_wp2_with fail
        go_ret
        exact ⟨rfl, hbel6⟩
    · have hz := list_zero (b := bs) (many := 50) (most := 1000) (by rw [hX]; exact hx)
      rw [hX] at hz
      obtain ⟨rfl, rfl, hx24⟩ := hz
      simp only at hx24
      clear hX
      have hxne : ((x : Int) != 0) = true := by simp; omega
      go_enter Try.func5, Try.ntmps5
      go_wp2_with fail
      refine (readList0 B l d bs 50 1000 _ HL.out hb hld (by omega) [] 0 x HX.out).mono ?_
      rintro e w1 ⟨A1, c1, V1, ss, rfl, _, _, _, _, hos, htl, hb1⟩
      obtain ⟨A2, c2, rfl, _⟩ := hos.slice
      obtain rfl := sbytes_nil htl
      have k1 : At (w1.alloc (.cells (rdc (.slice none 0 0) 0 0).toArray 36)) w1.heap.size 36 (rdc (.slice none 0 0) 0 0) := At.new_ w1 _ 36 _ rfl
      have l1 : Below w1.heap.size w1 (w1.alloc (.cells (rdc (.slice none 0 0) 0 0).toArray 36)) := (Below.refl _ _).alloc (Nat.le_refl _) _
      rw [HL.out]
      clear htl hos hx hx24
      go_wp2_with (refine wpList_storeB rfl rfl 36 (.tmp 5) (.tmp 18) rfl ty36 w1.heap.size rfl (rdc (.slice A1 l c1) 0 x) rfl 36 _ k1 rfl rfl (rdc_one _ _ _ _ _) ?_; intro x1 kx1 ox1; have q1 := ox1.below _ _ l1 (Nat.le_refl _); obtain ⟨u0, u1, u2, _, _, _⟩ := rd_cells kx1)
      refine (knows_any _).mono ?_
      rintro e w5 ⟨rfl, hb5⟩
      have hbel5 := hb1.trans (q1.mono hb1.size)
      have hbel6 := hbel5.trans (hb5.mono hbel5.size)
      clear u0 u1 u2 kx1 ox1 q1
      go_wp2_with fail
      go_ret
      exact ⟨rfl, hbel6⟩
end Go.Proofs.Ytpbldkfoldjocaa
