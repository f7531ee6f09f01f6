/- code: text, its closure, blocked, Done. -/
import Derived.Test.YtpbldkfoldjocaaCd
namespace Go.Proofs.Ytpbldkfoldjocaa
open Go.RowKit
open Cod
theorem rnum_eq {bs : List UInt8} {v n x : Nat} (h : numS bs = (v, n, x)) (c : Int) (hc : (x : Int) = c) (B : Option Addr) (l d : Nat) (w : World) (hl : bs.length = l) (hb : Sl w B (bcells bs)) (h47 : l ≤ 9223372036854775807) :
    Calls Try.prog 24 #[.slice B l d] w fun e w' => e = .returned (.tuple #[.int .i64 v, .int .i64 n, .int .i64 c]) ∧ w = w' :=
  (rnum_any B l d bs w hl hb h47).mono fun e w' ⟨h1, h2⟩ => ⟨by rw [h1, h, ← hc], h2⟩
set_option maxRecDepth 100000 in
set_option maxHeartbeats 1000000 in
theorem rtext_any (B : Option Addr) (l d : Nat) (bs : List UInt8) (most : Int) (w : World) (hl : bs.length = l) (hb : Sl w B (bcells bs)) (hld : l ≤ d) (h47 : l ≤ 4611686018427387904) :
    Calls Try.prog 27 #[.slice B l d, .int .i64 most] w fun e w' => e = .returned (.tuple #[.string ⟨(textS bs most).1.toArray⟩, .int .i64 (textS bs most).2.1, .int .i64 (textS bs most).2.2]) ∧ w = w' := by
  have HL : Hid (bs.length = l) := hl
  clear hl
  have hle := num_le bs
  rw [HL.out] at hle
  obtain ⟨v, n, x, hx⟩ : ∃ v n x, numS bs = (v, n, x) := ⟨_, _, _, rfl⟩
  have HX : Hid (numS bs = (v, n, x)) := hx
  rw [hx] at hle
  simp only at hle
  obtain ⟨hv, hn, hx3⟩ := hle
  clear hx
  rcases hx3 with rfl | rfl | rfl
  · by_cases h1 : most < (v : Int)
    · have HR : Hid (textS bs most = ([], 0, 2)) := by unfold Hid textS; rw [HX.out]; simp [h1]
      go_enter Try.func27, Try.ntmps27
      go_wp2_with fail
      refine (rnum_eq HX.out 0 rfl B l d _ HL.out hb (by omega)).mono ?_
      rintro e w1 ⟨rfl, rfl⟩
      go_wp2_with fail
      go_ret3
      exact ⟨by rw [HR.out]; rfl, rfl⟩
    · by_cases h2 : (l : Int) - (n : Int) < (v : Int)
      · have HR : Hid (textS bs most = ([], 0, 4)) := by unfold Hid textS; rw [HX.out, HL.out]; simp [h1]; omega
        go_enter Try.func27, Try.ntmps27
        go_wp2_with fail
        refine (rnum_eq HX.out 0 rfl B l d _ HL.out hb (by omega)).mono ?_
        rintro e w1 ⟨rfl, rfl⟩
        go_wp2_with fail
        go_ret3
        exact ⟨by rw [HR.out]; rfl, rfl⟩
      · have HR : Hid (textS bs most = ((bs.drop n).take v, n + v, 0)) := by
          unfold Hid textS; rw [HX.out, HL.out]; simp only; rw [if_neg (by simp), if_neg h1, if_neg (by omega)]
        obtain ⟨B', hB'⟩ : ∃ B', B' = (if d = n then B else B.map (·.add n)) := ⟨_, rfl⟩
        have hp := fun w' => run_part (P := Try.prog) bytesTy w' B l d n (n + v) .i64 .i64 (by omega) (by omega)
        have hsl : Sl w B' (bcells ((bs.drop n).take v)) := by
          rw [← bcells_take, ← bcells_drop, hB']
          exact (hb.cut n d (by rw [bcells_len, HL.out]; exact hld)).take v
        rw [← hB'] at hp
        have hlen : ((bs.drop n).take v).length = v := by rw [List.length_take, List.length_drop, HL.out]; omega
        have hstr := run_str (P := Try.prog) w 23 9 5 underBytes underU8 underStr B' _ v (d - n) hlen hsl
        rw [Nat.add_sub_cancel_left, Int.natCast_add] at hp
        clear hB' hsl hlen
        generalize (bs.drop n).take v = S at *
        go_enter Try.func27, Try.ntmps27
        go_wp2_with fail
        refine (rnum_eq HX.out 0 rfl B l d _ HL.out hb (by omega)).mono ?_
        rintro e w1 ⟨rfl, rfl⟩
        go_wp2_with fail
        go_ret3
        exact ⟨by rw [HR.out]; rfl, rfl⟩
  · have HR : Hid (textS bs most = ([], 0, 2)) := by unfold Hid textS; rw [HX.out]; simp
    go_enter Try.func27, Try.ntmps27
    go_wp2_with fail
    refine (rnum_eq HX.out 2 rfl B l d _ HL.out hb (by omega)).mono ?_
    rintro e w1 ⟨rfl, rfl⟩
    go_wp2_with fail
    go_ret3
    exact ⟨by rw [HR.out]; rfl, rfl⟩
  · have HR : Hid (textS bs most = ([], 0, 4)) := by unfold Hid textS; rw [HX.out]; simp
    go_enter Try.func27, Try.ntmps27
    go_wp2_with fail
    refine (rnum_eq HX.out 4 rfl B l d _ HL.out hb (by omega)).mono ?_
    rintro e w1 ⟨rfl, rfl⟩
    go_wp2_with fail
    go_ret3
    exact ⟨by rw [HR.out]; rfl, rfl⟩
set_option maxHeartbeats 400000 in
theorem rtext1_any (B : Option Addr) (l d : Nat) (bs : List UInt8) (most : Int) (g : Nat) (w : World) (hl : bs.length = l) (hb : Sl w B (bcells bs)) (hld : l ≤ d) (h47 : l ≤ 4611686018427387904) (hg : w.cell? ⟨g, 0, none⟩ = some (.int .i64 most)) :
    Calls Try.prog 26 #[.slice B l d, .pointer (some ⟨g, 0, none⟩)] w fun e w' => e = .returned (.tuple #[.string ⟨(textS bs most).1.toArray⟩, .int .i64 (textS bs most).2.1, .int .i64 (textS bs most).2.2]) ∧ w = w' := by
  have HL : Hid (bs.length = l) := hl
  clear hl
  go_enter Try.func26, Try.ntmps26
  go_wp2_with fail
  refine (rtext_any B l d bs most _ HL.out hb hld h47).mono ?_
  rintro e w1 ⟨rfl, rfl⟩
  go_wp2_with fail
  go_ret3
  exact ⟨rfl, rfl⟩
/-- A reader, as cells. -/
def rdc (B : Value) (a e : Int) : List Value := [B, .int .i64 a, .int .i64 e]
theorem rd_len (B : Value) (a e : Int) : (rdc B a e).length = 3 := rfl
theorem ty36 : AggTy Try.prog 36 3 := ⟨by kernel_rfl, by kernel_rfl⟩
/-- Why nothing can be read. -/
def blkS (l : Nat) (a e : Int) : Int := if e = 0 then (if a < 0 ∨ (l : Int) < a then 1 else 0) else e
set_option maxHeartbeats 1000000 in
theorem blocked_any (B : Option Addr) (l d : Nat) (a e0 : Int) (w : World) (_hl : l ≤ 9223372036854775807) :
    Calls Try.prog 31 #[.agg (rdc (.slice B l d) a e0).toArray] w fun e w' => e = .returned (.int .i64 (blkS l a e0)) ∧ Below w.heap.size w w' := by
  have h0 : At (w.alloc (.cells (rdc (.slice B l d) a e0).toArray 36)) w.heap.size 36 (rdc (.slice B l d) a e0) := At.new_ w _ 36 _ rfl
  have hb0 : Below w.heap.size w (w.alloc (.cells (rdc (.slice B l d) a e0).toArray 36)) := (Below.refl _ _).alloc (Nat.le_refl _) _
  have c0 : (w.alloc (.cells (rdc (.slice B l d) a e0).toArray 36)).cell? ⟨w.heap.size, 0, none⟩ = some (.slice B l d) := (h0.cell 0).trans rfl
  have c1 : (w.alloc (.cells (rdc (.slice B l d) a e0).toArray 36)).cell? ⟨w.heap.size, 1, none⟩ = some (.int .i64 a) := (h0.cell 1).trans rfl
  have c2 : (w.alloc (.cells (rdc (.slice B l d) a e0).toArray 36)).cell? ⟨w.heap.size, 2, none⟩ = some (.int .i64 e0) := (h0.cell 2).trans rfl
  have HB : Hid (Below w.heap.size w (w.alloc (.cells (rdc (.slice B l d) a e0).toArray 36))) := hb0
  clear h0 hb0
  by_cases he : e0 = 0
  · subst he
    by_cases h1 : a < 0
    · have HR : Hid (blkS l a 0 = 1) := by unfold Hid blkS; simp [h1]
      go_enter Try.func31, Try.ntmps31
      go_wp2_with fail
      go_ret
      exact ⟨by rw [HR.out]; rfl, HB.out⟩
    · by_cases h2 : (l : Int) < a
      · have HR : Hid (blkS l a 0 = 1) := by unfold Hid blkS; simp [h2]
        go_enter Try.func31, Try.ntmps31
        go_wp2_with fail
        go_ret
        exact ⟨by rw [HR.out]; rfl, HB.out⟩
      · have HR : Hid (blkS l a 0 = 0) := by unfold Hid blkS; simp; omega
        go_enter Try.func31, Try.ntmps31
        go_wp2_with fail
        go_ret
        exact ⟨by rw [HR.out]; rfl, HB.out⟩
  · have HR : Hid (blkS l a e0 = e0) := by unfold Hid blkS; simp [he]
    have he' : (e0 == 0) = false := by simp [he]
    go_enter Try.func31, Try.ntmps31
    go_wp2_with fail
    go_ret
    exact ⟨by rw [HR.out]; rfl, HB.out⟩
/-- What Done tells. -/
def doneS (l : Nat) (a e : Int) : Int := if blkS l a e = 0 then (if a < (l : Int) then 2 else 0) else blkS l a e
set_option maxHeartbeats 1000000 in
theorem done_any (B : Option Addr) (l d : Nat) (a e0 : Int) (w : World) (hl : l ≤ 9223372036854775807) :
    Calls Try.prog 19 #[.agg (rdc (.slice B l d) a e0).toArray] w fun e w' => e = .returned (.int .i64 (doneS l a e0)) ∧ Below w.heap.size w w' := by
  have h0 : At (w.alloc (.cells (rdc (.slice B l d) a e0).toArray 36)) w.heap.size 36 (rdc (.slice B l d) a e0) := At.new_ w _ 36 _ rfl
  have hb0 : Below w.heap.size w (w.alloc (.cells (rdc (.slice B l d) a e0).toArray 36)) := (Below.refl _ _).alloc (Nat.le_refl _) _
  go_enter Try.func19, Try.ntmps19
  go_wp2_with (refine wpList_loadA rfl 36 (.tmp 1) rfl ty36 w.heap.size 0 rfl 36 _ h0 (rdc (.slice B l d) a e0) rfl (all_at _) ?_)
  refine (blocked_any B l d a e0 _ hl).mono ?_
  rintro e w1 ⟨rfl, hb1⟩
  have h1 := h0.below hb1 h0.lt
  have hbel := hb0.trans (hb1.mono (by simp))
  have c0 : w1.cell? ⟨w.heap.size, 0, none⟩ = some (.slice B l d) := (h1.cell 0).trans rfl
  have c1 : w1.cell? ⟨w.heap.size, 1, none⟩ = some (.int .i64 a) := (h1.cell 1).trans rfl
  have HB : Hid (Below w.heap.size w w1) := hbel
  clear h0 hb0 h1 hb1 hbel
  by_cases hz : blkS l a e0 = 0
  · have HZ : Hid (blkS l a e0 = 0) := hz
    have hq : (blkS l a e0 == 0) = true := by simp [hz]
    clear hz
    by_cases ha : a < (l : Int)
    · have HR : Hid (doneS l a e0 = 2) := by unfold Hid doneS; simp [HZ.out, ha]
      go_wp2_with fail
      go_ret
      exact ⟨by rw [HR.out]; rfl, HB.out⟩
    · have HR : Hid (doneS l a e0 = blkS l a e0) := by unfold Hid doneS; simp [HZ.out, ha]
      go_wp2_with fail
      go_ret
      exact ⟨by rw [HR.out]; rfl, HB.out⟩
  · have HR : Hid (doneS l a e0 = blkS l a e0) := by unfold Hid doneS; simp [hz]
    have hq : (blkS l a e0 == 0) = false := by simp [hz]
    clear hz
    go_wp2_with fail
    go_ret
    exact ⟨by rw [HR.out]; rfl, HB.out⟩
end Go.Proofs.Ytpbldkfoldjocaa
