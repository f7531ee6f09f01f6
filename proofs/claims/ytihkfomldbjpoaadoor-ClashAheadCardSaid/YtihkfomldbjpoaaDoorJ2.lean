/- Texts of one proof, joined. -/
import Derived.Test.YtihkfomldbjpoaaDoorJ1
namespace Go.Proofs.YtihkfomldbjpoaaDoor.ShaW
open Go.RowKit
open Sha
/-- The table of the rounds lies in its variable. -/
def Tab (w : World) : Prop := ∀ i, i < 64 → w.cell? ⟨0, i, none⟩ = some (.int .u32 (un (K.getD i 0)))
theorem Tab.pos {w : World} (h : Tab w) : 0 < w.heap.size := block_lt_of_cell (h 0 (by omega))
theorem Tab.below {B : Nat} {w w' : World} (h : Tab w) (hb : Below B w w') (hB : 0 < B) : Tab w' := fun i hi => (hb.cell (p := ⟨0, i, none⟩) hB).trans (h i hi)
theorem under28 : Tryd.prog.underlying 104 = some (.array 8 100) := by kernel_rfl
theorem info28 : (Tryd.prog.info? 104).map (·.size) = some 8 := by kernel_rfl
theorem under47 : Tryd.prog.underlying 119 = some (.array 64 5) := by kernel_rfl
theorem info47 : (Tryd.prog.info? 119).map (·.size) = some 64 := by kernel_rfl
attribute [local go_sem] xor_u and_u or_u add_u add_u' sh3 sh10 not_u' u32_uns
set_option maxRecDepth 100000 in
set_option maxHeartbeats 2000000 in
theorem mix_any (s : St) (bs : List UInt8) (w : World) (hl : bs.length = 64) (hT : Tab w) :
    Calls Tryd.prog 103 #[.agg (wcells s.toL).toArray, .agg (bcells bs).toArray] w fun e w' => e = .returned (.agg (wcells (compress s bs).toL).toArray) ∧ Below w.heap.size w w' := by
  have h0 : At (((w.alloc (.cells (wcells s.toL).toArray 104)).alloc (.cells (bcells bs).toArray 119)).alloc (.cells (wcells [0,0,0,0,0,0,0,0]).toArray 104)) w.heap.size 104 (wcells s.toL) := ((At.new_ w _ 104 _ rfl).alloc _).alloc _
  have h1 : At (((w.alloc (.cells (wcells s.toL).toArray 104)).alloc (.cells (bcells bs).toArray 119)).alloc (.cells (wcells [0,0,0,0,0,0,0,0]).toArray 104)) (w.heap.size + 1) 119 (bcells bs) := (At.new_ _ _ 119 _ (by simp)).alloc _
  have h2 : At (((w.alloc (.cells (wcells s.toL).toArray 104)).alloc (.cells (bcells bs).toArray 119)).alloc (.cells (wcells [0,0,0,0,0,0,0,0]).toArray 104)) (w.heap.size + 2) 104 (wcells [0,0,0,0,0,0,0,0]) := At.new_ _ _ 104 _ (by simp)
  have hbel : Below w.heap.size w (((w.alloc (.cells (wcells s.toL).toArray 104)).alloc (.cells (bcells bs).toArray 119)).alloc (.cells (wcells [0,0,0,0,0,0,0,0]).toArray 104)) := (((Below.refl _ _).alloc (Nat.le_refl _) _).alloc (by simp) _).alloc (by simp; omega) _
  have hpos := hT.pos
  go_enter Tryd.func103, Tryd.ntmps103
  go_wp2_with (first
            | (refine wpList_load_row rfl 119 (.tmp 3) rfl (w.heap.size + 1) rfl 119 _ (0, 0) _ h1 under47 rfl (by rw [info47]; simp [bcells_len, hl]) ?_))
  refine (spread_any bs _ hl).mono ?_
  rintro e w1 ⟨rfl, hb1⟩
  have hs3 : (((w.alloc (.cells (wcells s.toL).toArray 104)).alloc (.cells (bcells bs).toArray 119)).alloc (.cells (wcells [0,0,0,0,0,0,0,0]).toArray 104)).heap.size = w.heap.size + 3 := by simp
  have hb1' : Below (w.heap.size + 3) (((w.alloc (.cells (wcells s.toL).toArray 104)).alloc (.cells (bcells bs).toArray 119)).alloc (.cells (wcells [0,0,0,0,0,0,0,0]).toArray 104)) w1 := hs3 ▸ hb1
  have g0 := h0.below hb1' (by omega)
  have g2 := h2.below hb1' (by omega)
  have gbel := hbel.trans (hb1'.mono (by omega : w.heap.size ≤ w.heap.size + 3))
  have gs : w.heap.size + 3 ≤ w1.heap.size := by have := hb1'.size; omega
  clear hb1 hb1' hs3 h0 h1 h2 hbel
  have gz : At (w1.alloc (.cells (wcells (filled [])).toArray 125)) w1.heap.size 125 (wcells (filled [])) := At.new_ _ _ 125 _ rfl
  have k0 : At ((w1.alloc (.cells (wcells (filled [])).toArray 125)).setRow w1.heap.size (wcells (sched bs 48)).toArray) w.heap.size 104 (wcells s.toL) := (g0.alloc _).setRow_far (by omega)
  have k2 : At ((w1.alloc (.cells (wcells (filled [])).toArray 125)).setRow w1.heap.size (wcells (sched bs 48)).toArray) (w.heap.size + 2) 104 (wcells [0,0,0,0,0,0,0,0]) := (g2.alloc _).setRow_far (by omega)
  have k3 : At ((w1.alloc (.cells (wcells (filled [])).toArray 125)).setRow w1.heap.size (wcells (sched bs 48)).toArray) w1.heap.size 125 (wcells (sched bs 48)) := gz.setRow
  have kbel : Below w.heap.size w ((w1.alloc (.cells (wcells (filled [])).toArray 125)).setRow w1.heap.size (wcells (sched bs 48)).toArray) := below_setRow (gbel.alloc (by omega) _) (by omega) _
  go_wp2_with (first
            | (refine wpList_store_whole rfl rfl 125 (.tmp 5) (.tmp 20) rfl w1.heap.size rfl (wcells (sched bs 48)) rfl 125 _ gz (by rw [info57]; simp [wcells_len, sched_len]) (by simp [wcells_len, sched_len, filled]) (wcells_one _) ?_))
  change Code.wp _ _ _ _ ((w1.alloc (.cells (wcells (filled [])).toArray 125)).setRow w1.heap.size (wcells (sched bs 48)).toArray)
  generalize ((w1.alloc (.cells (wcells (filled [])).toArray 125)).setRow w1.heap.size (wcells (sched bs 48)).toArray) = W at *
  clear g0 g2 gbel gz
  generalize w1.heap.size = G at *
  have hTW : Tab W := hT.below kbel hpos
  have c0 : W.cell? ⟨w.heap.size, 0, none⟩ = some (.int .u32 (un s.a)) := (k0.cell 0).trans rfl
  have c1 : W.cell? ⟨w.heap.size, 1, none⟩ = some (.int .u32 (un s.b)) := (k0.cell 1).trans rfl
  have c2 : W.cell? ⟨w.heap.size, 2, none⟩ = some (.int .u32 (un s.c)) := (k0.cell 2).trans rfl
  have c3 : W.cell? ⟨w.heap.size, 3, none⟩ = some (.int .u32 (un s.d)) := (k0.cell 3).trans rfl
  have c4 : W.cell? ⟨w.heap.size, 4, none⟩ = some (.int .u32 (un s.e)) := (k0.cell 4).trans rfl
  have c5 : W.cell? ⟨w.heap.size, 5, none⟩ = some (.int .u32 (un s.f)) := (k0.cell 5).trans rfl
  have c6 : W.cell? ⟨w.heap.size, 6, none⟩ = some (.int .u32 (un s.g)) := (k0.cell 6).trans rfl
  have c7 : W.cell? ⟨w.heap.size, 7, none⟩ = some (.int .u32 (un s.h)) := (k0.cell 7).trans rfl
  go_quiet (fail)
  have k0 := k0.drewN nq
  have k2 := k2.drewN nq
  have k3 := k3.drewN nq
  have kbel := below_drewN kbel nq
  have hTW : Tab (W.drewN nq) := hTW
  generalize W.drewN nq = W at *
  clear c0 c1 c2 c3 c4 c5 c6 c7
  go_wp2
  go_loopw [6, 7, 8, 9, 10, 11, 12, 13, 37] (fun v0 v1 v2 v3 v4 v5 v6 v7 i wr => ∃ k : Nat, k ≤ 64 ∧ i = .int .i64 k ∧ v0 = .int .u32 (un (rounds (sched bs 48) s k).a) ∧ v1 = .int .u32 (un (rounds (sched bs 48) s k).b) ∧ v2 = .int .u32 (un (rounds (sched bs 48) s k).c) ∧ v3 = .int .u32 (un (rounds (sched bs 48) s k).d) ∧ v4 = .int .u32 (un (rounds (sched bs 48) s k).e) ∧ v5 = .int .u32 (un (rounds (sched bs 48) s k).f) ∧ v6 = .int .u32 (un (rounds (sched bs 48) s k).g) ∧ v7 = .int .u32 (un (rounds (sched bs 48) s k).h) ∧ At wr w.heap.size 104 (wcells s.toL) ∧ At wr (w.heap.size + 2) 104 (wcells [0,0,0,0,0,0,0,0]) ∧ At wr G 125 (wcells (sched bs 48)) ∧ Below w.heap.size w wr)
    (fun _ _ _ _ _ _ _ _ i _ => 64 - (intOf i).toNat)
  case atStart => exact ⟨0, by omega, rfl, rfl, rfl, rfl, rfl, rfl, rfl, rfl, rfl, k0, k2, k3, kbel⟩
  case round =>
    clear k0 k2 k3 kbel hTW
    obtain ⟨k, hk, rfl, rfl, rfl, rfl, rfl, rfl, rfl, rfl, rfl, k0, k2, k3, kbel⟩ := hrel
    by_cases hlt : k < 64
    · have cw : wr.cell? ⟨G, k, none⟩ = some (.int .u32 (un ((sched bs 48).getD k 0))) := (k3.cell k).trans (wcells_get _ _ (by rw [sched_len]; omega))
      have ct : wr.cell? ⟨0, k, none⟩ = some (.int .u32 (un (K.getD k 0))) := (hT.below kbel hpos) k hlt
      have HR : Hid (rounds (sched bs 48) s (k + 1) = rstep (rounds (sched bs 48) s k) (K.getD k 0) ((sched bs 48).getD k 0)) := rfl
      generalize (sched bs 48).getD k 0 = x0 at *
      generalize K.getD k 0 = x1 at *
      generalize rounds (sched bs 48) s k = r at *
      go_wp2_with fail
      go_quiet ((go_at_call 111; exact Calls.quiet_of_same (turned_q r.e 6 11 25 _ (by omega) (by omega) (by omega))))
      go_wp2_with fail
      refine (turned_q r.a 2 13 22 _ (by omega) (by omega) (by omega)).mono ?_
      rintro e w' ⟨rfl, rfl⟩
      go_wp2_with fail
      clear cw ct
      go_roundw
      case rel =>
        have k0 := k0.drewN nq
        have k2 := k2.drewN nq
        have k3 := k3.drewN nq
        have kbel := below_drewN kbel nq
        refine ⟨k + 1, by omega, by go_num, ?_, ?_, ?_, ?_, ?_, ?_, ?_, ?_, k0, k2, k3, kbel⟩ <;> rw [HR.out] <;> rfl
      case measure => simp [intOf]; omega
    · have hk3 : 64 ≤ k := by omega
      have c0 : wr.cell? ⟨w.heap.size, 0, none⟩ = some (.int .u32 (un s.a)) := (k0.cell 0).trans rfl
      have c1 : wr.cell? ⟨w.heap.size, 1, none⟩ = some (.int .u32 (un s.b)) := (k0.cell 1).trans rfl
      have c2 : wr.cell? ⟨w.heap.size, 2, none⟩ = some (.int .u32 (un s.c)) := (k0.cell 2).trans rfl
      have c3 : wr.cell? ⟨w.heap.size, 3, none⟩ = some (.int .u32 (un s.d)) := (k0.cell 3).trans rfl
      have c4 : wr.cell? ⟨w.heap.size, 4, none⟩ = some (.int .u32 (un s.e)) := (k0.cell 4).trans rfl
      have c5 : wr.cell? ⟨w.heap.size, 5, none⟩ = some (.int .u32 (un s.f)) := (k0.cell 5).trans rfl
      have c6 : wr.cell? ⟨w.heap.size, 6, none⟩ = some (.int .u32 (un s.g)) := (k0.cell 6).trans rfl
      have c7 : wr.cell? ⟨w.heap.size, 7, none⟩ = some (.int .u32 (un s.h)) := (k0.cell 7).trans rfl
      go_wp2_with (first
            | (refine wpList_store_whole rfl rfl 104 (.tmp 4) (.tmp 122) rfl (w.heap.size + 2) rfl (wcells (addSt s (rounds (sched bs 48) s k)).toL) rfl 104 _ k2 (by rw [info28]; rfl) (by rfl) (wcells_one _) ?_))
      have hk64 : k = 64 := by omega
      subst hk64
      exact bodyPost_ret (v := .agg (wcells (compress s bs).toL).toArray) (results_cell_row rfl _ _ (w.heap.size + 2) 104 _ (0, 0) _ rfl (At.setRow k2) under28 rfl (by rw [info28]; rfl)) rfl ⟨rfl, below_setRow kbel (by omega) _⟩
end Go.Proofs.YtihkfomldbjpoaaDoor.ShaW

namespace Go.Proofs.YtihkfomldbjpoaaDoor.ShaW
open Go.RowKit
open Sha
theorem bytesTy : ElemTy Tryd.prog 23 5 (.int .u8 0) 1 :=
  ⟨by kernel_rfl, info_parts (by kernel_rfl), rfl, by omega⟩
theorem wordsTy : ElemTy Tryd.prog 101 100 (.int .u32 0) 4 :=
  ⟨by kernel_rfl, info_parts (by kernel_rfl), rfl, by omega⟩
theorem under22 : Tryd.prog.underlying 23 = some (.slice 5) := by kernel_rfl
theorem under5 : Tryd.prog.underlying 5 = some (.int .u8) := by kernel_rfl
theorem under9 : Tryd.prog.underlying 9 = some .string := by kernel_rfl
theorem under27 : Tryd.prog.underlying 100 = some (.int .u32) := by kernel_rfl
theorem info27 : (Tryd.prog.info? 100).map (·.size) = some 1 := by kernel_rfl
theorem info5 : (Tryd.prog.info? 5).map (·.size) = some 1 := by kernel_rfl
set_option maxRecDepth 100000 in
set_option maxHeartbeats 1000000 in
theorem text_any (l : List UInt32) (w : World) (hl : l.length = 8) :
    Calls Tryd.prog 104 #[.agg (wcells l).toArray] w fun e w' => e = .returned (.string ⟨(textB l).toArray⟩) ∧ Below w.heap.size w w' := by
  have h0 : At (w.alloc (.cells (wcells l).toArray 104)) w.heap.size 104 (wcells l) := At.new_ w _ 104 _ rfl
  have hb0 : Below w.heap.size w (w.alloc (.cells (wcells l).toArray 104)) := (Below.refl _ _).alloc (Nat.le_refl _) _
  go_enter Tryd.func104, Tryd.ntmps104
  go_wp2_with (first
            | (at_make; refine wpList_mk rfl _ _ rfl bytesTy (w.heap.size + 1) _ _ _ 32 rfl rfl rfl (by omega) (by simp) ?_; intro w1 hown hgr; have hb1 := hb0.grown hgr (by simp) (fun k hk => by cases hk); have h1 : At w1 w.heap.size 104 (wcells l) := (hgr.block _ (by simp) (by simp)).trans h0)
            | (refine wpList_load_row rfl 104 (.tmp 1) rfl (w.heap.size) rfl 104 _ (0, 0) _ h1 under28 rfl (by rw [info28]; simp [wcells_len, hl]) ?_))
  clear h0 hb0 hgr
  go_loopw [3, 8] (fun v i wr => ∃ k : Nat, k ≤ 8 ∧ i = .int .i64 k ∧ wr.ownsRow (w.heap.size + 1) 5 1 v (4 * k) (bcells (textB (l.take k))) ∧ Below w.heap.size w wr ∧ w.heap.size < wr.heap.size)
    (fun _ i _ => 8 - (intOf i).toNat)
  case atStart =>
    refine ⟨0, by omega, rfl, ?_, hb1, h1.lt⟩
    simpa [textB, bcells] using hown
  case round =>
    clear hown hb1 h1
    obtain ⟨k, hk, rfl, hown, hbel, hsz⟩ := hrel
    by_cases hlt : k < 8
    · have hki := run_idx (P := Tryd.prog) wr 104 100 8 .i64 .u32 under28 under27 info27 (wcells l).toArray k (.int .u32 (un (l.getD k 0))) hlt (by simpa using wcells_get l k (by omega))
      have HX : Hid (textB (l.take (k + 1)) = textB (l.take k) ++ be (l.getD k 0)) := textB_snoc l k (by omega)
      generalize l.getD k 0 = x at *
      have hsl : Sl (wr.alloc (.cells #[.int .u8 (un x / 16777216 % 256), .int .u8 (un x / 65536 % 256), .int .u8 (un x / 256 % 256), .int .u8 (un x % 256)] 5)) (some ⟨wr.heap.size, 0, none⟩) (bcells (be x)) := by
        rw [be_cells]; exact Sl.of_at_all (At.new_ wr _ 5 _ rfl)
      go_wp2_with (first
        | (at_builtin; refine wpList_app rfl (.tmp 11) (.tmp 23) 23 rfl bytesTy (w.heap.size + 1) u3 (4 * k) _ rfl (hown.alloc _) _ 4 4 (bcells (be x)) rfl rfl hsl (bcells_one _) (by omega) (by simp; omega) ?_; intro v2 w2 hown2 hgr2 hbl2))
      have hbel2 := below_app (hbel.alloc (by omega) _) hgr2 (hown.alloc _) (by omega) (by simp; omega)
      have hsz2 := hgr2.size
      clear hki hsl
      go_wp2
      go_roundw
      case rel =>
        refine ⟨k + 1, by omega, by go_num, ?_, hbel2, by simp at hsz2; omega⟩
        rw [HX.out, ← bcells_app, show 4 * (k + 1) = 4 * k + 4 by omega]; exact hown2
      case measure => simp [intOf]; omega
    · have hk8 : 8 ≤ k := by omega
      have hown' : wr.ownsRow (w.heap.size + 1) 5 1 u3 32 (bcells (textB l)) := by
        have e : k = 8 := by omega
        rw [e, List.take_of_length_le (by omega)] at hown; exact hown
      obtain ⟨A, c, rfl, hsl, _, _⟩ := own_slice hown'
      have hstr := run_str (P := Tryd.prog) wr 23 9 5 under22 under5 under9 A (textB l) 32 c (by rw [textB_len]; omega) hsl
      clear hown hown' hsl
      go_wp2
      go_ret
      exact ⟨rfl, hbel⟩
end Go.Proofs.YtihkfomldbjpoaaDoor.ShaW

namespace Go.Proofs.YtihkfomldbjpoaaDoor.ShaW
open Go.RowKit
open Sha
theorem ty30 : AggTy Tryd.prog 106 10 := ⟨by kernel_rfl, by kernel_rfl⟩
theorem ty28 : AggTy Tryd.prog 104 8 := ⟨by kernel_rfl, by kernel_rfl⟩
theorem ty47 : AggTy Tryd.prog 119 64 := ⟨by kernel_rfl, by kernel_rfl⟩
set_option maxHeartbeats 400000 in
theorem new_any (w : World) :
    Calls Tryd.prog 90 #[] w fun e w' => e = .returned (.agg (stc iv (.slice none 0 0) 0).toArray) ∧ Below w.heap.size w w' := by
  go_enter Tryd.func90, Tryd.ntmps90
  go_wp2
  exact bodyPost_ret (v := .agg (stc iv (.slice none 0 0) 0).toArray) (results_cellA rfl ty30 _ _ w.heap.size 106 (stc iv (.slice none 0 0) 0) rfl (At.new_ w _ 106 (stc iv (.slice none 0 0) 0) rfl) rfl) rfl ⟨rfl, (Below.refl _ _).alloc (Nat.le_refl _) _⟩
def okN (m : Nat) (n : Int) : Prop := 0 ≤ n ∧ n ≤ 1099511627776 ∧ (m : Int) = n % 64
set_option maxHeartbeats 1000000 in
theorem valid_any (s : St) (A : Option Addr) (m c : Nat) (n : Int) (w : World) (b : Bool) (_hm : m ≤ 9223372036854775807) (hok : b = true ↔ okN m n) :
    Calls Tryd.prog 102 #[.agg (stc s (.slice A m c) n).toArray] w fun e w' => e = .returned (.bool b) ∧ Below w.heap.size w w' := by
  have h0 : At (w.alloc (.cells (stc s (.slice A m c) n).toArray 106)) w.heap.size 106 (stc s (.slice A m c) n) := At.new_ w _ 106 _ rfl
  have hb0 : Below w.heap.size w (w.alloc (.cells (stc s (.slice A m c) n).toArray 106)) := (Below.refl _ _).alloc (Nat.le_refl _) _
  have c8 : (w.alloc (.cells (stc s (.slice A m c) n).toArray 106)).cell? ⟨w.heap.size, 8, none⟩ = some (.slice A m c) := (h0.cell 8).trans rfl
  have c9 : (w.alloc (.cells (stc s (.slice A m c) n).toArray 106)).cell? ⟨w.heap.size, 9, none⟩ = some (.int .i64 n) := (h0.cell 9).trans rfl
  clear h0
  have HK : Hid (b = true ↔ okN m n) := hok
  clear hok
  by_cases h1 : 0 ≤ n
  · by_cases h2 : n ≤ 1099511627776
    · by_cases h3 : (m : Int) = n % 64
      · have h3' : ((m : Int) == n % 64) = true := by simpa using h3
        have HH : Hid ((m : Int) = n % 64) := h3
        clear h3
        go_enter Tryd.func102, Tryd.ntmps102
        go_wp2
        go_ret
        exact ⟨by rw [HK.out.2 ⟨h1, h2, HH.out⟩]; rfl, hb0⟩
      · have h3' : ((m : Int) == n % 64) = false := by simpa using h3
        go_enter Tryd.func102, Tryd.ntmps102
        go_wp2
        go_ret
        exact ⟨by rw [show b = false by cases b; rfl; exact absurd (HK.out.1 rfl).2.2 h3]; rfl, hb0⟩
    · go_enter Tryd.func102, Tryd.ntmps102
      go_wp2
      go_ret
      exact ⟨by rw [show b = false by cases b; rfl; exact absurd (HK.out.1 rfl).2.1 (by omega)]; rfl, hb0⟩
  · go_enter Tryd.func102, Tryd.ntmps102
    go_wp2
    go_ret
    exact ⟨by rw [show b = false by cases b; rfl; exact absurd (HK.out.1 rfl).1 (by omega)]; rfl, hb0⟩
end Go.Proofs.YtihkfomldbjpoaaDoor.ShaW

namespace Go.Proofs.YtihkfomldbjpoaaDoor.ShaW
open Go.RowKit
open Sha
theorem stc_set8 (s : St) (r v : Value) (n : Int) : (stc s r n).set 8 v = stc s v n := rfl
theorem stc_spl_all (s s2 : St) (r r2 : Value) (n n2 : Int) : spl (stc s r n) 0 (stc s2 r2 n2) = stc s2 r2 n2 := rfl
theorem stc_spl (s s2 : St) (r : Value) (n : Int) : spl (stc s r n) 0 (wcells s2.toL) = stc s2 r n := rfl
set_option maxRecDepth 100000 in
set_option maxHeartbeats 2000000 in
theorem add_ok (s : St) (A : Option Addr) (m c : Nat) (n : Int) (r : List UInt8) (B : Option Addr) (l d : Nat) (bs : List UInt8) (w : World) (hT : Tab w)
    (hm : r.length = m) (hr : Sl w A (bcells r)) (hl : bs.length = l) (hb : Sl w B (bcells bs)) (hn : okN m n) (hnl : n + l ≤ 1099511627776) (hld : l ≤ d) (hd63 : d ≤ 9223372036854775807) :
    Calls Tryd.prog 89 #[.agg (stc s (.slice A m c) n).toArray, .slice B l d] w fun e w' => ∃ A' m' c', e = .returned (.agg (stc (absorb s (r ++ bs)).1 (.slice A' m' c') (n + l)).toArray) ∧
      Sl w' A' (bcells (absorb s (r ++ bs)).2) ∧ (absorb s (r ++ bs)).2.length = m' ∧ Below w.heap.size w w' := by
  have hpos := hT.pos
  have h0 : At ((w.alloc (.cells (stc s (.slice A m c) n).toArray 106)).alloc (.cells (stc ⟨0,0,0,0,0,0,0,0⟩ (.slice none 0 0) 0).toArray 106)) w.heap.size 106 (stc s (.slice A m c) n) := (At.new_ w _ 106 _ rfl).alloc _
  have h1 : At ((w.alloc (.cells (stc s (.slice A m c) n).toArray 106)).alloc (.cells (stc ⟨0,0,0,0,0,0,0,0⟩ (.slice none 0 0) 0).toArray 106)) (w.heap.size + 1) 106 (stc ⟨0,0,0,0,0,0,0,0⟩ (.slice none 0 0) 0) := At.new_ _ _ 106 _ (by simp)
  have hbel : Below w.heap.size w ((w.alloc (.cells (stc s (.slice A m c) n).toArray 106)).alloc (.cells (stc ⟨0,0,0,0,0,0,0,0⟩ (.slice none 0 0) 0).toArray 106)) := ((Below.refl _ _).alloc (Nat.le_refl _) _).alloc (by simp) _
  have hm64 : m < 64 := by have := hn.2.2; have := hn.1; omega
  have hn0 : 0 ≤ n := hn.1
  have HN : Hid (okN m n) := hn
  have HM : Hid (r.length = m) := hm
  have HL : Hid (bs.length = l) := hl
  clear hn hm hl
  go_enter Tryd.func89, Tryd.ntmps89
  go_wp2_with (first
    | (refine wpList_loadA rfl 106 (.tmp 2) rfl ty30 w.heap.size 0 rfl 106 _ h0 (stc s (.slice A m c) n) rfl (all_at _) ?_)
    | (go_at_call 102; refine (valid_any s A m c n _ true (by omega) ⟨fun _ => HN.out, fun _ => rfl⟩).mono ?_; rintro e w1 ⟨rfl, hb1⟩; have g0 := h0.below hb1 (by simp; omega); have g1 := h1.below hb1 (by simp); have c8 : w1.cell? ⟨w.heap.size, 8, none⟩ = some (.slice A m c) := (g0.cell 8).trans rfl; have c9 : w1.cell? ⟨w.heap.size, 9, none⟩ = some (.int .i64 n) := (g0.cell 9).trans rfl; have c9f := g0.froz 9; have gbel := hbel.trans (hb1.mono (by simp; omega))))
  have kS : At ((w1.setCell ⟨w.heap.size, 9, none⟩ (.int .i64 (n + l))).alloc (.cells (bcells zer).toArray 119)) w.heap.size 106 (stc s (.slice A m c) (n + l)) := (g0.put 9 _).alloc _
  have kR : At ((w1.setCell ⟨w.heap.size, 9, none⟩ (.int .i64 (n + l))).alloc (.cells (bcells zer).toArray 119)) (w.heap.size + 1) 106 (stc ⟨0,0,0,0,0,0,0,0⟩ (.slice none 0 0) 0) := (g1.far (by simp) _).alloc _
  have kB : At ((w1.setCell ⟨w.heap.size, 9, none⟩ (.int .i64 (n + l))).alloc (.cells (bcells zer).toArray 119)) w1.heap.size 119 (bcells zer) := At.new_ _ _ 119 _ (by simp [World.setCell])
  have hs1 : w.heap.size + 2 ≤ w1.heap.size := g1.lt
  have kbel : Below w.heap.size w ((w1.setCell ⟨w.heap.size, 9, none⟩ (.int .i64 (n + l))).alloc (.cells (bcells zer).toArray 119)) := (gbel.setCell (by simp) _).alloc (by simp [World.setCell]; omega) _
  change Code.wp _ _ _ _ ((w1.setCell ⟨w.heap.size, 9, none⟩ (.int .i64 (n + l))).alloc (.cells (bcells zer).toArray 119))
  generalize (w1.setCell ⟨w.heap.size, 9, none⟩ (.int .i64 (n + l))).alloc (.cells (bcells zer).toArray 119) = W at *
  clear g0 g1 c8 c9 c9f gbel h0 h1 hbel hb1
  generalize w1.heap.size = G at *
  have c8 : W.cell? ⟨w.heap.size, 8, none⟩ = some (.slice A m c) := (kS.cell 8).trans rfl
  go_region_law (refine step_cp rfl (.tmp 25) (.tmp 27) 23 23 5 rfl under22 info5 G 0 64 64 rfl 119 _ kB.drew A m c rfl (bcells r) (by rw [bcells_len]; exact HM.out) ((hr.below kbel).drew) (by simp [bcells_len, zer_len]; omega) (bcells_one _) ?_)
  have hmin : min m 64 = m := by omega
  go_simp
  go_wp2_with fail
  have e0 : spl (bcells zer) 0 ((bcells r).take m) = bcells (r ++ zer.drop m) := by
    rw [List.take_of_length_le (by rw [bcells_len]; exact Nat.le_of_eq HM.out), spl_bytes, HM.out]; simp
  have hlen0 : (r ++ zer.drop m).length = 64 := by simp [zer_len, HM.out]; omega
  have kB' : At (W.drew.setRow G (spl (bcells zer) 0 ((bcells r).take m)).toArray) G 119 (bcells (r ++ zer.drop m)) := e0 ▸ kB.drew.setRow
  have kS' : At (W.drew.setRow G (spl (bcells zer) 0 ((bcells r).take m)).toArray) w.heap.size 106 (stc s (.slice A m c) (n + l)) := kS.drew.setRow_far (by omega)
  have kR' : At (W.drew.setRow G (spl (bcells zer) 0 ((bcells r).take m)).toArray) (w.heap.size + 1) 106 (stc ⟨0,0,0,0,0,0,0,0⟩ (.slice none 0 0) 0) := kR.drew.setRow_far (by omega)
  have kbel' : Below w.heap.size w (W.drew.setRow G (spl (bcells zer) 0 ((bcells r).take m)).toArray) := below_setRow kbel.drew (by omega) _
  have HT0 : Hid (((r ++ zer.drop m).take m) = r) := by show _ = r; rw [List.take_append_of_le_length (by rw [HM.out]; omega), List.take_of_length_le (by rw [HM.out]; omega)]
  clear kS kR kB kbel c8 e0 hmin
  generalize W.drew.setRow G (spl (bcells zer) 0 ((bcells r).take m)).toArray = W at *
  generalize r ++ zer.drop m = blk0 at *
  go_loopw [1, 6] (fun v f wr => ∃ (A' : Option Addr) (q c' f' : Nat) (bs' blk : List UInt8) (s' : St), v = .slice A' q c' ∧ Hid (bs'.length = q) ∧ q ≤ c' ∧ c' ≤ 9223372036854775807 ∧ q ≤ l ∧ f = .int .i64 f' ∧ f' < 64 ∧ Hid (blk.length = 64) ∧
      At wr w.heap.size 106 (stc s' (.slice A m c) (n + l)) ∧ At wr (w.heap.size + 1) 106 (stc ⟨0,0,0,0,0,0,0,0⟩ (.slice none 0 0) 0) ∧ At wr G 119 (bcells blk) ∧ Sl w A' (bcells bs') ∧
      Hid (absorb s (r ++ bs) = absorb s' (blk.take f' ++ bs')) ∧ Below w.heap.size w wr)
    (fun v _ _ => slLen v)
  case atStart => exact ⟨B, l, d, m, bs, blk0, s, rfl, HL, hld, hd63, Nat.le_refl _, rfl, hm64, hlen0, kS', kR', kB', hb, by show _ = _; rw [HT0.out], kbel'⟩
  case round =>
    clear kS' kR' kB' kbel' HT0 hlen0
    obtain ⟨A', q, c', f', bs', blk, s', rfl, HQ, hqc, hc', hql, rfl, hf, HB, kS, kR, kB, kb, HA, kbel⟩ := hrel
    by_cases hge : 64 ≤ f' + q
    · have hmin : min q (64 - f') = 64 - f' := by omega
      have HA2 : ∃ A2, (if c' = 64 - f' then A' else A'.map (·.add (64 - f'))) = A2 := ⟨_, rfl⟩
      obtain ⟨A2, hA2⟩ := HA2
      have hcut := fun w' => run_from (P := Tryd.prog) bytesTy w' A' q c' (64 - f') .i64 (by omega)
      rw [hA2] at hcut
      have HA2 : Hid ((if c' = 64 - f' then A' else A'.map (·.add (64 - f'))) = A2) := hA2
      clear hA2
      have hsl : (Instr.sliceAt 119 (.pointer (some ⟨G, 0, none⟩)) (some (.int .i64 (f' : Int))) none none).run Tryd.prog wr = .ok (.slice (some ⟨G, f', none⟩) (64 - f') (64 - f')) wr := by
        simpa using run_arr_from under47 info5 wr G 0 f' .i64 hf
      obtain ⟨blk2, hblk2⟩ : ∃ b2, b2 = blk.take f' ++ bs'.take (64 - f') := ⟨_, rfl⟩
      have e1 : spl (bcells blk) f' ((bcells bs').take (64 - f')) = bcells blk2 := by
        rw [bcells_take, spl_bytes, List.drop_of_length_le (by simp [HB.out, HQ.out]; omega), hblk2]; simp
      have hl2 : blk2.length = 64 := by rw [hblk2]; simp [HB.out, HQ.out]; omega
      have kB2 : At (wr.setRow G (spl (bcells blk) f' ((bcells bs').take (64 - f'))).toArray) G 119 (bcells blk2) := by rw [e1]; exact kB.setRow
      have kS2 : At (wr.setRow G (spl (bcells blk) f' ((bcells bs').take (64 - f'))).toArray) w.heap.size 106 (stc s' (.slice A m c) (n + l)) := kS.setRow_far (by omega)
      have kR2 : At (wr.setRow G (spl (bcells blk) f' ((bcells bs').take (64 - f'))).toArray) (w.heap.size + 1) 106 (stc ⟨0,0,0,0,0,0,0,0⟩ (.slice none 0 0) 0) := kR.setRow_far (by omega)
      have kbel2 : Below w.heap.size w (wr.setRow G (spl (bcells blk) f' ((bcells bs').take (64 - f'))).toArray) := below_setRow kbel (by omega) _
      have HB2 : Hid (blk2 = blk.take f' ++ bs'.take (64 - f')) := hblk2
      have hT2 := hT.below kbel2 hpos
      clear hblk2 e1
      go_wp2_with (first
        | (refine wpList_cp rfl (.tmp 36) (.tmp 37) 23 23 5 rfl under22 info5 G f' (64 - f') (64 - f') rfl 119 _ kB A' q c' rfl (bcells bs') (by rw [bcells_len]; exact HQ.out) (kb.below kbel) (by rw [bcells_len, HB.out]; omega) (bcells_one _) ?_; simp only [hmin])
        | (refine wpList_loadA rfl 104 (.tmp 40) rfl ty28 w.heap.size 0 rfl 106 _ kS2 (wcells s'.toL) rfl (by intro j hj; rw [Nat.zero_add]; exact (List.getElem?_append_left hj)) ?_)
        | (refine wpList_loadA rfl 119 (.tmp 5) rfl ty47 G 0 rfl 119 _ kB2 (bcells blk2) (by rw [bcells_len]; exact hl2) (all_at _) ?_)
        | (go_at_call 103; refine (mix_any s' blk2 _ hl2 hT2).mono ?_; rintro e w2 ⟨rfl, hb2⟩; have kS3 := kS2.below hb2 kS2.lt)
        | (refine wpList_storeA rfl rfl 104 (.tmp 44) (.tmp 43) rfl ty28 w.heap.size 0 rfl (wcells (compress s' blk2).toL) rfl 106 _ kS3 rfl (by rw [stc_len]; omega) (wcells_one _) ?_; simp only [stc_spl]))
      have kR3 := kR2.below hb2 kR2.lt
      have kB3 := kB2.below hb2 kB2.lt
      have kbel3 := kbel2.trans (hb2.mono (Nat.le_of_lt kS2.lt))
      go_roundw
      case rel =>
        refine ⟨A2, q - (64 - f'), c' - (64 - f'), 0, bs'.drop (64 - f'), blk2, compress s' blk2, rfl, ?_, by omega, by omega, by omega, rfl, by omega, hl2, kS3.setRow, kR3.setRow_far (by omega), kB3.setRow_far (by omega), ?_, ?_, below_setRow kbel3 (by omega) _⟩
        · show _ = _; rw [List.length_drop, HQ.out]
        · have := kb.cut (64 - f') c' (by rw [bcells_len, HQ.out]; exact hqc)
          rw [HA2.out, bcells_drop] at this; exact this
        · show _ = _
          rw [HA.out, absorb_round s' (blk.take f') bs' f' (by simp [HB.out]; omega) hf (by rw [HQ.out]; omega), HB2.out]; rfl
      case measure => simp [slLen]; omega
    · have hmin : min q (64 - f') = q := by omega
      have hsl : (Instr.sliceAt 119 (.pointer (some ⟨G, 0, none⟩)) (some (.int .i64 (f' : Int))) none none).run Tryd.prog wr = .ok (.slice (some ⟨G, f', none⟩) (64 - f') (64 - f')) wr := by
        simpa using run_arr_from under47 info5 wr G 0 f' .i64 hf
      have hto : ∀ w', (Instr.sliceAt 119 (.pointer (some ⟨G, 0, none⟩)) none (some (.int .i64 ((f' : Int) + (q : Int)))) none).run Tryd.prog w' = .ok (.slice (some ⟨G, 0, none⟩) (f' + q) 64) w' := by
        intro w'; simpa using run_arr_to under47 info5 w' G 0 (f' + q) .i64 (by omega) (by omega)
      obtain ⟨blk2, hblk2⟩ : ∃ b2, b2 = blk.take f' ++ bs' ++ blk.drop (f' + q) := ⟨_, rfl⟩
      have e1 : spl (bcells blk) f' ((bcells bs').take q) = bcells blk2 := by
        rw [bcells_take, spl_bytes, hblk2, List.take_of_length_le (Nat.le_of_eq HQ.out), HQ.out]
      have htake : blk2.take (f' + q) = blk.take f' ++ bs' := by
        rw [hblk2, List.take_append_of_le_length (by simp [HB.out, HQ.out]; omega), List.take_of_length_le (by simp [HB.out, HQ.out]; omega)]
      have HF : Hid (absorb s (r ++ bs) = (s', blk.take f' ++ bs')) := by
        show _ = _; rw [HA.out, absorb_short _ _ (by simp [HB.out, HQ.out]; omega)]
      have hlen : (blk.take f' ++ bs').length = f' + q := by simp [HB.out, HQ.out]; omega
      have kB2 : At (wr.setRow G (spl (bcells blk) f' ((bcells bs').take q)).toArray) G 119 (bcells blk2) := by rw [e1]; exact kB.setRow
      have kS2 : At (wr.setRow G (spl (bcells blk) f' ((bcells bs').take q)).toArray) w.heap.size 106 (stc s' (.slice A m c) (n + l)) := kS.setRow_far (by omega)
      have kR2 : At (wr.setRow G (spl (bcells blk) f' ((bcells bs').take q)).toArray) (w.heap.size + 1) 106 (stc ⟨0,0,0,0,0,0,0,0⟩ (.slice none 0 0) 0) := kR.setRow_far (by omega)
      have kbel2 : Below w.heap.size w (wr.setRow G (spl (bcells blk) f' ((bcells bs').take q)).toArray) := below_setRow kbel (by omega) _
      have hsz2 : w.heap.size ≤ (wr.setRow G (spl (bcells blk) f' ((bcells bs').take q)).toArray).heap.size := Nat.le_of_lt kS2.lt
      have hsB := Sl.of_at kB2 0 (f' + q)
      rw [List.drop_zero, bcells_take blk2, htake] at hsB
      have HLn : Hid ((blk.take f' ++ bs').length = f' + q) := hlen
      clear hblk2 e1 htake hlen
      go_wp2_with (first
        | (refine wpList_cp rfl (.tmp 47) (.tmp 48) 23 23 5 rfl under22 info5 G f' (64 - f') (64 - f') rfl 119 _ kB A' q c' rfl (bcells bs') (by rw [bcells_len]; exact HQ.out) (kb.below kbel) (by rw [bcells_len, HB.out]; omega) (bcells_one _) ?_; simp only [hmin])
        | (refine wpList_app rfl (.const (.slice none 0 0)) (.tmp 52) 23 rfl bytesTy (G + 1) (.slice none 0 0) 0 [] rfl (World.ownsRow_nil _ _ _ _) (some ⟨G, 0, none⟩) (f' + q) 64 (bcells (blk.take f' ++ bs')) rfl (by rw [bcells_len]; exact HLn.out) hsB (bcells_one _) (by omega) kB2.lt ?_; intro v3 w3 hown3 hgr3 hbl3; obtain ⟨A3, c3, rfl, hsl3, _, _, _, hA3⟩ := own_slice hown3; simp only [List.nil_append] at hsl3; have kS3 : At w3 w.heap.size 106 (stc s' (.slice A m c) (n + l)) := (hgr3.block _ kS2.lt (by simp [Value.ownBlock])).trans kS2; have c8 : w3.cell? ⟨w.heap.size, 8, none⟩ = some (.slice A m c) := (kS3.cell 8).trans rfl; have c8f := kS3.froz 8; have kR3 : At w3 (w.heap.size + 1) 106 (stc ⟨0,0,0,0,0,0,0,0⟩ (.slice none 0 0) 0) := (hgr3.block _ kR2.lt (by simp [Value.ownBlock])).trans kR2; have kbel3 : Below w.heap.size w w3 := kbel2.grown hgr3 hsz2 (fun k hk => by cases hk))
        | (refine wpList_loadA rfl 106 (.tmp 2) rfl ty30 w.heap.size 0 rfl 106 _ (kS3.put 8 (.slice A3 (f' + q) c3)) (stc s' (.slice A3 (f' + q) c3) (n + l)) rfl (all_at _) ?_)
        | (refine wpList_storeA rfl rfl 106 (.tmp 4) (.tmp 55) rfl ty30 (w.heap.size + 1) 0 rfl (stc s' (.slice A3 (f' + q) c3) (n + l)) rfl 106 _ (kR3.far (by simp) _) rfl (by rw [stc_len]; omega) (stc_one _ _ _ _ _) ?_; simp only [stc_spl_all]))
      refine bodyPost_ret (v := .agg (stc s' (.slice A3 (f' + q) c3) (n + l)).toArray) (results_cellA rfl ty30 _ _ (w.heap.size + 1) 106 _ rfl (kR3.far (by simp) _).setRow rfl) rfl ⟨A3, f' + q, c3, ?_, ?_, ?_, below_setRow (kbel3.setCell (by simp) _) (by omega) _⟩
      · rw [HF.out]
      · rw [HF.out]
        exact hsl3.from_ hA3 fun b o hb => (cell_setRow_ne _ _ _ _ _ (by omega)).trans (cell_setCell_ne _ _ _ _ _ _ (by omega))
      · rw [HF.out]; exact HLn.out
end Go.Proofs.YtihkfomldbjpoaaDoor.ShaW

namespace Go.Proofs.YtihkfomldbjpoaaDoor.ShaW
open Go.RowKit
open Sha
set_option maxRecDepth 100000 in
set_option maxHeartbeats 2000000 in
theorem add_new (s : St) (A : Option Addr) (m c : Nat) (n : Int) (B : Option Addr) (l d : Nat) (bs : List UInt8) (w : World) (hT : Tab w)
    (hl : bs.length = l) (hb : Sl w B (bcells bs)) (hm63 : m ≤ 9223372036854775807) (hbad : ¬ okN m n ∨ (okN m n ∧ 1099511627776 < n + l)) (hld : l ≤ d) (hd63 : d ≤ 140737488355328) :
    Calls Tryd.prog 89 #[.agg (stc s (.slice A m c) n).toArray, .slice B l d] w fun e w' => ∃ A' m' c', e = .returned (.agg (stc (absorb iv bs).1 (.slice A' m' c') l).toArray) ∧
      Sl w' A' (bcells (absorb iv bs).2) ∧ (absorb iv bs).2.length = m' ∧ Below w.heap.size w w' := by
  have hpos := hT.pos
  have h0 : At ((w.alloc (.cells (stc s (.slice A m c) n).toArray 106)).alloc (.cells (stc ⟨0,0,0,0,0,0,0,0⟩ (.slice none 0 0) 0).toArray 106)) w.heap.size 106 (stc s (.slice A m c) n) := (At.new_ w _ 106 _ rfl).alloc _
  have h1 : At ((w.alloc (.cells (stc s (.slice A m c) n).toArray 106)).alloc (.cells (stc ⟨0,0,0,0,0,0,0,0⟩ (.slice none 0 0) 0).toArray 106)) (w.heap.size + 1) 106 (stc ⟨0,0,0,0,0,0,0,0⟩ (.slice none 0 0) 0) := At.new_ _ _ 106 _ (by simp)
  have hbel : Below w.heap.size w ((w.alloc (.cells (stc s (.slice A m c) n).toArray 106)).alloc (.cells (stc ⟨0,0,0,0,0,0,0,0⟩ (.slice none 0 0) 0).toArray 106)) := ((Below.refl _ _).alloc (Nat.le_refl _) _).alloc (by simp) _
  have HL : Hid (bs.length = l) := hl
  clear hl
  rcases hbad with hbad | ⟨hok, hlong⟩
  · have HN : Hid (¬ okN m n) := hbad
    clear hbad
    go_enter Tryd.func89, Tryd.ntmps89
    go_wp2_with (first
      | (refine wpList_loadA rfl 106 (.tmp 2) rfl ty30 w.heap.size 0 rfl 106 _ h0 (stc s (.slice A m c) n) rfl (all_at _) ?_)
      | (go_at_call 102; refine (valid_any s A m c n _ false hm63 ⟨(fun h => Bool.noConfusion h), (fun h => absurd h HN.out)⟩).mono ?_; rintro e w1 ⟨rfl, hb1⟩; have g0 := h0.below hb1 (by simp; omega); have g1 := h1.below hb1 (by simp); have c9 : w1.cell? ⟨w.heap.size, 9, none⟩ = some (.int .i64 n) := (g0.cell 9).trans rfl; have gbel := hbel.trans (hb1.mono (by simp; omega)))
      | (go_at_call 90; refine (new_any _).mono ?_; rintro e w2 ⟨rfl, hb2⟩; have q0 := g0.below hb2 g0.lt; have q1 := g1.below hb2 g1.lt; have qbel := gbel.trans (hb2.mono (Nat.le_of_lt g0.lt)); have c9z : (w2.setRow w.heap.size (stc iv (.slice none 0 0) 0).toArray).cell? ⟨w.heap.size, 9, none⟩ = some (.int .i64 0) := (q0.setRow.cell 9).trans rfl; have c9f := (q0.setRow (cs' := stc iv (.slice none 0 0) 0)).froz 9)
      | (refine wpList_storeA rfl rfl 106 (.tmp 2) (.tmp 18) rfl ty30 w.heap.size 0 rfl (stc iv (.slice none 0 0) 0) rfl 106 _ q0 rfl (by rw [stc_len]; omega) (stc_one _ _ _ _ _) ?_; simp only [stc_spl_all]))
    have kS : At (((w2.setRow w.heap.size (stc iv (.slice none 0 0) 0).toArray).setCell ⟨w.heap.size, 9, none⟩ (.int .i64 l)).alloc (.cells (bcells zer).toArray 119)) w.heap.size 106 (stc iv (.slice none 0 0) (l : Int)) := ((q0.setRow (cs' := stc iv (.slice none 0 0) 0)).put 9 _).alloc _
    have kR : At (((w2.setRow w.heap.size (stc iv (.slice none 0 0) 0).toArray).setCell ⟨w.heap.size, 9, none⟩ (.int .i64 l)).alloc (.cells (bcells zer).toArray 119)) (w.heap.size + 1) 106 (stc ⟨0,0,0,0,0,0,0,0⟩ (.slice none 0 0) 0) := ((q1.setRow_far (by omega)).far (by simp) _).alloc _
    have kB : At (((w2.setRow w.heap.size (stc iv (.slice none 0 0) 0).toArray).setCell ⟨w.heap.size, 9, none⟩ (.int .i64 l)).alloc (.cells (bcells zer).toArray 119)) w2.heap.size 119 (bcells zer) := At.new_ _ _ 119 _ (by simp [World.setCell])
    have hs1 : w.heap.size + 2 ≤ w2.heap.size := q1.lt
    have kbel : Below w.heap.size w (((w2.setRow w.heap.size (stc iv (.slice none 0 0) 0).toArray).setCell ⟨w.heap.size, 9, none⟩ (.int .i64 l)).alloc (.cells (bcells zer).toArray 119)) := ((below_setRow qbel (Nat.le_refl _) _).setCell (by simp) _).alloc (by simp [World.setCell]; omega) _
    change Code.wp _ _ _ _ (((w2.setRow w.heap.size (stc iv (.slice none 0 0) 0).toArray).setCell ⟨w.heap.size, 9, none⟩ (.int .i64 l)).alloc (.cells (bcells zer).toArray 119))
    generalize ((w2.setRow w.heap.size (stc iv (.slice none 0 0) 0).toArray).setCell ⟨w.heap.size, 9, none⟩ (.int .i64 l)).alloc (.cells (bcells zer).toArray 119) = W at *
    clear g0 g1 c9 c9z c9f gbel h0 h1 hbel hb1 hb2 q0 q1 qbel
    generalize w2.heap.size = G at *
    have c8 : W.cell? ⟨w.heap.size, 8, none⟩ = some (.slice none 0 0) := (kS.cell 8).trans rfl
    go_region_law (refine step_cp rfl (.tmp 25) (.tmp 27) 23 23 5 rfl under22 info5 G 0 64 64 rfl 119 _ kB.drew none 0 0 rfl (bcells []) rfl (Sl.nil) (by simp [bcells_len, zer_len]) (bcells_one _) ?_)
    go_simp
    go_wp2_with fail
    have e0 : spl (bcells zer) 0 [] = bcells zer := rfl
    have kB' : At (W.drew.setRow G (spl (bcells zer) 0 []).toArray) G 119 (bcells zer) := e0 ▸ kB.drew.setRow
    have kS' : At (W.drew.setRow G (spl (bcells zer) 0 []).toArray) w.heap.size 106 (stc iv (.slice none 0 0) (l : Int)) := kS.drew.setRow_far (by omega)
    have kR' : At (W.drew.setRow G (spl (bcells zer) 0 []).toArray) (w.heap.size + 1) 106 (stc ⟨0,0,0,0,0,0,0,0⟩ (.slice none 0 0) 0) := kR.drew.setRow_far (by omega)
    have kbel' : Below w.heap.size w (W.drew.setRow G (spl (bcells zer) 0 []).toArray) := below_setRow kbel.drew (by omega) _
    clear kS kR kB kbel c8 e0
    generalize W.drew.setRow G (spl (bcells zer) 0 []).toArray = W at *
    go_loopw [1, 6] (fun v f wr => ∃ (A' : Option Addr) (q c' f' : Nat) (bs' blk : List UInt8) (s' : St), v = .slice A' q c' ∧ Hid (bs'.length = q) ∧ q ≤ c' ∧ c' ≤ 140737488355328 ∧ q ≤ l ∧ f = .int .i64 f' ∧ f' < 64 ∧ Hid (blk.length = 64) ∧
        At wr w.heap.size 106 (stc s' (.slice none 0 0) (l : Int)) ∧ At wr (w.heap.size + 1) 106 (stc ⟨0,0,0,0,0,0,0,0⟩ (.slice none 0 0) 0) ∧ At wr G 119 (bcells blk) ∧ Sl w A' (bcells bs') ∧
        Hid (absorb iv bs = absorb s' (blk.take f' ++ bs')) ∧ Below w.heap.size w wr)
      (fun v _ _ => slLen v)
    case atStart => exact ⟨B, l, d, 0, bs, zer, iv, rfl, HL, hld, hd63, Nat.le_refl _, rfl, by omega, zer_len, kS', kR', kB', hb, rfl, kbel'⟩
    case round =>
      clear kS' kR' kB' kbel'
      obtain ⟨A', q, c', f', bs', blk, s', rfl, HQ, hqc, hc', hql, rfl, hf, HB, kS, kR, kB, kb, HA, kbel⟩ := hrel
      by_cases hge : 64 ≤ f' + q
      · have hmin : min q (64 - f') = 64 - f' := by omega
        have HA2 : ∃ A2, (if c' = 64 - f' then A' else A'.map (·.add (64 - f'))) = A2 := ⟨_, rfl⟩
        obtain ⟨A2, hA2⟩ := HA2
        have hcut := fun w' => run_from (P := Tryd.prog) bytesTy w' A' q c' (64 - f') .i64 (by omega)
        rw [hA2] at hcut
        have HA2 : Hid ((if c' = 64 - f' then A' else A'.map (·.add (64 - f'))) = A2) := hA2
        clear hA2
        have hsl : (Instr.sliceAt 119 (.pointer (some ⟨G, 0, none⟩)) (some (.int .i64 (f' : Int))) none none).run Tryd.prog wr = .ok (.slice (some ⟨G, f', none⟩) (64 - f') (64 - f')) wr := by
          simpa using run_arr_from under47 info5 wr G 0 f' .i64 hf
        obtain ⟨blk2, hblk2⟩ : ∃ b2, b2 = blk.take f' ++ bs'.take (64 - f') := ⟨_, rfl⟩
        have e1 : spl (bcells blk) f' ((bcells bs').take (64 - f')) = bcells blk2 := by
          rw [bcells_take, spl_bytes, List.drop_of_length_le (by simp [HB.out, HQ.out]; omega), hblk2]; simp
        have hl2 : blk2.length = 64 := by rw [hblk2]; simp [HB.out, HQ.out]; omega
        have kB2 : At (wr.setRow G (spl (bcells blk) f' ((bcells bs').take (64 - f'))).toArray) G 119 (bcells blk2) := by rw [e1]; exact kB.setRow
        have kS2 : At (wr.setRow G (spl (bcells blk) f' ((bcells bs').take (64 - f'))).toArray) w.heap.size 106 (stc s' (.slice none 0 0) (l : Int)) := kS.setRow_far (by omega)
        have kR2 : At (wr.setRow G (spl (bcells blk) f' ((bcells bs').take (64 - f'))).toArray) (w.heap.size + 1) 106 (stc ⟨0,0,0,0,0,0,0,0⟩ (.slice none 0 0) 0) := kR.setRow_far (by omega)
        have kbel2 : Below w.heap.size w (wr.setRow G (spl (bcells blk) f' ((bcells bs').take (64 - f'))).toArray) := below_setRow kbel (by omega) _
        have HB2 : Hid (blk2 = blk.take f' ++ bs'.take (64 - f')) := hblk2
        have hT2 := hT.below kbel2 hpos
        clear hblk2 e1
        go_wp2_with (first
          | (refine wpList_cp rfl (.tmp 36) (.tmp 37) 23 23 5 rfl under22 info5 G f' (64 - f') (64 - f') rfl 119 _ kB A' q c' rfl (bcells bs') (by rw [bcells_len]; exact HQ.out) (kb.below kbel) (by rw [bcells_len, HB.out]; omega) (bcells_one _) ?_; simp only [hmin])
          | (refine wpList_loadA rfl 104 (.tmp 40) rfl ty28 w.heap.size 0 rfl 106 _ kS2 (wcells s'.toL) rfl (by intro j hj; rw [Nat.zero_add]; exact (List.getElem?_append_left hj)) ?_)
          | (refine wpList_loadA rfl 119 (.tmp 5) rfl ty47 G 0 rfl 119 _ kB2 (bcells blk2) (by rw [bcells_len]; exact hl2) (all_at _) ?_)
          | (go_at_call 103; refine (mix_any s' blk2 _ hl2 hT2).mono ?_; rintro e w2 ⟨rfl, hb2⟩; have kS3 := kS2.below hb2 kS2.lt)
          | (refine wpList_storeA rfl rfl 104 (.tmp 44) (.tmp 43) rfl ty28 w.heap.size 0 rfl (wcells (compress s' blk2).toL) rfl 106 _ kS3 rfl (by rw [stc_len]; omega) (wcells_one _) ?_; simp only [stc_spl]))
        have kR3 := kR2.below hb2 kR2.lt
        have kB3 := kB2.below hb2 kB2.lt
        have kbel3 := kbel2.trans (hb2.mono (Nat.le_of_lt kS2.lt))
        go_roundw
        case rel =>
          refine ⟨A2, q - (64 - f'), c' - (64 - f'), 0, bs'.drop (64 - f'), blk2, compress s' blk2, rfl, ?_, by omega, by omega, by omega, rfl, by omega, hl2, kS3.setRow, kR3.setRow_far (by omega), kB3.setRow_far (by omega), ?_, ?_, below_setRow kbel3 (by omega) _⟩
          · show _ = _; rw [List.length_drop, HQ.out]
          · have := kb.cut (64 - f') c' (by rw [bcells_len, HQ.out]; exact hqc)
            rw [HA2.out, bcells_drop] at this; exact this
          · show _ = _
            rw [HA.out, absorb_round s' (blk.take f') bs' f' (by simp [HB.out]; omega) hf (by rw [HQ.out]; omega), HB2.out]; rfl
        case measure => simp [slLen]; omega
      · have hmin : min q (64 - f') = q := by omega
        have hsl : (Instr.sliceAt 119 (.pointer (some ⟨G, 0, none⟩)) (some (.int .i64 (f' : Int))) none none).run Tryd.prog wr = .ok (.slice (some ⟨G, f', none⟩) (64 - f') (64 - f')) wr := by
          simpa using run_arr_from under47 info5 wr G 0 f' .i64 hf
        have hto : ∀ w', (Instr.sliceAt 119 (.pointer (some ⟨G, 0, none⟩)) none (some (.int .i64 ((f' : Int) + (q : Int)))) none).run Tryd.prog w' = .ok (.slice (some ⟨G, 0, none⟩) (f' + q) 64) w' := by
          intro w'; simpa using run_arr_to under47 info5 w' G 0 (f' + q) .i64 (by omega) (by omega)
        obtain ⟨blk2, hblk2⟩ : ∃ b2, b2 = blk.take f' ++ bs' ++ blk.drop (f' + q) := ⟨_, rfl⟩
        have e1 : spl (bcells blk) f' ((bcells bs').take q) = bcells blk2 := by
          rw [bcells_take, spl_bytes, hblk2, List.take_of_length_le (Nat.le_of_eq HQ.out), HQ.out]
        have htake : blk2.take (f' + q) = blk.take f' ++ bs' := by
          rw [hblk2, List.take_append_of_le_length (by simp [HB.out, HQ.out]; omega), List.take_of_length_le (by simp [HB.out, HQ.out]; omega)]
        have HF : Hid (absorb iv bs = (s', blk.take f' ++ bs')) := by
          show _ = _; rw [HA.out, absorb_short _ _ (by simp [HB.out, HQ.out]; omega)]
        have hlen : (blk.take f' ++ bs').length = f' + q := by simp [HB.out, HQ.out]; omega
        have kB2 : At (wr.setRow G (spl (bcells blk) f' ((bcells bs').take q)).toArray) G 119 (bcells blk2) := by rw [e1]; exact kB.setRow
        have kS2 : At (wr.setRow G (spl (bcells blk) f' ((bcells bs').take q)).toArray) w.heap.size 106 (stc s' (.slice none 0 0) (l : Int)) := kS.setRow_far (by omega)
        have kR2 : At (wr.setRow G (spl (bcells blk) f' ((bcells bs').take q)).toArray) (w.heap.size + 1) 106 (stc ⟨0,0,0,0,0,0,0,0⟩ (.slice none 0 0) 0) := kR.setRow_far (by omega)
        have kbel2 : Below w.heap.size w (wr.setRow G (spl (bcells blk) f' ((bcells bs').take q)).toArray) := below_setRow kbel (by omega) _
        have hsz2 : w.heap.size ≤ (wr.setRow G (spl (bcells blk) f' ((bcells bs').take q)).toArray).heap.size := Nat.le_of_lt kS2.lt
        have hsB := Sl.of_at kB2 0 (f' + q)
        rw [List.drop_zero, bcells_take blk2, htake] at hsB
        have HLn : Hid ((blk.take f' ++ bs').length = f' + q) := hlen
        clear hblk2 e1 htake hlen
        go_wp2_with (first
          | (refine wpList_cp rfl (.tmp 47) (.tmp 48) 23 23 5 rfl under22 info5 G f' (64 - f') (64 - f') rfl 119 _ kB A' q c' rfl (bcells bs') (by rw [bcells_len]; exact HQ.out) (kb.below kbel) (by rw [bcells_len, HB.out]; omega) (bcells_one _) ?_; simp only [hmin])
          | (refine wpList_app rfl (.const (.slice none 0 0)) (.tmp 52) 23 rfl bytesTy (G + 1) (.slice none 0 0) 0 [] rfl (World.ownsRow_nil _ _ _ _) (some ⟨G, 0, none⟩) (f' + q) 64 (bcells (blk.take f' ++ bs')) rfl (by rw [bcells_len]; exact HLn.out) hsB (bcells_one _) (by omega) kB2.lt ?_; intro v3 w3 hown3 hgr3 hbl3; obtain ⟨A3, c3, rfl, hsl3, _, _, _, hA3⟩ := own_slice hown3; simp only [List.nil_append] at hsl3; have kS3 : At w3 w.heap.size 106 (stc s' (.slice none 0 0) (l : Int)) := (hgr3.block _ kS2.lt (by simp [Value.ownBlock])).trans kS2; have c8 : w3.cell? ⟨w.heap.size, 8, none⟩ = some (.slice none 0 0) := (kS3.cell 8).trans rfl; have c8f := kS3.froz 8; have kR3 : At w3 (w.heap.size + 1) 106 (stc ⟨0,0,0,0,0,0,0,0⟩ (.slice none 0 0) 0) := (hgr3.block _ kR2.lt (by simp [Value.ownBlock])).trans kR2; have kbel3 : Below w.heap.size w w3 := kbel2.grown hgr3 hsz2 (fun k hk => by cases hk))
          | (refine wpList_loadA rfl 106 (.tmp 2) rfl ty30 w.heap.size 0 rfl 106 _ (kS3.put 8 (.slice A3 (f' + q) c3)) (stc s' (.slice A3 (f' + q) c3) (l : Int)) rfl (all_at _) ?_)
          | (refine wpList_storeA rfl rfl 106 (.tmp 4) (.tmp 55) rfl ty30 (w.heap.size + 1) 0 rfl (stc s' (.slice A3 (f' + q) c3) (l : Int)) rfl 106 _ (kR3.far (by simp) _) rfl (by rw [stc_len]; omega) (stc_one _ _ _ _ _) ?_; simp only [stc_spl_all]))
        refine bodyPost_ret (v := .agg (stc s' (.slice A3 (f' + q) c3) (l : Int)).toArray) (results_cellA rfl ty30 _ _ (w.heap.size + 1) 106 _ rfl (kR3.far (by simp) _).setRow rfl) rfl ⟨A3, f' + q, c3, ?_, ?_, ?_, below_setRow (kbel3.setCell (by simp) _) (by omega) _⟩
        · rw [HF.out]
        · rw [HF.out]
          exact hsl3.from_ hA3 fun b o hb => (cell_setRow_ne _ _ _ _ _ (by omega)).trans (cell_setCell_ne _ _ _ _ _ _ (by omega))
        · rw [HF.out]; exact HLn.out
  · have HN : Hid (okN m n) := hok
    have hn1 : 0 ≤ n := hok.1
    have hn2 : n ≤ 1099511627776 := hok.2.1
    clear hok
    go_enter Tryd.func89, Tryd.ntmps89
    go_wp2_with (first
      | (refine wpList_loadA rfl 106 (.tmp 2) rfl ty30 w.heap.size 0 rfl 106 _ h0 (stc s (.slice A m c) n) rfl (all_at _) ?_)
      | (go_at_call 102; refine (valid_any s A m c n _ true hm63 ⟨fun _ => HN.out, fun _ => rfl⟩).mono ?_; rintro e w1 ⟨rfl, hb1⟩; have g0 := h0.below hb1 (by simp; omega); have g1 := h1.below hb1 (by simp); have c9 : w1.cell? ⟨w.heap.size, 9, none⟩ = some (.int .i64 n) := (g0.cell 9).trans rfl; have gbel := hbel.trans (hb1.mono (by simp; omega)))
      | (go_at_call 90; refine (new_any _).mono ?_; rintro e w2 ⟨rfl, hb2⟩; have q0 := g0.below hb2 g0.lt; have q1 := g1.below hb2 g1.lt; have qbel := gbel.trans (hb2.mono (Nat.le_of_lt g0.lt)); have c9z : (w2.setRow w.heap.size (stc iv (.slice none 0 0) 0).toArray).cell? ⟨w.heap.size, 9, none⟩ = some (.int .i64 0) := (q0.setRow.cell 9).trans rfl; have c9f := (q0.setRow (cs' := stc iv (.slice none 0 0) 0)).froz 9)
      | (refine wpList_storeA rfl rfl 106 (.tmp 2) (.tmp 18) rfl ty30 w.heap.size 0 rfl (stc iv (.slice none 0 0) 0) rfl 106 _ q0 rfl (by rw [stc_len]; omega) (stc_one _ _ _ _ _) ?_; simp only [stc_spl_all]))
    have kS : At (((w2.setRow w.heap.size (stc iv (.slice none 0 0) 0).toArray).setCell ⟨w.heap.size, 9, none⟩ (.int .i64 l)).alloc (.cells (bcells zer).toArray 119)) w.heap.size 106 (stc iv (.slice none 0 0) (l : Int)) := ((q0.setRow (cs' := stc iv (.slice none 0 0) 0)).put 9 _).alloc _
    have kR : At (((w2.setRow w.heap.size (stc iv (.slice none 0 0) 0).toArray).setCell ⟨w.heap.size, 9, none⟩ (.int .i64 l)).alloc (.cells (bcells zer).toArray 119)) (w.heap.size + 1) 106 (stc ⟨0,0,0,0,0,0,0,0⟩ (.slice none 0 0) 0) := ((q1.setRow_far (by omega)).far (by simp) _).alloc _
    have kB : At (((w2.setRow w.heap.size (stc iv (.slice none 0 0) 0).toArray).setCell ⟨w.heap.size, 9, none⟩ (.int .i64 l)).alloc (.cells (bcells zer).toArray 119)) w2.heap.size 119 (bcells zer) := At.new_ _ _ 119 _ (by simp [World.setCell])
    have hs1 : w.heap.size + 2 ≤ w2.heap.size := q1.lt
    have kbel : Below w.heap.size w (((w2.setRow w.heap.size (stc iv (.slice none 0 0) 0).toArray).setCell ⟨w.heap.size, 9, none⟩ (.int .i64 l)).alloc (.cells (bcells zer).toArray 119)) := ((below_setRow qbel (Nat.le_refl _) _).setCell (by simp) _).alloc (by simp [World.setCell]; omega) _
    change Code.wp _ _ _ _ (((w2.setRow w.heap.size (stc iv (.slice none 0 0) 0).toArray).setCell ⟨w.heap.size, 9, none⟩ (.int .i64 l)).alloc (.cells (bcells zer).toArray 119))
    generalize ((w2.setRow w.heap.size (stc iv (.slice none 0 0) 0).toArray).setCell ⟨w.heap.size, 9, none⟩ (.int .i64 l)).alloc (.cells (bcells zer).toArray 119) = W at *
    clear g0 g1 c9 c9z c9f gbel h0 h1 hbel hb1 hb2 q0 q1 qbel
    generalize w2.heap.size = G at *
    have c8 : W.cell? ⟨w.heap.size, 8, none⟩ = some (.slice none 0 0) := (kS.cell 8).trans rfl
    go_region_law (refine step_cp rfl (.tmp 25) (.tmp 27) 23 23 5 rfl under22 info5 G 0 64 64 rfl 119 _ kB.drew none 0 0 rfl (bcells []) rfl (Sl.nil) (by simp [bcells_len, zer_len]) (bcells_one _) ?_)
    go_simp
    go_wp2_with fail
    have e0 : spl (bcells zer) 0 [] = bcells zer := rfl
    have kB' : At (W.drew.setRow G (spl (bcells zer) 0 []).toArray) G 119 (bcells zer) := e0 ▸ kB.drew.setRow
    have kS' : At (W.drew.setRow G (spl (bcells zer) 0 []).toArray) w.heap.size 106 (stc iv (.slice none 0 0) (l : Int)) := kS.drew.setRow_far (by omega)
    have kR' : At (W.drew.setRow G (spl (bcells zer) 0 []).toArray) (w.heap.size + 1) 106 (stc ⟨0,0,0,0,0,0,0,0⟩ (.slice none 0 0) 0) := kR.drew.setRow_far (by omega)
    have kbel' : Below w.heap.size w (W.drew.setRow G (spl (bcells zer) 0 []).toArray) := below_setRow kbel.drew (by omega) _
    clear kS kR kB kbel c8 e0
    generalize W.drew.setRow G (spl (bcells zer) 0 []).toArray = W at *
    go_loopw [1, 6] (fun v f wr => ∃ (A' : Option Addr) (q c' f' : Nat) (bs' blk : List UInt8) (s' : St), v = .slice A' q c' ∧ Hid (bs'.length = q) ∧ q ≤ c' ∧ c' ≤ 140737488355328 ∧ q ≤ l ∧ f = .int .i64 f' ∧ f' < 64 ∧ Hid (blk.length = 64) ∧
        At wr w.heap.size 106 (stc s' (.slice none 0 0) (l : Int)) ∧ At wr (w.heap.size + 1) 106 (stc ⟨0,0,0,0,0,0,0,0⟩ (.slice none 0 0) 0) ∧ At wr G 119 (bcells blk) ∧ Sl w A' (bcells bs') ∧
        Hid (absorb iv bs = absorb s' (blk.take f' ++ bs')) ∧ Below w.heap.size w wr)
      (fun v _ _ => slLen v)
    case atStart => exact ⟨B, l, d, 0, bs, zer, iv, rfl, HL, hld, hd63, Nat.le_refl _, rfl, by omega, zer_len, kS', kR', kB', hb, rfl, kbel'⟩
    case round =>
      clear kS' kR' kB' kbel'
      obtain ⟨A', q, c', f', bs', blk, s', rfl, HQ, hqc, hc', hql, rfl, hf, HB, kS, kR, kB, kb, HA, kbel⟩ := hrel
      by_cases hge : 64 ≤ f' + q
      · have hmin : min q (64 - f') = 64 - f' := by omega
        have HA2 : ∃ A2, (if c' = 64 - f' then A' else A'.map (·.add (64 - f'))) = A2 := ⟨_, rfl⟩
        obtain ⟨A2, hA2⟩ := HA2
        have hcut := fun w' => run_from (P := Tryd.prog) bytesTy w' A' q c' (64 - f') .i64 (by omega)
        rw [hA2] at hcut
        have HA2 : Hid ((if c' = 64 - f' then A' else A'.map (·.add (64 - f'))) = A2) := hA2
        clear hA2
        have hsl : (Instr.sliceAt 119 (.pointer (some ⟨G, 0, none⟩)) (some (.int .i64 (f' : Int))) none none).run Tryd.prog wr = .ok (.slice (some ⟨G, f', none⟩) (64 - f') (64 - f')) wr := by
          simpa using run_arr_from under47 info5 wr G 0 f' .i64 hf
        obtain ⟨blk2, hblk2⟩ : ∃ b2, b2 = blk.take f' ++ bs'.take (64 - f') := ⟨_, rfl⟩
        have e1 : spl (bcells blk) f' ((bcells bs').take (64 - f')) = bcells blk2 := by
          rw [bcells_take, spl_bytes, List.drop_of_length_le (by simp [HB.out, HQ.out]; omega), hblk2]; simp
        have hl2 : blk2.length = 64 := by rw [hblk2]; simp [HB.out, HQ.out]; omega
        have kB2 : At (wr.setRow G (spl (bcells blk) f' ((bcells bs').take (64 - f'))).toArray) G 119 (bcells blk2) := by rw [e1]; exact kB.setRow
        have kS2 : At (wr.setRow G (spl (bcells blk) f' ((bcells bs').take (64 - f'))).toArray) w.heap.size 106 (stc s' (.slice none 0 0) (l : Int)) := kS.setRow_far (by omega)
        have kR2 : At (wr.setRow G (spl (bcells blk) f' ((bcells bs').take (64 - f'))).toArray) (w.heap.size + 1) 106 (stc ⟨0,0,0,0,0,0,0,0⟩ (.slice none 0 0) 0) := kR.setRow_far (by omega)
        have kbel2 : Below w.heap.size w (wr.setRow G (spl (bcells blk) f' ((bcells bs').take (64 - f'))).toArray) := below_setRow kbel (by omega) _
        have HB2 : Hid (blk2 = blk.take f' ++ bs'.take (64 - f')) := hblk2
        have hT2 := hT.below kbel2 hpos
        clear hblk2 e1
        go_wp2_with (first
          | (refine wpList_cp rfl (.tmp 36) (.tmp 37) 23 23 5 rfl under22 info5 G f' (64 - f') (64 - f') rfl 119 _ kB A' q c' rfl (bcells bs') (by rw [bcells_len]; exact HQ.out) (kb.below kbel) (by rw [bcells_len, HB.out]; omega) (bcells_one _) ?_; simp only [hmin])
          | (refine wpList_loadA rfl 104 (.tmp 40) rfl ty28 w.heap.size 0 rfl 106 _ kS2 (wcells s'.toL) rfl (by intro j hj; rw [Nat.zero_add]; exact (List.getElem?_append_left hj)) ?_)
          | (refine wpList_loadA rfl 119 (.tmp 5) rfl ty47 G 0 rfl 119 _ kB2 (bcells blk2) (by rw [bcells_len]; exact hl2) (all_at _) ?_)
          | (go_at_call 103; refine (mix_any s' blk2 _ hl2 hT2).mono ?_; rintro e w2 ⟨rfl, hb2⟩; have kS3 := kS2.below hb2 kS2.lt)
          | (refine wpList_storeA rfl rfl 104 (.tmp 44) (.tmp 43) rfl ty28 w.heap.size 0 rfl (wcells (compress s' blk2).toL) rfl 106 _ kS3 rfl (by rw [stc_len]; omega) (wcells_one _) ?_; simp only [stc_spl]))
        have kR3 := kR2.below hb2 kR2.lt
        have kB3 := kB2.below hb2 kB2.lt
        have kbel3 := kbel2.trans (hb2.mono (Nat.le_of_lt kS2.lt))
        go_roundw
        case rel =>
          refine ⟨A2, q - (64 - f'), c' - (64 - f'), 0, bs'.drop (64 - f'), blk2, compress s' blk2, rfl, ?_, by omega, by omega, by omega, rfl, by omega, hl2, kS3.setRow, kR3.setRow_far (by omega), kB3.setRow_far (by omega), ?_, ?_, below_setRow kbel3 (by omega) _⟩
          · show _ = _; rw [List.length_drop, HQ.out]
          · have := kb.cut (64 - f') c' (by rw [bcells_len, HQ.out]; exact hqc)
            rw [HA2.out, bcells_drop] at this; exact this
          · show _ = _
            rw [HA.out, absorb_round s' (blk.take f') bs' f' (by simp [HB.out]; omega) hf (by rw [HQ.out]; omega), HB2.out]; rfl
        case measure => simp [slLen]; omega
      · have hmin : min q (64 - f') = q := by omega
        have hsl : (Instr.sliceAt 119 (.pointer (some ⟨G, 0, none⟩)) (some (.int .i64 (f' : Int))) none none).run Tryd.prog wr = .ok (.slice (some ⟨G, f', none⟩) (64 - f') (64 - f')) wr := by
          simpa using run_arr_from under47 info5 wr G 0 f' .i64 hf
        have hto : ∀ w', (Instr.sliceAt 119 (.pointer (some ⟨G, 0, none⟩)) none (some (.int .i64 ((f' : Int) + (q : Int)))) none).run Tryd.prog w' = .ok (.slice (some ⟨G, 0, none⟩) (f' + q) 64) w' := by
          intro w'; simpa using run_arr_to under47 info5 w' G 0 (f' + q) .i64 (by omega) (by omega)
        obtain ⟨blk2, hblk2⟩ : ∃ b2, b2 = blk.take f' ++ bs' ++ blk.drop (f' + q) := ⟨_, rfl⟩
        have e1 : spl (bcells blk) f' ((bcells bs').take q) = bcells blk2 := by
          rw [bcells_take, spl_bytes, hblk2, List.take_of_length_le (Nat.le_of_eq HQ.out), HQ.out]
        have htake : blk2.take (f' + q) = blk.take f' ++ bs' := by
          rw [hblk2, List.take_append_of_le_length (by simp [HB.out, HQ.out]; omega), List.take_of_length_le (by simp [HB.out, HQ.out]; omega)]
        have HF : Hid (absorb iv bs = (s', blk.take f' ++ bs')) := by
          show _ = _; rw [HA.out, absorb_short _ _ (by simp [HB.out, HQ.out]; omega)]
        have hlen : (blk.take f' ++ bs').length = f' + q := by simp [HB.out, HQ.out]; omega
        have kB2 : At (wr.setRow G (spl (bcells blk) f' ((bcells bs').take q)).toArray) G 119 (bcells blk2) := by rw [e1]; exact kB.setRow
        have kS2 : At (wr.setRow G (spl (bcells blk) f' ((bcells bs').take q)).toArray) w.heap.size 106 (stc s' (.slice none 0 0) (l : Int)) := kS.setRow_far (by omega)
        have kR2 : At (wr.setRow G (spl (bcells blk) f' ((bcells bs').take q)).toArray) (w.heap.size + 1) 106 (stc ⟨0,0,0,0,0,0,0,0⟩ (.slice none 0 0) 0) := kR.setRow_far (by omega)
        have kbel2 : Below w.heap.size w (wr.setRow G (spl (bcells blk) f' ((bcells bs').take q)).toArray) := below_setRow kbel (by omega) _
        have hsz2 : w.heap.size ≤ (wr.setRow G (spl (bcells blk) f' ((bcells bs').take q)).toArray).heap.size := Nat.le_of_lt kS2.lt
        have hsB := Sl.of_at kB2 0 (f' + q)
        rw [List.drop_zero, bcells_take blk2, htake] at hsB
        have HLn : Hid ((blk.take f' ++ bs').length = f' + q) := hlen
        clear hblk2 e1 htake hlen
        go_wp2_with (first
          | (refine wpList_cp rfl (.tmp 47) (.tmp 48) 23 23 5 rfl under22 info5 G f' (64 - f') (64 - f') rfl 119 _ kB A' q c' rfl (bcells bs') (by rw [bcells_len]; exact HQ.out) (kb.below kbel) (by rw [bcells_len, HB.out]; omega) (bcells_one _) ?_; simp only [hmin])
          | (refine wpList_app rfl (.const (.slice none 0 0)) (.tmp 52) 23 rfl bytesTy (G + 1) (.slice none 0 0) 0 [] rfl (World.ownsRow_nil _ _ _ _) (some ⟨G, 0, none⟩) (f' + q) 64 (bcells (blk.take f' ++ bs')) rfl (by rw [bcells_len]; exact HLn.out) hsB (bcells_one _) (by omega) kB2.lt ?_; intro v3 w3 hown3 hgr3 hbl3; obtain ⟨A3, c3, rfl, hsl3, _, _, _, hA3⟩ := own_slice hown3; simp only [List.nil_append] at hsl3; have kS3 : At w3 w.heap.size 106 (stc s' (.slice none 0 0) (l : Int)) := (hgr3.block _ kS2.lt (by simp [Value.ownBlock])).trans kS2; have c8 : w3.cell? ⟨w.heap.size, 8, none⟩ = some (.slice none 0 0) := (kS3.cell 8).trans rfl; have c8f := kS3.froz 8; have kR3 : At w3 (w.heap.size + 1) 106 (stc ⟨0,0,0,0,0,0,0,0⟩ (.slice none 0 0) 0) := (hgr3.block _ kR2.lt (by simp [Value.ownBlock])).trans kR2; have kbel3 : Below w.heap.size w w3 := kbel2.grown hgr3 hsz2 (fun k hk => by cases hk))
          | (refine wpList_loadA rfl 106 (.tmp 2) rfl ty30 w.heap.size 0 rfl 106 _ (kS3.put 8 (.slice A3 (f' + q) c3)) (stc s' (.slice A3 (f' + q) c3) (l : Int)) rfl (all_at _) ?_)
          | (refine wpList_storeA rfl rfl 106 (.tmp 4) (.tmp 55) rfl ty30 (w.heap.size + 1) 0 rfl (stc s' (.slice A3 (f' + q) c3) (l : Int)) rfl 106 _ (kR3.far (by simp) _) rfl (by rw [stc_len]; omega) (stc_one _ _ _ _ _) ?_; simp only [stc_spl_all]))
        refine bodyPost_ret (v := .agg (stc s' (.slice A3 (f' + q) c3) (l : Int)).toArray) (results_cellA rfl ty30 _ _ (w.heap.size + 1) 106 _ rfl (kR3.far (by simp) _).setRow rfl) rfl ⟨A3, f' + q, c3, ?_, ?_, ?_, below_setRow (kbel3.setCell (by simp) _) (by omega) _⟩
        · rw [HF.out]
        · rw [HF.out]
          exact hsl3.from_ hA3 fun b o hb => (cell_setRow_ne _ _ _ _ _ (by omega)).trans (cell_setCell_ne _ _ _ _ _ _ (by omega))
        · rw [HF.out]; exact HLn.out
end Go.Proofs.YtihkfomldbjpoaaDoor.ShaW

namespace Go.Proofs.YtihkfomldbjpoaaDoor.ShaW
open Go.RowKit
open Sha
set_option maxRecDepth 100000 in
set_option maxHeartbeats 2000000 in
theorem end_ok (s : St) (A : Option Addr) (m c : Nat) (N : Nat) (r : List UInt8) (w : World) (hT : Tab w)
    (hm : r.length = m) (hr : Sl w A (bcells r)) (hn : okN m N) :
    Calls Tryd.prog 88 #[.agg (stc s (.slice A m c) N).toArray] w fun e w' => e = .returned (.string ⟨(digestSt s r N).toArray⟩) ∧ Below w.heap.size w w' := by
  have hpos := hT.pos
  have h0 : At (w.alloc (.cells (stc s (.slice A m c) N).toArray 106)) w.heap.size 106 (stc s (.slice A m c) N) := At.new_ w _ 106 _ rfl
  have hbel : Below w.heap.size w (w.alloc (.cells (stc s (.slice A m c) N).toArray 106)) := (Below.refl _ _).alloc (Nat.le_refl _) _
  have hm64 : m < 64 := by have := hn.2.2; have := hn.1; omega
  have hNN : (N : Int) ≤ 1099511627776 := hn.2.1
  have HN : Hid (okN m N) := hn
  have HM : Hid (r.length = m) := hm
  clear hn hm
  go_enter Tryd.func88, Tryd.ntmps88
  go_wp2_with (first
    | (refine wpList_loadA rfl 106 (.tmp 1) rfl ty30 w.heap.size 0 rfl 106 _ h0 (stc s (.slice A m c) N) rfl (all_at _) ?_)
    | (go_at_call 102; refine (valid_any s A m c N _ true (by omega) ⟨(fun _ => HN.out), (fun _ => rfl)⟩).mono ?_; rintro e w1 ⟨rfl, hb1⟩; have g0 := h0.below hb1 h0.lt; have gbel := hbel.trans (hb1.mono (Nat.le_of_lt h0.lt))))
  have hs1 : w.heap.size + 1 ≤ w1.heap.size := g0.lt
  have kS : At (w1.alloc (.cells (bcells zer).toArray 119)) w.heap.size 106 (stc s (.slice A m c) N) := g0.alloc _
  have kB : At (w1.alloc (.cells (bcells zer).toArray 119)) w1.heap.size 119 (bcells zer) := At.new_ _ _ 119 _ rfl
  have kbel : Below w.heap.size w (w1.alloc (.cells (bcells zer).toArray 119)) := gbel.alloc (by omega) _
  change Code.wp _ _ _ _ (w1.alloc (.cells (bcells zer).toArray 119))
  generalize w1.alloc (.cells (bcells zer).toArray 119) = W at *
  clear g0 gbel h0 hbel hb1
  generalize w1.heap.size = G at *
  have c8 : W.cell? ⟨w.heap.size, 8, none⟩ = some (.slice A m c) := (kS.cell 8).trans rfl
  go_region_law (refine step_cp rfl (.tmp 11) (.tmp 13) 23 23 5 rfl under22 info5 G 0 64 64 rfl 119 _ kB.drew A m c rfl (bcells r) (by rw [bcells_len]; exact HM.out) ((hr.below kbel).drew) (by simp [bcells_len, zer_len]; omega) (bcells_one _) ?_)
  have hmin : min m 64 = m := by omega
  have e0 : spl (bcells zer) 0 ((bcells r).take m) = bcells (r ++ zeros (64 - m)) := by
    rw [List.take_of_length_le (by rw [bcells_len]; exact Nat.le_of_eq HM.out), spl_bytes, HM.out]; unfold zer zeros; rw [List.take_zero, List.nil_append, Nat.zero_add, List.drop_replicate]
  have kB' : At (W.drew.setRow G (spl (bcells zer) 0 ((bcells r).take m)).toArray) G 119 (bcells (r ++ zeros (64 - m))) := e0 ▸ kB.drew.setRow
  have kS' : At (W.drew.setRow G (spl (bcells zer) 0 ((bcells r).take m)).toArray) w.heap.size 106 (stc s (.slice A m c) N) := kS.drew.setRow_far (by omega)
  have kbel' : Below w.heap.size w (W.drew.setRow G (spl (bcells zer) 0 ((bcells r).take m)).toArray) := below_setRow kbel.drew (by omega) _
  have cm : (W.drew.setRow G (spl (bcells zer) 0 ((bcells r).take m)).toArray).cell? ⟨G, m, none⟩ = some (.int .u8 (ub ((r ++ zeros (64 - m)).getD m 0))) := (kB'.cell m).trans (bcells_get _ _ (by simp [zeros_len, HM.out]; omega))
  have cmf := kB'.froz m
  have hb80 : (128 : Int) = ub 128 := rfl
  have HE : Hid (spl (bcells zer) 0 ((bcells r).take m) = bcells (r ++ zeros (64 - m))) := e0
  clear e0 c8 kS kB kbel
  generalize hWW : W.drew.setRow G (spl (bcells zer) 0 ((bcells r).take m)).toArray = W2 at *
  rw [hmin, hWW]
  clear hWW hmin
  have kB3 : At (W2.setCell ⟨G, m, none⟩ (.int .u8 (ub 128))) G 119 (bcells (r ++ 128 :: zeros (63 - m))) := by
    have := kB'.put m (.int .u8 (ub 128))
    rw [bcells_set, mark_set r m HM.out hm64] at this; exact this
  have kS3 : At (W2.setCell ⟨G, m, none⟩ (.int .u8 (ub 128))) w.heap.size 106 (stc s (.slice A m c) N) := kS'.far (by simp; omega) _
  have kbel3 : Below w.heap.size w (W2.setCell ⟨G, m, none⟩ (.int .u8 (ub 128))) := kbel'.setCell (by simp; omega) _
  have hl3 : (r ++ 128 :: zeros (63 - m)).length = 64 := by simp [zeros_len, HM.out]; omega
  have hT3 := hT.below kbel3 hpos
  clear hr
  by_cases h56 : 56 ≤ m
  · go_simp
    go_wp2_with (first
      | (refine wpList_loadA rfl 104 (.tmp 19) rfl ty28 w.heap.size 0 rfl 106 _ kS3 (wcells s.toL) rfl (by intro j hj; rw [Nat.zero_add]; exact (List.getElem?_append_left hj)) ?_)
      | (refine wpList_loadA rfl 119 (.tmp 3) rfl ty47 G 0 rfl 119 _ kB3 (bcells (r ++ 128 :: zeros (63 - m))) (by rw [bcells_len]; exact hl3) (all_at _) ?_)
      | (go_at_call 103; refine (mix_any s (r ++ 128 :: zeros (63 - m)) _ hl3 hT3).mono ?_; rintro e w3 ⟨rfl, hb3⟩; have kS4 := kS3.below hb3 kS3.lt; have kB4 := kB3.below hb3 kB3.lt; have kbel4 := kbel3.trans (hb3.mono (Nat.le_of_lt kS3.lt)))
      | (refine wpList_storeA rfl rfl 104 (.tmp 23) (.tmp 22) rfl ty28 w.heap.size 0 rfl (wcells (compress s (r ++ 128 :: zeros (63 - m))).toL) rfl 106 _ kS4 rfl (by rw [stc_len]; omega) (wcells_one _) ?_; simp only [stc_spl]; have kS5 := kS4.setRow (cs' := stc (compress s (r ++ 128 :: zeros (63 - m))) (.slice A m c) N); have kB5 := kB4.setRow_far (cs' := (stc (compress s (r ++ 128 :: zeros (63 - m))) (.slice A m c) N).toArray) (by omega : G ≠ w.heap.size); have kbel5 := below_setRow kbel4 (Nat.le_refl _) (stc (compress s (r ++ 128 :: zeros (63 - m))) (.slice A m c) N).toArray)
      | (refine wpList_store_whole rfl rfl 119 (.tmp 3) (.tmp 24) rfl G rfl (bcells (zeros 64)) rfl 119 _ kB5 (by rw [info47]; rfl) (by rw [bcells_len, bcells_len, hl3]; rfl) (bcells_one _) ?_; have kS6 := kS5.setRow_far (cs' := (bcells (zeros 64)).toArray) (by omega : w.heap.size ≠ G); have c9 : ((w3.setRow w.heap.size (stc (compress s (r ++ 128 :: zeros (63 - m))) (.slice A m c) N).toArray).setRow G (bcells (zeros 64)).toArray).cell? ⟨w.heap.size, 9, none⟩ = some (.int .i64 N) := (kS6.cell 9).trans rfl))
    have kB6 : At ((w3.setRow w.heap.size (stc (compress s (r ++ 128 :: zeros (63 - m))) (.slice A m c) N).toArray).setRow G (bcells (zeros 64)).toArray) G 119 (bcells (lenBlk (zeros 56) N 0)) := by
      rw [← zeros_blk]; exact kB5.setRow
    have kbel6 : Below w.heap.size w ((w3.setRow w.heap.size (stc (compress s (r ++ 128 :: zeros (63 - m))) (.slice A m c) N).toArray).setRow G (bcells (zeros 64)).toArray) := below_setRow kbel5 (by omega) _
    clear c9 kB5 kS5 kbel5 kB4 kS4 kbel4 hb3 hT3 hl3 kB3 kS3 kbel3 kB' kS' kbel' cm cmf
    go_loopw [29] (fun i wr => ∃ k : Nat, k ≤ 8 ∧ i = .int .i64 k ∧ At wr w.heap.size 106 (stc (compress s (r ++ 128 :: zeros (63 - m))) (.slice A m c) N) ∧ At wr G 119 (bcells (lenBlk (zeros 56) N k)) ∧ Below w.heap.size w wr)
      (fun i _ => 8 - (intOf i).toNat)
    case atStart => exact ⟨0, by omega, rfl, kS6, kB6, kbel6⟩
    case round =>
      clear kS6 kB6 kbel6
      obtain ⟨k, hk, rfl, qS, qB, qbel⟩ := hrel
      by_cases hlt : k < 8
      · have ck : wr.cell? ⟨G, 56 + k, none⟩ = some (.int .u8 (ub ((lenBlk (zeros 56) N k).getD (56 + k) 0))) := (qB.cell (56 + k)).trans (bcells_get _ _ (by rw [lenBlk_len _ _ _ (zeros_len 56) (by omega)]; omega))
        have ckf := qB.froz (56 + k)
        have hsh : Op.shift .shr .u64 ((N : Int) * 8) .i64 (56 - 8 * (k : Int)) = pure (.int .u64 ((N : Int) * 8 / 2 ^ (56 - 8 * k))) := by
          rw [shift_shr_any _ _ _ _ (by omega), show min (56 - 8 * (k : Int)).toNat IntKind.u64.bits = 56 - 8 * k by simp [IntKind.bits]; omega]
        have hby : (N : Int) * 8 / 2 ^ (56 - 8 * k) % 256 = ub (UInt8.ofNat (8 * N / 2 ^ (56 - 8 * k))) := by
          unfold ub; rw [UInt8.toNat_ofNat', show (N : Int) * 8 = ((8 * N : Nat) : Int) by omega]; simp
        go_wp2
        go_roundw
        case rel =>
          refine ⟨k + 1, by omega, by go_num, qS.far (by simp; omega) _, ?_, qbel.setCell (by simp; omega) _⟩
          have := qB.put (56 + k) (.int .u8 (ub (UInt8.ofNat (8 * N / 2 ^ (56 - 8 * k)))))
          rw [bcells_set, lenBlk_set _ _ _ (zeros_len 56) hlt] at this
          exact this
        case measure => simp [intOf]; omega
      · have hk8 : 8 ≤ k := by omega
        obtain ⟨bk, hbk⟩ : ∃ bk, bk = (zeros 56) ++ lenB N 8 := ⟨_, rfl⟩
        have qB8 : At wr G 119 (bcells bk) := by
          have e : k = 8 := by omega
          rw [e, lenBlk_full, ← hbk] at qB; exact qB
        have hT8 := hT.below qbel hpos
        have hl8 : bk.length = 64 := by rw [hbk, List.length_append, (zeros_len 56), lenB_len]
        have HBK : Hid (bk = (zeros 56) ++ lenB N 8) := hbk
        clear hbk
        clear qB
        go_wp2_with (first
          | (refine wpList_loadA rfl 104 (.tmp 42) rfl ty28 w.heap.size 0 rfl 106 _ qS (wcells (compress s (r ++ 128 :: zeros (63 - m))).toL) rfl (by intro j hj; rw [Nat.zero_add]; exact (List.getElem?_append_left hj)) ?_)
          | (refine wpList_loadA rfl 119 (.tmp 3) rfl ty47 G 0 rfl 119 _ qB8 (bcells bk) (by rw [bcells_len]; exact hl8) (all_at _) ?_)
          | (go_at_call 103; refine (mix_any (compress s (r ++ 128 :: zeros (63 - m))) bk _ hl8 hT8).mono ?_; rintro e w9 ⟨rfl, hb9⟩)
          | (go_at_call 104; refine (text_any _ _ rfl).mono ?_; rintro e w10 ⟨rfl, hb10⟩))
        go_ret
        refine ⟨?_, (qbel.trans (hb9.mono (Nat.le_of_lt qS.lt))).trans (hb10.mono (Nat.le_trans (Nat.le_of_lt qS.lt) hb9.size))⟩
        rw [HBK.out]; unfold digestSt finish; rw [if_pos (by rw [HM.out]; exact h56), HM.out]; rfl
  · go_simp
    have c9 : (W2.setCell ⟨G, m, none⟩ (.int .u8 (ub 128))).cell? ⟨w.heap.size, 9, none⟩ = some (.int .i64 N) := (kS3.cell 9).trans rfl
    go_wp2_with fail
    have hpre : (r ++ 128 :: zeros (55 - m)).length = 56 := by simp [zeros_len, HM.out]; omega
    have kB4 : At (W2.setCell ⟨G, m, none⟩ (.int .u8 (ub 128))) G 119 (bcells (lenBlk (r ++ 128 :: zeros (55 - m)) N 0)) := by
      rw [← mark_blk r m N HM.out (by omega)]; exact kB3
    have HP : Hid ((r ++ 128 :: zeros (55 - m)).length = 56) := hpre
    clear hpre c9 hT3 hl3 kB3 kB' kS' kbel' cm cmf
    go_loopw [29] (fun i wr => ∃ k : Nat, k ≤ 8 ∧ i = .int .i64 k ∧ At wr w.heap.size 106 (stc s (.slice A m c) N) ∧ At wr G 119 (bcells (lenBlk (r ++ 128 :: zeros (55 - m)) N k)) ∧ Below w.heap.size w wr)
      (fun i _ => 8 - (intOf i).toNat)
    case atStart => exact ⟨0, by omega, rfl, kS3, kB4, kbel3⟩
    case round =>
      clear kS3 kB4 kbel3
      obtain ⟨k, hk, rfl, qS, qB, qbel⟩ := hrel
      by_cases hlt : k < 8
      · have ck : wr.cell? ⟨G, 56 + k, none⟩ = some (.int .u8 (ub ((lenBlk (r ++ 128 :: zeros (55 - m)) N k).getD (56 + k) 0))) := (qB.cell (56 + k)).trans (bcells_get _ _ (by rw [lenBlk_len _ _ _ HP.out (by omega)]; omega))
        have ckf := qB.froz (56 + k)
        have hsh : Op.shift .shr .u64 ((N : Int) * 8) .i64 (56 - 8 * (k : Int)) = pure (.int .u64 ((N : Int) * 8 / 2 ^ (56 - 8 * k))) := by
          rw [shift_shr_any _ _ _ _ (by omega), show min (56 - 8 * (k : Int)).toNat IntKind.u64.bits = 56 - 8 * k by simp [IntKind.bits]; omega]
        have hby : (N : Int) * 8 / 2 ^ (56 - 8 * k) % 256 = ub (UInt8.ofNat (8 * N / 2 ^ (56 - 8 * k))) := by
          unfold ub; rw [UInt8.toNat_ofNat', show (N : Int) * 8 = ((8 * N : Nat) : Int) by omega]; simp
        go_wp2
        go_roundw
        case rel =>
          refine ⟨k + 1, by omega, by go_num, qS.far (by simp; omega) _, ?_, qbel.setCell (by simp; omega) _⟩
          have := qB.put (56 + k) (.int .u8 (ub (UInt8.ofNat (8 * N / 2 ^ (56 - 8 * k)))))
          rw [bcells_set, lenBlk_set _ _ _ HP.out hlt] at this
          exact this
        case measure => simp [intOf]; omega
      · have hk8 : 8 ≤ k := by omega
        obtain ⟨bk, hbk⟩ : ∃ bk, bk = (r ++ 128 :: zeros (55 - m)) ++ lenB N 8 := ⟨_, rfl⟩
        have qB8 : At wr G 119 (bcells bk) := by
          have e : k = 8 := by omega
          rw [e, lenBlk_full, ← hbk] at qB; exact qB
        have hT8 := hT.below qbel hpos
        have hl8 : bk.length = 64 := by rw [hbk, List.length_append, HP.out, lenB_len]
        have HBK : Hid (bk = (r ++ 128 :: zeros (55 - m)) ++ lenB N 8) := hbk
        clear hbk
        clear qB
        go_wp2_with (first
          | (refine wpList_loadA rfl 104 (.tmp 42) rfl ty28 w.heap.size 0 rfl 106 _ qS (wcells s.toL) rfl (by intro j hj; rw [Nat.zero_add]; exact (List.getElem?_append_left hj)) ?_)
          | (refine wpList_loadA rfl 119 (.tmp 3) rfl ty47 G 0 rfl 119 _ qB8 (bcells bk) (by rw [bcells_len]; exact hl8) (all_at _) ?_)
          | (go_at_call 103; refine (mix_any s bk _ hl8 hT8).mono ?_; rintro e w9 ⟨rfl, hb9⟩)
          | (go_at_call 104; refine (text_any _ _ rfl).mono ?_; rintro e w10 ⟨rfl, hb10⟩))
        go_ret
        refine ⟨?_, (qbel.trans (hb9.mono (Nat.le_of_lt qS.lt))).trans (hb10.mono (Nat.le_trans (Nat.le_of_lt qS.lt) hb9.size))⟩
        rw [HBK.out]; unfold digestSt finish; rw [if_neg (by rw [HM.out]; exact h56), HM.out]; rfl
end Go.Proofs.YtihkfomldbjpoaaDoor.ShaW

namespace Go.Proofs.YtihkfomldbjpoaaDoor.ShaW
open Go.RowKit
open Sha
set_option maxRecDepth 100000 in
set_option maxHeartbeats 2000000 in
theorem end_bad (s : St) (A : Option Addr) (m c : Nat) (n : Int) (w : World) (hT : Tab w) (hm63 : m ≤ 9223372036854775807) (hn : ¬ okN m n) :
    Calls Tryd.prog 88 #[.agg (stc s (.slice A m c) n).toArray] w fun e w' => e = .returned (.string ⟨(digestSt iv [] 0).toArray⟩) ∧ Below w.heap.size w w' := by
  have hpos := hT.pos
  have h0 : At (w.alloc (.cells (stc s (.slice A m c) n).toArray 106)) w.heap.size 106 (stc s (.slice A m c) n) := At.new_ w _ 106 _ rfl
  have hbel : Below w.heap.size w (w.alloc (.cells (stc s (.slice A m c) n).toArray 106)) := (Below.refl _ _).alloc (Nat.le_refl _) _
  have HN : Hid (¬ okN m n) := hn
  clear hn
  go_enter Tryd.func88, Tryd.ntmps88
  go_wp2_with (first
    | (refine wpList_loadA rfl 106 (.tmp 1) rfl ty30 w.heap.size 0 rfl 106 _ h0 (stc s (.slice A m c) n) rfl (all_at _) ?_)
    | (go_at_call 102; refine (valid_any s A m c n _ false hm63 ⟨(fun h => Bool.noConfusion h), (fun h => absurd h HN.out)⟩).mono ?_; rintro e w1 ⟨rfl, hb1⟩; have g0 := h0.below hb1 h0.lt; have gbel := hbel.trans (hb1.mono (Nat.le_of_lt h0.lt)))
    | (go_at_call 90; refine (new_any _).mono ?_; rintro e w2 ⟨rfl, hb2⟩; have q0 := g0.below hb2 g0.lt; have qbel := gbel.trans (hb2.mono (Nat.le_of_lt g0.lt)))
    | (refine wpList_storeA rfl rfl 106 (.tmp 1) (.tmp 10) rfl ty30 w.heap.size 0 rfl (stc iv (.slice none 0 0) 0) rfl 106 _ q0 rfl (by rw [stc_len]; omega) (stc_one _ _ _ _ _) ?_; simp only [stc_spl_all]))
  have hs1 : w.heap.size + 1 ≤ w2.heap.size := q0.lt
  have kS : At ((w2.setRow w.heap.size (stc iv (.slice none 0 0) 0).toArray).alloc (.cells (bcells zer).toArray 119)) w.heap.size 106 (stc iv (.slice none 0 0) 0) := q0.setRow.alloc _
  have kB : At ((w2.setRow w.heap.size (stc iv (.slice none 0 0) 0).toArray).alloc (.cells (bcells zer).toArray 119)) w2.heap.size 119 (bcells zer) := At.new_ _ _ 119 _ (by simp)
  have kbel : Below w.heap.size w ((w2.setRow w.heap.size (stc iv (.slice none 0 0) 0).toArray).alloc (.cells (bcells zer).toArray 119)) := (below_setRow qbel (Nat.le_refl _) _).alloc (by simp; omega) _
  change Code.wp _ _ _ _ ((w2.setRow w.heap.size (stc iv (.slice none 0 0) 0).toArray).alloc (.cells (bcells zer).toArray 119))
  generalize (w2.setRow w.heap.size (stc iv (.slice none 0 0) 0).toArray).alloc (.cells (bcells zer).toArray 119) = W at *
  clear g0 gbel h0 hbel hb1 hb2 q0 qbel
  generalize w2.heap.size = G at *
  have c8 : W.cell? ⟨w.heap.size, 8, none⟩ = some (.slice none 0 0) := (kS.cell 8).trans rfl
  go_region_law (refine step_cp rfl (.tmp 11) (.tmp 13) 23 23 5 rfl under22 info5 G 0 64 64 rfl 119 _ kB.drew none 0 0 rfl (bcells []) rfl Sl.nil (by simp [bcells_len, zer_len]) (bcells_one _) ?_)
  have kB' : At (W.drew.setRow G (spl (bcells zer) 0 []).toArray) G 119 (bcells zer) := (show spl (bcells zer) 0 [] = bcells zer from rfl) ▸ kB.drew.setRow
  have kS' : At (W.drew.setRow G (spl (bcells zer) 0 []).toArray) w.heap.size 106 (stc iv (.slice none 0 0) 0) := kS.drew.setRow_far (by omega)
  have kbel' : Below w.heap.size w (W.drew.setRow G (spl (bcells zer) 0 []).toArray) := below_setRow kbel.drew (by omega) _
  have cm : (W.drew.setRow G (spl (bcells zer) 0 []).toArray).cell? ⟨G, 0, none⟩ = some (.int .u8 (ub 0)) := (kB'.cell 0).trans rfl
  have cmf := kB'.froz 0
  have hb80 : (128 : Int) = ub 128 := rfl
  clear c8 kS kB kbel
  change Exit.then _ _ _ _ (W.drew.setRow G (spl (bcells zer) 0 []).toArray)
  generalize W.drew.setRow G (spl (bcells zer) 0 []).toArray = W2 at *
  have kB3 : At (W2.setCell ⟨G, 0, none⟩ (.int .u8 (ub 128))) G 119 (bcells (lenBlk (128 :: zeros 55) 0 0)) := kB'.put 0 (.int .u8 (ub 128))
  have kS3 : At (W2.setCell ⟨G, 0, none⟩ (.int .u8 (ub 128))) w.heap.size 106 (stc iv (.slice none 0 0) 0) := kS'.far (by simp; omega) _
  have kbel3 : Below w.heap.size w (W2.setCell ⟨G, 0, none⟩ (.int .u8 (ub 128))) := kbel'.setCell (by simp; omega) _
  go_simp
  have c9 : (W2.setCell ⟨G, 0, none⟩ (.int .u8 (ub 128))).cell? ⟨w.heap.size, 9, none⟩ = some (.int .i64 0) := (kS3.cell 9).trans rfl
  go_wp2_with fail
  have hpre : (128 :: zeros 55 : List UInt8).length = 56 := rfl
  have kB4 : At (W2.setCell ⟨G, 0, none⟩ (.int .u8 (ub 128))) G 119 (bcells (lenBlk (128 :: zeros 55) 0 0)) := by
    exact kB3
  have HP : Hid ((128 :: zeros 55 : List UInt8).length = 56) := hpre
  clear hpre c9 kB' kS' kbel' cm cmf
  go_loopw [29] (fun i wr => ∃ k : Nat, k ≤ 8 ∧ i = .int .i64 k ∧ At wr w.heap.size 106 (stc iv (.slice none 0 0) 0) ∧ At wr G 119 (bcells (lenBlk (128 :: zeros 55) 0 k)) ∧ Below w.heap.size w wr)
    (fun i _ => 8 - (intOf i).toNat)
  case atStart => exact ⟨0, by omega, rfl, kS3, kB4, kbel3⟩
  case round =>
    clear kS3 kB4 kbel3
    obtain ⟨k, hk, rfl, qS, qB, qbel⟩ := hrel
    by_cases hlt : k < 8
    · have ck : wr.cell? ⟨G, 56 + k, none⟩ = some (.int .u8 (ub ((lenBlk (128 :: zeros 55) 0 k).getD (56 + k) 0))) := (qB.cell (56 + k)).trans (bcells_get _ _ (by rw [lenBlk_len _ _ _ HP.out (by omega)]; omega))
      have ckf := qB.froz (56 + k)
      have hsh : Op.shift .shr .u64 ((0 : Int)) .i64 (56 - 8 * (k : Int)) = pure (.int .u64 ((0 : Int) / 2 ^ (56 - 8 * k))) := by
        rw [shift_shr_any _ _ _ _ (by omega), show min (56 - 8 * (k : Int)).toNat IntKind.u64.bits = 56 - 8 * k by simp [IntKind.bits]; omega]
      have hby : (0 : Int) / 2 ^ (56 - 8 * k) % 256 = ub (UInt8.ofNat (8 * 0 / 2 ^ (56 - 8 * k))) := by
        unfold ub; rw [UInt8.toNat_ofNat', show (0 : Int) = ((8 * 0 : Nat) : Int) by omega]; simp
      go_wp2
      go_roundw
      case rel =>
        refine ⟨k + 1, by omega, by go_num, qS.far (by simp; omega) _, ?_, qbel.setCell (by simp; omega) _⟩
        have := qB.put (56 + k) (.int .u8 (ub (UInt8.ofNat (8 * 0 / 2 ^ (56 - 8 * k)))))
        rw [bcells_set, lenBlk_set _ _ _ HP.out hlt, show ub (UInt8.ofNat (8 * 0 / 2 ^ (56 - 8 * k))) = 0 by simp [ub]] at this
        exact this
      case measure => simp [intOf]; omega
    · have hk8 : 8 ≤ k := by omega
      obtain ⟨bk, hbk⟩ : ∃ bk, bk = (128 :: zeros 55) ++ lenB 0 8 := ⟨_, rfl⟩
      have qB8 : At wr G 119 (bcells bk) := by
        have e : k = 8 := by omega
        rw [e, lenBlk_full, ← hbk] at qB; exact qB
      have hT8 := hT.below qbel hpos
      have hl8 : bk.length = 64 := by rw [hbk, List.length_append, HP.out, lenB_len]
      have HBK : Hid (bk = (128 :: zeros 55) ++ lenB 0 8) := hbk
      clear hbk
      clear qB
      go_wp2_with (first
        | (refine wpList_loadA rfl 104 (.tmp 42) rfl ty28 w.heap.size 0 rfl 106 _ qS (wcells iv.toL) rfl (by intro j hj; rw [Nat.zero_add]; exact (List.getElem?_append_left hj)) ?_)
        | (refine wpList_loadA rfl 119 (.tmp 3) rfl ty47 G 0 rfl 119 _ qB8 (bcells bk) (by rw [bcells_len]; exact hl8) (all_at _) ?_)
        | (go_at_call 103; refine (mix_any iv bk _ hl8 hT8).mono ?_; rintro e w9 ⟨rfl, hb9⟩)
        | (go_at_call 104; refine (text_any _ _ rfl).mono ?_; rintro e w10 ⟨rfl, hb10⟩))
      go_ret
      refine ⟨?_, (qbel.trans (hb9.mono (Nat.le_of_lt qS.lt))).trans (hb10.mono (Nat.le_trans (Nat.le_of_lt qS.lt) hb9.size))⟩
      rw [HBK.out]; rfl
end Go.Proofs.YtihkfomldbjpoaaDoor.ShaW

namespace Go.Proofs.YtihkfomldbjpoaaDoor.ShaW
open Go.RowKit
open Sha
theorem okN_abs (bs : List UInt8) (l m' : Nat) (hl : bs.length = l) (hm : (absorb iv bs).2.length = m') (h : l ≤ 1099511627776) : okN m' (l : Int) := by
  rw [absorb_len, hl] at hm
  exact ⟨by omega, by omega, by omega⟩
set_option maxHeartbeats 1000000 in
theorem sum_any (B : Option Addr) (l d : Nat) (bs : List UInt8) (w : World) (hT : Tab w) (hl : bs.length = l) (hb : Sl w B (bcells bs)) (hl40 : l ≤ 1099511627776) (hld : l ≤ d) (hd63 : d ≤ 140737488355328) :
    Calls Tryd.prog 63 #[.slice B l d] w fun e w' => e = .returned (.string ⟨(sha bs).toArray⟩) ∧ Below w.heap.size w w' := by
  have HL : Hid (bs.length = l) := hl
  have hpos := hT.pos
  clear hl
  go_enter Tryd.func63, Tryd.ntmps63
  go_wp2_with fail
  refine (new_any _).mono ?_
  rintro e w1 ⟨rfl, hb1⟩
  go_wp2_with fail
  refine (add_ok iv none 0 0 0 [] B l d bs w1 (hT.below hb1 hpos) rfl Sl.nil HL.out (hb.below hb1) ⟨by omega, by omega, rfl⟩ (by omega) hld (by omega)).mono ?_
  rintro e w2 ⟨A', m', c', rfl, hA', hm', hb2⟩
  rw [List.nil_append] at hA' hm'
  rw [List.nil_append, Int.zero_add]
  have HM : Hid ((absorb iv bs).2.length = m') := hm'
  clear hm'
  go_wp2_with fail
  refine (end_ok (absorb iv bs).1 A' m' c' l (absorb iv bs).2 w2 ((hT.below hb1 hpos).below hb2 (hT.below hb1 hpos).pos) HM.out hA' (okN_abs bs l m' HL.out HM.out hl40)).mono ?_
  rintro e w3 ⟨rfl, hb3⟩
  go_wp2_with fail
  go_ret
  refine ⟨?_, (hb1.trans (hb2.mono hb1.size)).trans (hb3.mono (Nat.le_trans hb1.size hb2.size))⟩
  unfold sha
  rw [HL.out]
  rfl
end Go.Proofs.YtihkfomldbjpoaaDoor.ShaW

namespace Go.Proofs.YtihkfomldbjpoaaDoor.ShaW
open Go.RowKit
open Sha
set_option maxHeartbeats 1000000 in
theorem sum_wide (B : Option Addr) (l d : Nat) (bs : List UInt8) (w : World) (hT : Tab w) (hl : bs.length = l) (hb : Sl w B (bcells bs)) (hl40 : l ≤ 1099511627776) (hld : l ≤ d) (hd63 : d ≤ 9223372036854775807) :
    Calls Tryd.prog 63 #[.slice B l d] w fun e w' => e = .returned (.string ⟨(sha bs).toArray⟩) ∧ Below w.heap.size w w' := by
  have HL : Hid (bs.length = l) := hl
  have hpos := hT.pos
  clear hl
  go_enter Tryd.func63, Tryd.ntmps63
  go_wp2_with fail
  refine (new_any _).mono ?_
  rintro e w1 ⟨rfl, hb1⟩
  go_wp2_with fail
  refine (add_ok iv none 0 0 0 [] B l d bs w1 (hT.below hb1 hpos) rfl Sl.nil HL.out (hb.below hb1) ⟨by omega, by omega, rfl⟩ (by omega) hld (by omega)).mono ?_
  rintro e w2 ⟨A', m', c', rfl, hA', hm', hb2⟩
  rw [List.nil_append] at hA' hm'
  rw [List.nil_append, Int.zero_add]
  have HM : Hid ((absorb iv bs).2.length = m') := hm'
  clear hm'
  go_wp2_with fail
  refine (end_ok (absorb iv bs).1 A' m' c' l (absorb iv bs).2 w2 ((hT.below hb1 hpos).below hb2 (hT.below hb1 hpos).pos) HM.out hA' (okN_abs bs l m' HL.out HM.out hl40)).mono ?_
  rintro e w3 ⟨rfl, hb3⟩
  go_wp2_with fail
  go_ret
  refine ⟨?_, (hb1.trans (hb2.mono hb1.size)).trans (hb3.mono (Nat.le_trans hb1.size hb2.size))⟩
  unfold sha
  rw [HL.out]
  rfl
end Go.Proofs.YtihkfomldbjpoaaDoor.ShaW

/- seal: Node. -/
namespace Go.Proofs.YtihkfomldbjpoaaDoor.SealW
open Go.RowKit
open ShaW Sha
set_option maxHeartbeats 1000000 in
theorem node_any (l r : ByteArray) (w : World) (hT : Tab w) (h1 : l.size = 32) (h2 : r.size = 32) :
    Calls Tryd.prog 85 #[.string l, .string r] w fun e w' => e = .returned (.tuple #[.string ⟨(sha (1 :: (l.data.toList ++ r.data.toList))).toArray⟩, .int .i64 0]) ∧ Below w.heap.size w w' := by
  have HF : Hid ((1 :: (l.data.toList ++ r.data.toList) : List UInt8).length = l.size + r.size + 1) := by show _ = _; simp
  have H1 : Hid (l.size = 32) := h1
  have H2 : Hid (r.size = 32) := h2
  have e1 : ((l.size : Nat) : Int) = 32 := by omega
  have e2 : ((r.size : Nat) : Int) = 32 := by omega
  have hpos := hT.pos
  clear h1 h2
  go_enter Tryd.func85, Tryd.ntmps85
  go_wp2_with fail
  refine (nodeBytes_any l r _ (by rw [H1.out]; omega) (by rw [H2.out]; omega)).mono ?_
  rintro e w1 ⟨A', c', rfl, hs1, hc1, hm1, hb1⟩
  go_wp2_with fail
  refine (sum_wide A' (l.size + r.size + 1) c' _ _ (hT.below hb1 hpos) HF.out hs1 (by rw [H1.out, H2.out]; omega) hc1 (by unfold maxLen at hm1; omega)).mono ?_
  rintro e w2 ⟨rfl, hb2⟩
  have hbel := hb1.trans (hb2.mono hb1.size)
  go_wp2_with fail
  go_ret2
  exact ⟨rfl, hbel⟩
theorem node_bad (l r : ByteArray) (w : World) (h : l.size ≠ 32 ∨ r.size ≠ 32) :
    Calls Tryd.prog 85 #[.string l, .string r] w fun e w' => e = .returned (.tuple #[.string ⟨#[]⟩, .int .i64 1]) ∧ w = w' := by
  by_cases h1 : l.size = 32
  · have h2 : r.size ≠ 32 := by omega
    have e1 : ((l.size : Nat) : Int) = 32 := by omega
    have e2 : ¬ ((r.size : Nat) : Int) = 32 := by omega
    clear h h1 h2
    go_enter Tryd.func85, Tryd.ntmps85
    go_wp2_with fail
    go_ret2
    exact ⟨rfl, rfl⟩
  · have e1 : ¬ ((l.size : Nat) : Int) = 32 := by omega
    clear h h1
    go_enter Tryd.func85, Tryd.ntmps85
    go_wp2_with fail
    go_ret2
    exact ⟨rfl, rfl⟩
end Go.Proofs.YtihkfomldbjpoaaDoor.SealW

/- seal: LeafBytes. -/
namespace Go.Proofs.YtihkfomldbjpoaaDoor.SealW
open Go.RowKit
set_option maxHeartbeats 1000000 in
theorem leafBytes_any (B : Option Addr) (l d : Nat) (bs : List UInt8) (w : World) (hl : bs.length = l) (hb : Sl w B (bcells bs)) (h45 : l ≤ 35184372088832) :
    Calls Tryd.prog 68 #[.slice B l d] w fun e w' => ∃ A' c', e = .returned (.slice A' (l + 1) c') ∧ Sl w' A' (bcells (0 :: bs)) ∧ l + 1 ≤ c' ∧ c' ≤ maxLen ∧ Below w.heap.size w w' := by
  have HL : Hid (bs.length = l) := hl
  have HF : Hid ((0 :: [bs].flatten).length = l + 1) := by show _ = _; simp [hl]
  have h0 : Below w.heap.size w (w.alloc (.cells #[.slice B l d] 23)) := (Below.refl _ _).alloc (Nat.le_refl _) _
  have hs : Sl (w.alloc (.cells #[.slice B l d] 23)) (some ⟨w.heap.size, 0, none⟩) [.slice B l d] := Sl.of_at_all (At.new_ w _ 23 [.slice B l d] rfl)
  clear hl
  go_enter Tryd.func68, Tryd.ntmps68
  go_wp2_with fail
  refine (marked_any 0 (some ⟨w.heap.size, 0, none⟩) 1 1 [.slice B l d] [bs] _ rfl rfl hs (Parts.one HL.out (hb.below h0)) (by omega) (by simp [HL.out]; omega)).mono ?_
  rintro e w1 ⟨A', c', rfl, hs1, hc1, hm1, hb1⟩
  rw [HF.out] at hc1 ⊢
  have hbel := h0.trans (hb1.mono h0.size)
  go_wp2_with fail
  go_ret
  exact ⟨A', c', rfl, by simpa using hs1, hc1, hm1, hbel⟩
end Go.Proofs.YtihkfomldbjpoaaDoor.SealW

/- seal: Leaf. -/
namespace Go.Proofs.YtihkfomldbjpoaaDoor.SealW
open Go.RowKit
open ShaW Sha
set_option maxHeartbeats 1000000 in
theorem leaf_any (B : Option Addr) (l d : Nat) (bs : List UInt8) (w : World) (hT : Tab w) (hl : bs.length = l) (hb : Sl w B (bcells bs)) (h40 : l ≤ 1000000000000) :
    Calls Tryd.prog 34 #[.slice B l d] w fun e w' => e = .returned (.string ⟨(sha (0 :: bs)).toArray⟩) ∧ Below w.heap.size w w' := by
  have HL : Hid (bs.length = l) := hl
  have HF : Hid ((0 :: bs : List UInt8).length = l + 1) := by show _ = _; simp [hl]
  have hpos := hT.pos
  clear hl
  go_enter Tryd.func34, Tryd.ntmps34
  go_wp2_with fail
  refine (leafBytes_any B l d bs _ HL.out hb (by omega)).mono ?_
  rintro e w1 ⟨A', c', rfl, hs1, hc1, hm1, hb1⟩
  go_wp2_with fail
  refine (sum_wide A' (l + 1) c' (0 :: bs) _ (hT.below hb1 hpos) HF.out hs1 (by omega) hc1 (by unfold maxLen at hm1; omega)).mono ?_
  rintro e w2 ⟨rfl, hb2⟩
  have hbel := hb1.trans (hb2.mono hb1.size)
  go_wp2_with fail
  go_ret
  exact ⟨rfl, hbel⟩
end Go.Proofs.YtihkfomldbjpoaaDoor.SealW

/- Sums have 32 bytes. -/
namespace Go.Proofs.YtihkfomldbjpoaaDoor.SealW
open Go.RowKit
open ShaW Sha
theorem sha_len (l : List UInt8) : (sha l).length = 32 := by unfold sha digestSt; rw [textB_len]; rfl
theorem self_no (l : List UInt8) : decide (l ≠ l ∧ sha l = sha l) = false := by simp
theorem mk_size (l : List UInt8) : (⟨l.toArray⟩ : ByteArray).size = l.length := by simp [ByteArray.size]
theorem sha_size (l : List UInt8) : (⟨(sha l).toArray⟩ : ByteArray).size = 32 := by rw [mk_size, sha_len]
end Go.Proofs.YtihkfomldbjpoaaDoor.SealW

/- tree: digests, node, combined, root. -/
namespace Go.Proofs.YtihkfomldbjpoaaDoor.TrW
open Go.RowKit TreeW
open ShaW Sha
/-- The digest of a node; of nothing; the root of digests. -/
def nd (l r : ByteArray) : ByteArray := ⟨(sha (1 :: (l.data.toList ++ r.data.toList))).toArray⟩
def ed : ByteArray := ⟨(sha []).toArray⟩
def rt (ss : List ByteArray) : ByteArray := root nd ed ss
/-- Digests all. -/
def Digs (ss : List ByteArray) : Prop := ∀ x ∈ ss, x.size = 32
theorem Digs.take {ss : List ByteArray} (h : Digs ss) (k : Nat) : Digs (ss.take k) := fun x hx => h x (List.mem_of_mem_take hx)
theorem Digs.drop {ss : List ByteArray} (h : Digs ss) (k : Nat) : Digs (ss.drop k) := fun x hx => h x (List.mem_of_mem_drop hx)
instance (ss : List ByteArray) : Decidable (Digs ss) := by unfold Digs; infer_instance
theorem nd_size (l r : ByteArray) : (nd l r).size = 32 := SealW.sha_size _
theorem ed_size : ed.size = 32 := SealW.sha_size _
theorem rt_size : ∀ (m : Nat) (ss : List ByteArray), ss.length ≤ m → Digs ss → (rt ss).size = 32
  | m, [], _, _ => ed_size
  | m, [x], _, h => h x (by simp)
  | m, x :: y :: l, hm, h => by
    unfold rt
    rw [root_two nd ed _ (by simp)]
    exact nd_size _ _
theorem digs_take_succ {ss : List ByteArray} {j : Nat} {s : ByteArray} (hs : ss[j]? = some s) (h : Digs (ss.take j)) (h32 : s.size = 32) : Digs (ss.take (j + 1)) := by
  intro x hx
  rw [List.take_add_one, hs] at hx
  rcases List.mem_append.1 hx with hx | hx
  · exact h x hx
  · simp at hx; subst hx; exact h32
theorem get_of {ss : List ByteArray} {j : Nat} (h : j < ss.length) : ss[j]? = some (ss.getD j ⟨#[]⟩) := by simp [h]
set_option maxHeartbeats 1000000 in
theorem digests_any (A : Option Addr) (l c : Nat) (ss : List ByteArray) (w : World) (hl : ss.length = l) (hs : Sl w A (scells ss)) (hl63 : l ≤ 9223372036854775807) :
    Calls Tryd.prog 57 #[.slice A l c] w fun e w' => e = .returned (.bool (decide (Digs ss))) ∧ w = w' := by
  have HL := Lib.hid hl
  clear hl
  go_enter Tryd.func57, Tryd.ntmps57
  go_wp2_with fail
  go_loop [4, 7] (fun _ i => ∃ j : Nat, j ≤ l ∧ i = .int .i64 (j : Int) ∧ Hid (Digs (ss.take j))) (fun _ i => l - (intOf i).toNat)
  case atStart => exact ⟨0, by omega, rfl, fun x hx => by simp at hx⟩
  case round =>
    obtain ⟨j, hj, rfl, HK⟩ := hrel
    by_cases hlt : j < l
    · obtain ⟨b, o, rfl, hblt, hcell⟩ := hs.get (j := j) (by rw [scells_len, HL.out]; exact hlt)
      have hc0 := hcell j _ (scells_get ss j (by rw [HL.out]; exact hlt))
      have hget := get_of (ss := ss) (j := j) (by rw [HL.out]; exact hlt)
      obtain ⟨s, hsj⟩ : ∃ s, ss.getD j ⟨#[]⟩ = s := ⟨_, rfl⟩
      rw [hsj] at hc0 hget
      have HG := Lib.hid hget
      clear hcell hget hsj
      by_cases h32 : s.size = 32
      · have h1 : (s.size : Int) = 32 := by omega
        have HN := Lib.hid (digs_take_succ HG.out HK.out h32)
        clear h32
        go_wp2_with fail
        go_round
        case rel => exact ⟨j + 1, by omega, by go_num, HN⟩
        case measure => simp [intOf]; omega
      · have h1 : ¬ (s.size : Int) = 32 := by omega
        have HF : Hid (decide (Digs ss) = false) := decide_eq_false (fun h => h32 (h s (List.mem_of_getElem? HG.out)))
        clear h32
        go_wp2_with fail
        go_ret
        exact ⟨by rw [HF.out]; rfl, rfl⟩
    · have HF : Hid (decide (Digs ss) = true) := decide_eq_true (by
        have := HK.out
        rwa [List.take_of_length_le (by rw [HL.out]; omega)] at this)
      go_wp2_with fail
      go_ret
      exact ⟨by rw [HF.out]; rfl, rfl⟩
theorem node_any (l r : ByteArray) (w : World) (hT : Tab w) (h1 : l.size = 32) (h2 : r.size = 32) :
    Calls Tryd.prog 58 #[.string l, .string r] w fun e w' => e = .returned (.string (nd l r)) ∧ Below w.heap.size w w' := by
  have H1 := Lib.hid h1
  have H2 := Lib.hid h2
  clear h1 h2
  go_enter Tryd.func58, Tryd.ntmps58
  go_wp2_with fail
  refine (SealW.node_any l r _ hT H1.out H2.out).mono ?_
  rintro e w1 ⟨rfl, hb1⟩
  go_wp2_with fail
  go_ret
  exact ⟨rfl, hb1⟩
set_option maxRecDepth 100000 in
set_option maxHeartbeats 2000000 in
theorem combined_any (B : Nat) (v : Value) (st : List ByteArray) (x y : ByteArray) (w : World) (hT : ∀ W, Below B w W → Tab W) (hB : B ≤ w.heap.size) (hv : OwS B w v (st ++ [x, y])) (h1 : x.size = 32) (h2 : y.size = 32) (hm : st.length ≤ 1099511627776) :
    Calls Tryd.prog 105 #[v] w fun e w' => ∃ v', e = .returned v' ∧ OwS B w' v' (st ++ [nd x y]) ∧ Below B w w' := by
  have hb0 : Below B w w := Below.refl _ _
  have Zx := Lib.hid h1
  have Zy := Lib.hid h2
  obtain ⟨g, c, rfl, hBg, hgs, hnc, hcm⟩ := hv.block (by simp)
  obtain ⟨m, hm1⟩ : ∃ m, st.length = m := ⟨_, rfl⟩
  have HM := Lib.hid hm1
  have hlen : (st ++ [x, y]).length = m + 2 := by rw [List.length_append, hm1]; rfl
  have hXm : (st ++ [x, y])[m]? = some x := by rw [List.getElem?_append_right (by omega), hm1, Nat.sub_self]; rfl
  have hYm : (st ++ [x, y])[m + 1]? = some y := by rw [List.getElem?_append_right (by omega), hm1, Nat.add_sub_cancel_left]; rfl
  unfold OwS at hv
  rw [hlen] at hv hnc ⊢
  rw [hm1] at hm
  have hown := hv
  have hXc := hown.cells (g := g) rfl m _ (scells_at hXm)
  have hYc := hown.cells (g := g) rfl (m + 1) _ (scells_at hYm)
  rw [add_lit, Nat.zero_add] at hXc hYc
  have HX : Hid (w.drew.cell? ⟨g, m, none⟩ = some (.string x)) := hXc
  have HY : Hid (w.drew.cell? ⟨g, m + 1, none⟩ = some (.string y)) := hYc
  have hset : ∀ {W : World}, W.ownsRow B 9 1 (.slice (some ⟨g, 0, none⟩) (m + 2) c) (m + 2) ((scells (st ++ [x, y])).set m (.string (nd x y))) → OwS B W (.slice (some ⟨g, 0, none⟩) (m + 1) c) (st ++ [nd x y]) := by
    intro W h
    have e : (scells (st ++ [x, y])).set m (.string (nd x y)) = scells (st ++ [nd x y]) ++ [.string y] := by
      unfold scells
      rw [List.map_append, List.set_append_right _ _ (by rw [List.length_map]; omega), List.length_map, hm1, Nat.sub_self, List.map_append, List.append_assoc]
      rfl
    rw [e] at h
    unfold OwS
    rw [List.length_append, hm1]
    exact ownsRow_pop (by rw [scells_len, List.length_append, hm1]; simp) h
  clear hv h1 h2 hXc hYc hlen hYm
  have q1 : (m : Int) + 2 - 1 = (m : Int) + 1 := by omega
  have q2 : (m : Int) + 1 - 1 = (m : Int) := by omega
  have q3 : IntKind.i64.wrap (m : Int) = (m : Int) := IntWalk.i64_in _ (by omega)
  have q4 : IntKind.i64.wrap ((m : Int) + 1) = (m : Int) + 1 := IntWalk.i64_in _ (by omega)
  have q5 : ¬ ((m : Int) + 2 ≤ (m : Int)) := by omega
  have q6 : ¬ ((m : Int) + 2 ≤ (m : Int) + 1) := by omega
  have q7 : ¬ ((m : Int) + 1 < 0) := by omega
  go_enter Tryd.func105, Tryd.ntmps105
  go_wp2_with fail
  try clear HM
  refine regB_begin (B) (by kernel_rfl) ?_
  change wpAnyH _ _ _ _ _ 15 #[false, false, false, false, false, false, false, false, false, false, false, false, false, false, false] _ _
  refine regB_take (i := 0) (d := some 7) (v := (.slice (some ⟨g, 0, none⟩) (m + 2) c)) rfl rfl (by kernel_rfl) (by kernel_rfl) (by kernel_rfl) (fun _ _ _ h => h) (by rfl) (by intro w' hSw; go_simp) ?_
  try simp only [Act.put, List.setIfInBounds_toArray, List.set_cons_zero, List.set_cons_succ]
  refine regB_take (i := 1) (d := some 8) (v := (.int .i64 ((m : Int) + 1))) rfl rfl (by kernel_rfl) (by kernel_rfl) (by kernel_rfl) (fun _ _ _ h => h) (by rfl) (by intro w' hSw; go_simp) ?_
  try simp only [Act.put, List.setIfInBounds_toArray, List.set_cons_zero, List.set_cons_succ]
  refine regB_take (i := 2) (d := some 9) (v := (.int .i64 (m : Int))) rfl rfl (by kernel_rfl) (by kernel_rfl) (by kernel_rfl) (fun _ _ _ h => h) (by rfl) (by intro w' hSw; go_simp) ?_
  try simp only [Act.put, List.setIfInBounds_toArray, List.set_cons_zero, List.set_cons_succ]
  refine regB_take (i := 3) (d := some 10) (v := (.slice (some ⟨g, 0, none⟩) (m + 2) c)) rfl rfl (by kernel_rfl) (by kernel_rfl) (by kernel_rfl) (fun _ _ _ h => h) (by rfl) (by intro w' hSw; go_simp) ?_
  try simp only [Act.put, List.setIfInBounds_toArray, List.set_cons_zero, List.set_cons_succ]
  refine regB_take (i := 4) (d := some 11) (v := (.int .i64 ((m : Int) + 1))) rfl rfl (by kernel_rfl) (by kernel_rfl) (by kernel_rfl) (fun _ _ _ h => h) (by rfl) (by intro w' hSw; go_simp) ?_
  try simp only [Act.put, List.setIfInBounds_toArray, List.set_cons_zero, List.set_cons_succ]
  refine regB_take (i := 5) (d := some 12) (v := (.int .i64 (m : Int))) rfl rfl (by kernel_rfl) (by kernel_rfl) (by kernel_rfl) (fun _ _ _ h => h) (by rfl) (by intro w' hSw; go_simp) ?_
  try simp only [Act.put, List.setIfInBounds_toArray, List.set_cons_zero, List.set_cons_succ]
  refine regB_take (i := 6) (d := some 13) (v := (.pointer (some ⟨g, m, none⟩))) rfl rfl (by kernel_rfl) (by kernel_rfl) (by kernel_rfl) (fun _ _ _ h => h) (by rfl) (by intro w' hSw; go_simp) ?_
  try simp only [Act.put, List.setIfInBounds_toArray, List.set_cons_zero, List.set_cons_succ]
  refine regB_take (i := 8) (d := some 15) (v := (.slice (some ⟨g, 0, none⟩) (m + 2) c)) rfl rfl (by kernel_rfl) (by kernel_rfl) (by kernel_rfl) (fun _ _ _ h => h) (by rfl) (by intro w' hSw; go_simp) ?_
  try simp only [Act.put, List.setIfInBounds_toArray, List.set_cons_zero, List.set_cons_succ]
  refine regB_take (i := 9) (d := some 16) (v := (.int .i64 ((m : Int) + 1))) rfl rfl (by kernel_rfl) (by kernel_rfl) (by kernel_rfl) (fun _ _ _ h => h) (by rfl) (by intro w' hSw; go_simp) ?_
  try simp only [Act.put, List.setIfInBounds_toArray, List.set_cons_zero, List.set_cons_succ]
  refine regB_take (i := 10) (d := some 17) (v := (.pointer (some ⟨g, m + 1, none⟩))) rfl rfl (by kernel_rfl) (by kernel_rfl) (by kernel_rfl) (fun _ _ _ h => h) (by rfl) (by intro w' hSw; go_simp) ?_
  try simp only [Act.put, List.setIfInBounds_toArray, List.set_cons_zero, List.set_cons_succ]
  refine regB_two (i := 7) (j := 11) rfl rfl (by kernel_rfl) (by rfl) (by rfl) (fun K hK => ?_) (fun K hK => ?_)
  · have h9 := HX.out
    refine oper_yields (d := some 14) (v := (.string x)) rfl (by go_simp) ?_
    refine hK.out _ _ (Below.refl _ _) ?_
    clear hK K
    try simp only [Act.put, List.setIfInBounds_toArray, List.set_cons_zero, List.set_cons_succ]
    refine regB_call (i := 11) rfl (by kernel_rfl) (by rfl) fun K hK => ?_
    have h9 := HY.out
    refine oper_yields (d := some 18) (v := (.string y)) rfl (by go_simp) ?_
    refine hK.out _ _ (Below.refl _ _) ?_
    clear hK K
    try simp only [Act.put, List.setIfInBounds_toArray, List.set_cons_zero, List.set_cons_succ]
    refine regB_call (i := 12) rfl (by kernel_rfl) (by rfl) fun K hK => ?_
    go_simp
    refine (node_any x y _ (hT _ (hb0.drew)) Zx.out Zy.out).mono ?_
    rintro e w2 ⟨rfl, hb2⟩
    have b2 : Below B w.drew w2 := hb2.mono hB
    refine hK.out _ _ b2 ?_
    clear hK K
    try simp only [List.setIfInBounds_toArray, List.set_cons_zero, List.set_cons_succ]
    refine regB_take (i := 13) (d := some 20) (v := (.pointer (some ⟨g, m, none⟩))) rfl rfl (by kernel_rfl) (by kernel_rfl) (by kernel_rfl) (fun _ _ _ h => h) (by rfl) (by intro w' hSw; go_simp) ?_
    try simp only [Act.put, List.setIfInBounds_toArray, List.set_cons_zero, List.set_cons_succ]
    refine regB_call (i := 14) rfl (by kernel_rfl) (by rfl) fun K hK => ?_
    have o2 := own_below hown.drew hb2
    have h9 := (o2.cells (g := g) rfl m _ (scells_at hXm))
    rw [add_lit, Nat.zero_add] at h9
    have h8 := o2.frozenAt m
    obtain ⟨o3, g3⟩ := o2.stored m (.string (nd x y))
    clear o2
    go_simp
    refine hK.out _ _ (Below.setCell (Below.refl _ _) hBg _) ?_
    clear hK K
    try simp only [List.setIfInBounds_toArray, List.set_cons_zero, List.set_cons_succ]
    refine wpAnyH_done (by kernel_rfl) ?_ _
    obtain ⟨W, hW⟩ : ∃ W, w2.setCell ⟨g, m, none⟩ (.string (nd x y)) = W := ⟨_, rfl⟩
    rw [hW] at o3 ⊢
    have b3 : Below B w W := by rw [← hW]; exact (hb0.drew.trans b2).setCell hBg _
    clear hW g3 h9 h8 hb2 b2
    have o4 := hset o3
    have hto := fun w' => run_to (P := Tryd.prog) strsTy w' (some ⟨g, 0, none⟩) (m + 2) c (m + 1) .i64 (by omega)
    clear o3
    go_wp2_with fail
    go_ret
    exact ⟨_, rfl, o4, b3⟩
  · have h9 := HY.out
    refine oper_yields (d := some 18) (v := (.string y)) rfl (by go_simp) ?_
    refine hK.out _ _ (Below.refl _ _) ?_
    clear hK K
    try simp only [Act.put, List.setIfInBounds_toArray, List.set_cons_zero, List.set_cons_succ]
    refine regB_call (i := 7) rfl (by kernel_rfl) (by rfl) fun K hK => ?_
    have h9 := HX.out
    refine oper_yields (d := some 14) (v := (.string x)) rfl (by go_simp) ?_
    refine hK.out _ _ (Below.refl _ _) ?_
    clear hK K
    try simp only [Act.put, List.setIfInBounds_toArray, List.set_cons_zero, List.set_cons_succ]
    refine regB_call (i := 12) rfl (by kernel_rfl) (by rfl) fun K hK => ?_
    go_simp
    refine (node_any x y _ (hT _ (hb0.drew)) Zx.out Zy.out).mono ?_
    rintro e w2 ⟨rfl, hb2⟩
    have b2 : Below B w.drew w2 := hb2.mono hB
    refine hK.out _ _ b2 ?_
    clear hK K
    try simp only [List.setIfInBounds_toArray, List.set_cons_zero, List.set_cons_succ]
    refine regB_take (i := 13) (d := some 20) (v := (.pointer (some ⟨g, m, none⟩))) rfl rfl (by kernel_rfl) (by kernel_rfl) (by kernel_rfl) (fun _ _ _ h => h) (by rfl) (by intro w' hSw; go_simp) ?_
    try simp only [Act.put, List.setIfInBounds_toArray, List.set_cons_zero, List.set_cons_succ]
    refine regB_call (i := 14) rfl (by kernel_rfl) (by rfl) fun K hK => ?_
    have o2 := own_below hown.drew hb2
    have h9 := (o2.cells (g := g) rfl m _ (scells_at hXm))
    rw [add_lit, Nat.zero_add] at h9
    have h8 := o2.frozenAt m
    obtain ⟨o3, g3⟩ := o2.stored m (.string (nd x y))
    clear o2
    go_simp
    refine hK.out _ _ (Below.setCell (Below.refl _ _) hBg _) ?_
    clear hK K
    try simp only [List.setIfInBounds_toArray, List.set_cons_zero, List.set_cons_succ]
    refine wpAnyH_done (by kernel_rfl) ?_ _
    obtain ⟨W, hW⟩ : ∃ W, w2.setCell ⟨g, m, none⟩ (.string (nd x y)) = W := ⟨_, rfl⟩
    rw [hW] at o3 ⊢
    have b3 : Below B w W := by rw [← hW]; exact (hb0.drew.trans b2).setCell hBg _
    clear hW g3 h9 h8 hb2 b2
    have o4 := hset o3
    have hto := fun w' => run_to (P := Tryd.prog) strsTy w' (some ⟨g, 0, none⟩) (m + 2) c (m + 1) .i64 (by omega)
    clear o3
    go_wp2_with fail
    go_ret
    exact ⟨_, rfl, o4, b3⟩

end Go.Proofs.YtihkfomldbjpoaaDoor.TrW

/- tree: root. -/
namespace Go.Proofs.YtihkfomldbjpoaaDoor.TrW
open Go.RowKit TreeW
open ShaW Sha
theorem take_snoc {ss : List ByteArray} {j : Nat} {s : ByteArray} (hs : ss[j]? = some s) : ss.take (j + 1) = ss.take j ++ [s] := by
  rw [List.take_add_one, hs]; rfl
theorem push_full {ss st : List ByteArray} {j : Nat} {s : ByteArray} (h : Full nd ed (ss.take j) st) (hs : ss[j]? = some s) : Mid nd ed (ss.take (j + 1)) (j + 1) (st ++ [s]) := by
  rw [take_snoc hs]
  have hj := (List.getElem?_eq_some_iff.1 hs).1
  have e : (ss.take j).length = j := by rw [List.length_take]; omega
  have := h.push s
  rwa [e] at this
/-- Each on the stack is a digest. -/
theorem digs_two {st : List ByteArray} {x y : ByteArray} (h : Digs (st ++ [x, y])) : Digs st ∧ x.size = 32 ∧ y.size = 32 :=
  ⟨fun z hz => h z (List.mem_append_left _ hz), h x (by simp), h y (by simp)⟩
theorem digs_join {st : List ByteArray} {x y : ByteArray} (h : Digs (st ++ [x, y])) : Digs (st ++ [nd x y]) := by
  intro z hz
  rcases List.mem_append.1 hz with hz | hz
  · exact h z (List.mem_append_left _ hz)
  · simp at hz; subst hz; exact nd_size _ _
theorem digs_push {st : List ByteArray} {s : ByteArray} (h : Digs st) (hs : s.size = 32) : Digs (st ++ [s]) := by
  intro z hz
  rcases List.mem_append.1 hz with hz | hz
  · exact h z hz
  · simp at hz; subst hz; exact hs
set_option maxRecDepth 1000000 in
set_option maxHeartbeats 2000000 in
theorem root_any (A : Option Addr) (l c : Nat) (ss : List ByteArray) (w : World) (hT : Tab w) (hl : ss.length = l) (hs : Sl w A (scells ss)) (hd : Digs ss) (hl40 : l ≤ 1099511627776) :
    Calls Tryd.prog 91 #[.slice A l c] w fun e w' => e = .returned (.string (rt ss)) ∧ Below w.heap.size w w' := by
  have hpos := hT.pos
  have HT := Lib.hid (fun W (hb : Below w.heap.size w W) => hT.below hb hpos)
  have HL := Lib.hid hl
  have HD := Lib.hid hd
  have h0 : Below w.heap.size w w := Below.refl _ _
  by_cases hz : l = 0
  · have HZ : Hid (rt ss = ed) := by show _ = _; rw [List.eq_nil_of_length_eq_zero (by omega : ss.length = 0)]; rfl
    subst hz
    clear hl hd hs
    go_enter Tryd.func91, Tryd.ntmps91
    go_wp2_with fail
    refine (sum_wide none 0 0 [] _ hT rfl Sl.nil (by omega) (by omega) (by omega)).mono ?_
    rintro e w1 ⟨rfl, hb1⟩
    go_wp2_with fail
    go_ret
    exact ⟨by rw [HZ.out]; rfl, hb1⟩
  have hpos0 : ((l : Int) == 0) = false := by simpa using hz
  clear hl hd hT hpos
  go_enter Tryd.func91, Tryd.ntmps91
  go_wp2_with fail
  go_loopw [3, 4, 5, 12] (fun v _ _ i wr => ∃ (j : Nat) (st : List ByteArray), j ≤ l ∧ i = .int .i64 (j : Int) ∧ Hid (Full nd ed (ss.take j) st) ∧ OwS w.heap.size wr v st ∧ Hid (Digs st) ∧ Below w.heap.size w wr) (fun _ _ _ i _ => l - (intOf i).toNat)
  case atStart => exact ⟨0, [], by omega, rfl, Full.nil, OwS.nil _ _, fun x hx => by simp at hx, h0⟩
  case round =>
    clear h0
    obtain ⟨j, st, hj, rfl, HF, hown, HSD, hbel⟩ := hrel
    by_cases hlt : j < l
    · obtain ⟨b, o, rfl, hblt, hcell⟩ := hs.get (j := j) (by rw [scells_len, HL.out]; exact hlt)
      have hc0 := (hbel.cell (p := ⟨b, o + j, none⟩) hblt).trans (hcell j _ (scells_get ss j (by rw [HL.out]; exact hlt)))
      have hget := get_of (ss := ss) (j := j) (by rw [HL.out]; exact hlt)
      obtain ⟨s, hsj⟩ : ∃ s, ss.getD j ⟨#[]⟩ = s := ⟨_, rfl⟩
      rw [hsj] at hc0 hget
      have HM := Lib.hid (push_full HF.out hget)
      have HSD1 := Lib.hid (digs_push HSD.out (HD.out s (List.mem_of_getElem? hget)))
      have hlen := HF.out.len
      have hlt2 : st.length ≤ j := by rw [List.length_take] at hlen; omega
      obtain ⟨m, hm⟩ : ∃ m, m = st.length := ⟨_, rfl⟩
      have HMM := Lib.hid hm
      rw [← hm] at hlt2
      unfold OwS at hown
      rw [← hm] at hown
      have hsl : ∀ (W : World), Sl (W.alloc (.cells #[.string s] 9)) (some ⟨W.heap.size, 0, none⟩) (scells [s]) := fun W => new_str W s
      have HSL := Lib.hid hsl
      have hbx := hbel.alloc hbel.size (.cells #[.string s] 9)
      clear hcell hget hsj hlen hm hsl
      go_wp2_with (refine wpList_app rfl (.tmp 15) (.tmp 20) 24 rfl strsTy w.heap.size _ m (scells st) rfl (hown.alloc _) _ 1 1 (scells [s]) rfl rfl (HSL.out _) (scells_one _) (by omega) hbx.size ?_; intro v1 w1 hown1 hgr1 hbl1)
      have hb1 := below_app hbx hgr1 (hown.alloc (.cells #[.string s] 9)) (Nat.le_refl _) hbx.size
      have hown2 := snoc_ownS HMM.out hown1
      clear hown hown1 hgr1 hbl1 hbx hbel HF HSD HSL hc0
      go_loopw [3, 5] (fun v i wi => ∃ (n : Nat) (st : List ByteArray), i = .int .i64 (n : Int) ∧ Hid (Mid nd ed (ss.take (j + 1)) n st) ∧ OwS w.heap.size wi v st ∧ Hid (Digs st) ∧ Below w.heap.size w wi) (fun _ i _ => (intOf i).toNat)
      case atStart => exact ⟨j + 1, st ++ [s], by go_num, HM, hown2, HSD1, hb1⟩
      case round =>
        clear HM hown2 HSD1 hb1 HMM hlt2 m st
        obtain ⟨n, st, rfl, HM, hown, HSD, hbel⟩ := hrel
        have hn1 := HM.out.pos
        have hn2 : n ≤ l := by have := hn1.2; rw [List.length_take] at this; have := HL.out; omega
        have hn3 : 1 ≤ n := hn1.1
        clear hn1
        have hand := and_one n (by omega)
        by_cases hev : n % 2 = 0
        · obtain ⟨st', x, y, hst, HM2⟩ := HM.out.even hev
          have hle := HM.out.len
          subst hst
          have HD2 := digs_two HSD.out
          have HMM := Lib.hid HM2
          have HDD := Lib.hid (digs_join HSD.out)
          have h32x := Lib.hid HD2.2.1
          have h32y := Lib.hid HD2.2.2
          have hle2 : st'.length ≤ 1099511627776 := by rw [List.length_append, List.length_take] at hle; have := HL.out; omega
          rw [hev] at hand
          clear HD2 HM2 HSD HM hle
          go_wp2_with fail
          refine (combined_any w.heap.size u3 st' x y _ (fun W hb => HT.out W (hbel.trans hb)) hbel.size hown h32x.out h32y.out hle2).mono ?_
          rintro e w2 ⟨v2, rfl, hown2, hb2⟩
          have bb := hbel.trans hb2
          clear hand hown hb2
          go_wp2_with fail
          go_roundw
          case rel => exact ⟨n / 2, st' ++ [nd x y], by go_num, HMM, hown2, HDD, bb⟩
          case measure => simp [intOf]; omega
        · have hod : n % 2 = 1 := by omega
          have HF := Lib.hid (HM.out.odd hod)
          rw [hod] at hand
          clear hev hod HM
          go_wp2_with fail
          clear hand
          go_roundw
          case rel => exact ⟨j + 1, st, by omega, by go_num, HF, hown, HSD, hbel⟩
          case measure => simp [intOf]; omega
    · have HFF : Hid (Full nd ed ss st) := by
        have := HF.out
        rwa [List.take_of_length_le (by rw [HL.out]; omega)] at this
      have HLA := Lib.hid (HFF.out.last (fun h => hz (by rw [← HL.out, h]; rfl)))
      clear HF HFF
      go_wp2_with fail
      go_loopw [3] (fun v wi => ∃ st : List ByteArray, Hid (Last nd ed ss st) ∧ OwS w.heap.size wi v st ∧ Hid (Digs st) ∧ st.length ≤ l ∧ Below w.heap.size w wi) (fun v _ => slLen v)
      case atStart => exact ⟨st, HLA, hown, HSD, by have := (HLA.out).len; have := HL.out; omega, hbel⟩
      case round =>
        clear HLA hown HSD hbel st
        obtain ⟨st, HLA, hown, HSD, hle, hbel⟩ := hrel
        by_cases h2 : 2 ≤ st.length
        · obtain ⟨st', x, y, hst, HM2⟩ := HLA.out.more h2
          subst hst
          have HD2 := digs_two HSD.out
          have HMM := Lib.hid HM2
          have HDD := Lib.hid (digs_join HSD.out)
          have h32x := Lib.hid HD2.2.1
          have h32y := Lib.hid HD2.2.2
          have hown0 := hown
          obtain ⟨A', c', rfl, _, _, _, _⟩ := hown.slice
          obtain ⟨m, hm⟩ : ∃ m, (st' ++ [x, y]).length = m := ⟨_, rfl⟩
          rw [hm] at hown0 h2 hle ⊢
          have hm' : st'.length + 2 = m := by rw [← hm, List.length_append]; rfl
          have HM' := Lib.hid hm'
          have hgt : (1 : Int) < (m : Int) := by omega
          clear HD2 HM2 HSD HLA hown hm hm'
          go_wp2_with fail
          refine (combined_any w.heap.size (.slice A' m c') st' x y _ (fun W hb => HT.out W (hbel.trans hb)) hbel.size hown0 h32x.out h32y.out (by have := HM'.out; omega)).mono ?_
          rintro e w2 ⟨v2, rfl, hown2, hb2⟩
          have bb := hbel.trans hb2
          clear hown0 hb2
          have hown3 := hown2
          obtain ⟨A2, c2, rfl, _, _, _, _⟩ := hown2.slice
          have hl2 : (st' ++ [nd x y]).length = st'.length + 1 := by rw [List.length_append]; rfl
          rw [hl2] at hown3 ⊢
          have HL2 := Lib.hid hl2
          clear hown2 hl2
          go_wp2_with fail
          go_roundw
          case rel => exact ⟨st' ++ [nd x y], HMM, hown3, HDD, by rw [HL2.out]; have := HM'.out; omega, bb⟩
          case measure => simp [slLen]; have := HM'.out; omega
        · have h1 : st.length = 1 := by have := HLA.out.pos; omega
          have HS := Lib.hid (HLA.out.one h1)
          obtain ⟨A', c', rfl, hsl, _, _, _⟩ := hown.slice
          rw [h1]
          rw [HS.out] at hsl
          clear hown HLA h2 h1
          obtain ⟨b', o', rfl, _, hcell⟩ := hsl.get (j := 0) (by simp [scells])
          have hc0 : wr.cell? ⟨b', o', none⟩ = some (.string (root nd ed ss)) := hcell 0 _ rfl
          clear hcell hsl
          go_wp2_with fail
          go_ret
          exact ⟨rfl, hbel⟩
end Go.Proofs.YtihkfomldbjpoaaDoor.TrW

/- Arguments [][]byte read as lists of lists. Nothing of the dump. -/
namespace Go.Proofs.YtihkfomldbjpoaaDoor
open Go.ChangeShapes Go.WideShapes Go.ChangeAt Go.RowKit Go.Deep
/-- Slices of bytes that read so, each within its own room. -/
def RowsAt (w : World) (vs : List Value) (bss : List (List UInt8)) : Prop :=
  vs.length = bss.length ∧ ∀ j, j < bss.length → ∃ B d, vs[j]? = some (.slice B (bss.getD j []).length d) ∧ Sl w B (bcells (bss.getD j [])) ∧ (bss.getD j []).length ≤ d ∧ d ≤ maxLen
theorem RowsAt.below {w w' : World} {vs : List Value} {bss : List (List UInt8)} (h : RowsAt w vs bss) (hb : Below w.heap.size w w') : RowsAt w' vs bss :=
  ⟨h.1, fun j hj => by obtain ⟨B, d, h1, h2, h3⟩ := h.2 j hj; exact ⟨B, d, h1, h2.below hb, h3⟩⟩
theorem RowsAt.nil (w : World) : RowsAt w [] [] := ⟨rfl, fun j hj => by simp at hj⟩
/-- An argument [][]byte as a list of lists of bytes. -/
theorem open_bytess {P : Program} {H : Type} {enc : TypeId × Value → H} {W : World} {t e q : TypeId} (ht : P.underlying t = some (.slice e)) (he : P.underlying e = some (.slice q)) (hq : P.underlying q = some (.int .u8))
    (ce : P.cellsOf e = 1) (cq : P.cellsOf q = 1) {a : Option Addr} {l c : Nat} {d : DataW H} {p : List MemPlace} (h : DataW.Trod enc P W 0 (fun _ => true) true t (.slice a l c) d p) :
    ∃ (bss : List (List UInt8)) (vs : List Value), bss.length = l ∧ Sl W a vs ∧ RowsAt W vs bss ∧ l ≤ c ∧ c ≤ 9223372036854775807 := by
  obtain ⟨fuel, hf⟩ := h
  rcases open_int_rows ht he hq ce cq hf with ⟨hcs, _⟩ | ⟨x, l', c', A, L, C, Z, hcs, _, hl, hm, _, hrow⟩
  · simp [Value.cells] at hcs
    obtain ⟨rfl, rfl, rfl⟩ := hcs
    exact ⟨[], [], rfl, Sl.nil, RowsAt.nil W, Nat.le_refl _, by omega⟩
  · simp [Value.cells] at hcs
    obtain ⟨rfl, rfl, rfl⟩ := hcs
    have hlen : ∀ r, r < c → ((Z r).take (L r)).length = L r := fun r hr => by
      obtain ⟨_, h1, _, h3, _⟩ := hrow r hr
      rw [List.length_take]; omega
    refine ⟨(List.range l).map fun r => asBytes ((Z r).take (L r)), (List.range l).map fun r => .slice (A r) (L r) (C r), by simp, ?_, ⟨by simp, fun j hj => ?_⟩, hl, by unfold maxLen at hm; omega⟩
    · intro hne
      have hpos : 0 < l := by
        rcases Nat.eq_zero_or_pos l with rfl | h
        · exact absurd (by simp) hne
        · exact h
      obtain ⟨b, off, spot⟩ := x
      have hspot : spot = none := by simpa [Addr.add] using World.cell?_spot (hrow 0 (by omega)).1
      subst hspot
      refine ⟨b, off, rfl, fun j u hu => ?_⟩
      have hj : j < l := by simpa using (List.getElem?_eq_some_iff.1 hu).1
      have := (hrow j (by omega)).1
      rw [add_lit] at this
      rw [this, ← hu]
      simp [hj]
    · have hj' : j < l := by simpa using hj
      have e1 : ((List.range l).map fun r => asBytes ((Z r).take (L r))).getD j [] = asBytes ((Z j).take (L j)) := by simp [List.getD, hj']
      obtain ⟨_, h1, h2, h3, h4, h5, h6⟩ := hrow j (by omega)
      rw [e1, asBytes_len, hlen j (by omega)]
      refine ⟨A j, C j, by simp [hj'], ?_, h1, h2⟩
      rcases hA : A j with _ | a'
      · have h0 : C j = 0 := h5 hA
        have : asBytes ((Z j).take (L j)) = [] := List.eq_nil_of_length_eq_zero (by rw [asBytes_len, hlen j (by omega)]; omega)
        rw [this]; exact Sl.nil
      · exact sl_asBytes (fun i hi => (h6 a' hA).2 i (by omega)) (by omega) h4
end Go.Proofs.YtihkfomldbjpoaaDoor

/- tree: Range, Root; the parts of a list. -/
namespace Go.Proofs.YtihkfomldbjpoaaDoor.TrW
open Go.RowKit TreeW
open ShaW Sha
/-- The part of a list from one place to another. -/
theorem part_sl {w : World} {A : Option Addr} {ss : List ByteArray} {c : Nat} (hs : Sl w A (scells ss)) (f t : Nat) (ht : t ≤ ss.length) (hc : ss.length ≤ c) :
    Sl w (if c = f then A else A.map (·.add f)) (scells ((ss.take t).drop f)) := by
  have := (hs.take t).cut f c (by rw [List.length_take, scells_len]; omega)
  rwa [scells_take, scells_drop] at this
theorem path_le : ∀ (ss : List ByteArray) (i : Nat), (path nd ed ss i).length ≤ ss.length := by
  intro ss
  obtain ⟨m, hm⟩ : ∃ m, ss.length ≤ m := ⟨_, Nat.le_refl _⟩
  induction m generalizing ss with
  | zero => intro i; rw [path_one nd ed ss i (by omega)]; simp
  | succ m ih =>
    intro i
    by_cases h : ss.length < 2
    · rw [path_one nd ed ss i h]; simp
    · obtain ⟨a, b, _, _⟩ := split_spec (n := ss.length) (by omega)
      rw [path_two nd ed ss i (by omega)]
      split
      · rw [List.length_append]
        have := ih (ss.take (split ss.length)) (by rw [List.length_take]; omega) i
        rw [List.length_take] at this
        simp; omega
      · rw [List.length_append]
        have := ih (ss.drop (split ss.length)) (by rw [List.length_drop]; omega) (i - split ss.length)
        rw [List.length_drop] at this
        simp; omega
/-- The two parts of a list, as slices. -/
theorem halves {w : World} {A : Option Addr} {ss : List ByteArray} {l c : Nat} (hl : ss.length = l) (hs : Sl w A (scells ss)) (h2 : 2 ≤ l) (hc : l ≤ c) :
    ∃ (k q c2 : Nat) (A2 : Option Addr), k = split l ∧ 1 ≤ k ∧ k < l ∧ k + q = l ∧ 1 ≤ q ∧ q ≤ c2 ∧ c2 ≤ c ∧ (ss.take k).length = k ∧ (ss.drop k).length = q ∧ Sl w A (scells (ss.take k)) ∧ Sl w A2 (scells (ss.drop k)) ∧
      (∀ w', (Instr.slice 24 (.slice A l c) none (some (.int .i64 (k : Int))) none).run Tryd.prog w' = .ok (.slice A k c) w') ∧
      (∀ w', (Instr.slice 24 (.slice A l c) (some (.int .i64 (k : Int))) none none).run Tryd.prog w' = .ok (.slice A2 q c2) w') := by
  obtain ⟨a, b, _, _⟩ := split_spec h2
  refine ⟨split l, l - split l, c - split l, if c = split l then A else A.map (·.add (split l)), rfl, a, b, by omega, by omega, by omega, by omega, by rw [List.length_take]; omega, by rw [List.length_drop]; omega, ?_, ?_, fun w' => ?_, fun w' => ?_⟩
  · rw [← scells_take]; exact hs.take _
  · rw [← scells_drop]; exact hs.cut _ _ (by rw [scells_len]; omega)
  · exact run_to strsTy w' A l c (split l) .i64 (by omega)
  · exact run_from strsTy w' A l c (split l) .i64 (by omega)
set_option maxHeartbeats 1000000 in
theorem range_ok (A : Option Addr) (l c : Nat) (ss : List ByteArray) (f t : Nat) (w : World) (hT : Tab w) (hl : ss.length = l) (hs : Sl w A (scells ss)) (hlc : l ≤ c) (hl40 : l ≤ 1099511627776) (hft : f ≤ t) (ht : t ≤ l) (hd : Digs ((ss.take t).drop f)) :
    Calls Tryd.prog 95 #[.slice A l c, .int .i64 (f : Int), .int .i64 (t : Int)] w fun e w' => e = .returned (.tuple #[.string (rt ((ss.take t).drop f)), .int .i64 0]) ∧ Below w.heap.size w w' := by
  have hp := part_sl (c := c) hs f t (by omega) (by omega)
  have hlen : ((ss.take t).drop f).length = t - f := by rw [List.length_drop, List.length_take]; omega
  have hpt := fun w' => run_part (P := Tryd.prog) strsTy w' A l c f t .i64 .i64 hft (by omega)
  have HDY : Hid (decide (Digs ((ss.take t).drop f)) = true) := decide_eq_true hd
  have HD := Lib.hid hd
  have HLN := Lib.hid hlen
  obtain ⟨A2, hA2⟩ : ∃ A2, A2 = (if c = f then A else A.map (·.add f)) := ⟨_, rfl⟩
  rw [← hA2] at hp
  simp only [← hA2] at hpt
  obtain ⟨q, hq⟩ : ∃ q, q = t - f := ⟨_, rfl⟩
  obtain ⟨c2, hc2⟩ : ∃ c2, c2 = c - f := ⟨_, rfl⟩
  simp only [← hq, ← hc2] at hpt
  have HQ : Hid (((ss.take t).drop f).length = q) := by show _ = _; rw [hlen, hq]
  have hq40 : q ≤ 1099511627776 := by omega
  have k1 : ¬ (f : Int) < 0 := by omega
  have k2 : ¬ (f : Int) > (t : Int) := by omega
  have k3 : ¬ (t : Int) > (l : Int) := by omega
  clear hl hs hd hlen hA2 hq hc2 HLN
  go_enter Tryd.func95, Tryd.ntmps95
  go_wp2_with fail
  refine (digests_any A2 q c2 _ _ HQ.out hp (by omega)).mono ?_
  rintro e w1 ⟨rfl, rfl⟩
  rw [HDY.out]
  go_wp2_with fail
  refine (root_any A2 q c2 _ _ hT HQ.out hp HD.out hq40).mono ?_
  rintro e w1 ⟨rfl, hb1⟩
  go_wp2_with fail
  go_ret2
  exact ⟨rfl, hb1⟩
set_option maxHeartbeats 1000000 in
theorem range_bad (A : Option Addr) (l c : Nat) (ss : List ByteArray) (f t : Int) (w : World) (hl : ss.length = l) (hs : Sl w A (scells ss)) (hlc : l ≤ c) (hl40 : l ≤ 1099511627776) (h : f < 0 ∨ t < f ∨ (l : Int) < t ∨ ¬ Digs ((ss.take t.toNat).drop f.toNat)) :
    Calls Tryd.prog 95 #[.slice A l c, .int .i64 f, .int .i64 t] w fun e w' => e = .returned (.tuple #[.string ⟨#[]⟩, .int .i64 1]) ∧ w = w' := by
  by_cases h1 : f < 0
  · clear h
    go_enter Tryd.func95, Tryd.ntmps95
    go_wp2_with fail
    go_ret2
    exact ⟨rfl, rfl⟩
  by_cases h2 : f > t
  · clear h
    go_enter Tryd.func95, Tryd.ntmps95
    go_wp2_with fail
    go_ret2
    exact ⟨rfl, rfl⟩
  by_cases h3 : t > (l : Int)
  · clear h
    go_enter Tryd.func95, Tryd.ntmps95
    go_wp2_with fail
    go_ret2
    exact ⟨rfl, rfl⟩
  obtain ⟨f, rfl⟩ : ∃ n : Nat, f = n := ⟨f.toNat, by omega⟩
  obtain ⟨t, rfl⟩ : ∃ n : Nat, t = n := ⟨t.toNat, by omega⟩
  have hd : ¬ Digs ((ss.take t).drop f) := by
    rcases h with h | h | h | h
    · omega
    · omega
    · omega
    · simpa using h
  have hp := part_sl (c := c) hs f t (by omega) (by omega)
  have hlen : ((ss.take t).drop f).length = t - f := by rw [List.length_drop, List.length_take]; omega
  have hpt := fun w' => run_part (P := Tryd.prog) strsTy w' A l c f t .i64 .i64 (by omega) (by omega)
  have HDN : Hid (decide (Digs ((ss.take t).drop f)) = false) := decide_eq_false hd
  obtain ⟨A2, hA2⟩ : ∃ A2, A2 = (if c = f then A else A.map (·.add f)) := ⟨_, rfl⟩
  rw [← hA2] at hp
  simp only [← hA2] at hpt
  obtain ⟨q, hq⟩ : ∃ q, q = t - f := ⟨_, rfl⟩
  obtain ⟨c2, hc2⟩ : ∃ c2, c2 = c - f := ⟨_, rfl⟩
  simp only [← hq, ← hc2] at hpt
  have HQ : Hid (((ss.take t).drop f).length = q) := by show _ = _; rw [hlen, hq]
  have hq40 : q ≤ 1099511627776 := by omega
  clear hl hs hd hlen hA2 hq hc2 h
  go_enter Tryd.func95, Tryd.ntmps95
  go_wp2_with fail
  refine (digests_any A2 q c2 _ _ HQ.out hp (by omega)).mono ?_
  rintro e w1 ⟨rfl, rfl⟩
  rw [HDN.out]
  go_wp2_with fail
  go_ret2
  exact ⟨rfl, rfl⟩
theorem all_part (ss : List ByteArray) (l : Nat) (h : ss.length = l) : (ss.take l).drop 0 = ss := by rw [List.drop_zero, List.take_of_length_le (by omega)]
theorem Root_ok (A : Option Addr) (l c : Nat) (ss : List ByteArray) (w : World) (hT : Tab w) (hl : ss.length = l) (hs : Sl w A (scells ss)) (hlc : l ≤ c) (hl40 : l ≤ 1099511627776) (hd : Digs ss) :
    Calls Tryd.prog 79 #[.slice A l c] w fun e w' => e = .returned (.tuple #[.string (rt ss), .int .i64 0]) ∧ Below w.heap.size w w' := by
  have HE := Lib.hid (all_part ss l hl)
  have HL := Lib.hid hl
  clear hl
  go_enter Tryd.func79, Tryd.ntmps79
  go_wp2_with fail
  refine (range_ok A l c ss 0 l _ hT HL.out hs hlc hl40 (by omega) (by omega) (by rw [HE.out]; exact hd)).mono ?_
  rw [HE.out]
  rintro e w1 ⟨rfl, hb1⟩
  go_wp2_with fail
  go_ret2
  exact ⟨rfl, hb1⟩
theorem Root_bad (A : Option Addr) (l c : Nat) (ss : List ByteArray) (w : World) (hl : ss.length = l) (hs : Sl w A (scells ss)) (hlc : l ≤ c) (hl40 : l ≤ 1099511627776) (hd : ¬ Digs ss) :
    Calls Tryd.prog 79 #[.slice A l c] w fun e w' => e = .returned (.tuple #[.string ⟨#[]⟩, .int .i64 1]) ∧ w = w' := by
  have HE := Lib.hid (all_part ss l hl)
  have HL := Lib.hid hl
  have HDD := Lib.hid hd
  clear hl hd
  go_enter Tryd.func79, Tryd.ntmps79
  go_wp2_with fail
  refine (range_bad A l c ss 0 l _ HL.out hs hlc hl40 (.inr (.inr (.inr (by simpa [List.take_of_length_le (Nat.le_of_eq HL.out)] using HDD.out))))).mono ?_
  rintro e w1 ⟨rfl, rfl⟩
  go_wp2_with fail
  go_ret2
  exact ⟨rfl, rfl⟩
end Go.Proofs.YtihkfomldbjpoaaDoor.TrW

/- rubrickref03: Bytes. -/
namespace Go.Proofs.YtihkfomldbjpoaaDoor.SealW
open Go.RowKit
set_option maxRecDepth 100000 in
set_option maxHeartbeats 1000000 in
theorem refBytes_new (k : UInt8) (B : Option Addr) (l d : Nat) (bs : List UInt8) (w : World) (hl : bs.length = l) (hb : Sl w B (bcells bs)) (h45 : l ≤ 35184372088832) :
    Calls Tryd.prog 18 #[.int .i64 (ub k), .slice B l d] w fun e w' => ∃ A' c', e = .returned (.slice A' (l + 1) c') ∧ Sl w' A' (bcells (k :: bs)) ∧ l + 1 ≤ c' ∧ c' ≤ maxLen ∧ (∀ b o s, A' = some ⟨b, o, s⟩ → w.heap.size ≤ b) ∧ Below w.heap.size w w' := by
  have HL : Hid (bs.length = l) := hl
  have h0 : Below w.heap.size w (w.alloc (.cells (bcells [k]).toArray 5)) := (Below.refl _ _).alloc (Nat.le_refl _) _
  have o0 := own_lit w w.heap.size 5 (bcells [k]) 1 rfl (Nat.le_refl _) (by omega)
  have k0 := ub_nn k
  have k1 := ub_lt k
  have kw : IntKind.u8.wrap (ub k) = ub k := IntWalk.u8_in _ (by omega)
  clear hl
  go_enter Tryd.func18, Tryd.ntmps18
  go_wp2_with fail
  go_loopw [5, 6] (fun v i wr => ∃ j : Nat, j ≤ l ∧ i = .int .i64 j ∧ wr.ownsRow w.heap.size 5 1 v (j + 1) (bcells (k :: bs.take j)) ∧ Below w.heap.size w wr)
    (fun _ i _ => l - (intOf i).toNat)
  case atStart => exact ⟨0, by omega, rfl, o0, h0⟩
  case round =>
    clear o0 h0 kw k0 k1
    obtain ⟨j, hj, rfl, hown, hbel⟩ := hrel
    by_cases hlt : j < l
    · obtain ⟨b, o, rfl, hblt, hcell⟩ := hb.get (j := j) (by rw [bcells_len, HL.out]; exact hlt)
      have hcw := (hbel.cell (p := ⟨b, o + j, none⟩) hblt).trans (hcell j _ (bcells_get bs j (by rw [HL.out]; exact hlt)))
      have HX : Hid (bs.take (j + 1) = bs.take j ++ [bs.getD j 0]) := by
        show _ = _
        rw [List.take_add_one]
        simp [HL.out, hlt]
      clear hcell
      generalize bs.getD j 0 = x at *
      have hsl : ∀ (W : World), Sl (W.alloc (.cells #[.int .u8 (ub x)] 5)) (some ⟨W.heap.size, 0, none⟩) (bcells [x]) := fun W => Sl.of_at_all (At.new_ _ _ 5 (bcells [x]) rfl)
      have HSL : Hid (∀ (W : World), Sl (W.alloc (.cells #[.int .u8 (ub x)] 5)) (some ⟨W.heap.size, 0, none⟩) (bcells [x])) := hsl
      have hbx := hbel.alloc hbel.size (.cells #[.int .u8 (ub x)] 5)
      clear hsl
      go_wp2_with (refine wpList_app rfl (.tmp 16) (.tmp 21) 23 rfl bytesTy w.heap.size u5 (j + 1) (bcells (k :: bs.take j)) rfl (hown.alloc _) _ 1 1 (bcells [x]) rfl rfl (HSL.out _) (bcells_one _) (by omega) hbx.size ?_; intro v1 w1 hown1 hgr1 hbl1)
      have hb1 := below_app hbx hgr1 (hown.alloc (.cells #[.int .u8 (ub x)] 5)) (Nat.le_refl _) hbx.size
      go_roundw
      case rel =>
        refine ⟨j + 1, by omega, by go_num, ?_, hb1⟩
        rw [HX.out, ← List.cons_append, ← bcells_app]; exact hown1
      case measure => simp [intOf]; omega
    · have hjn : j = l := by omega
      have hfl : bs.take j = bs := List.take_of_length_le (by rw [HL.out]; omega)
      rw [hfl, hjn] at hown
      obtain ⟨A', c', rfl, hsl, hc', _, hm', ha'⟩ := own_slice hown
      clear hown hfl
      go_wp2_with fail
      go_ret
      exact ⟨A', c', rfl, hsl, hc', hm', ha', hbel⟩
theorem refBytes_any (k : UInt8) (B : Option Addr) (l d : Nat) (bs : List UInt8) (w : World) (hl : bs.length = l) (hb : Sl w B (bcells bs)) (h45 : l ≤ 35184372088832) :
    Calls Tryd.prog 18 #[.int .i64 (ub k), .slice B l d] w fun e w' => ∃ A' c', e = .returned (.slice A' (l + 1) c') ∧ Sl w' A' (bcells (k :: bs)) ∧ l + 1 ≤ c' ∧ c' ≤ maxLen ∧ Below w.heap.size w w' :=
  (refBytes_new k B l d bs w hl hb h45).mono fun _ _ ⟨A', c', h1, h2, h3, h4, _, h6⟩ => ⟨A', c', h1, h2, h3, h4, h6⟩
end Go.Proofs.YtihkfomldbjpoaaDoor.SealW

/- What the reference's arithmetic comes to: the same words and bytes. Nothing of the dump. -/
namespace Go.Proofs.YtihkfomldbjpoaaDoor
namespace Sha
theorem rotr_sum (x : UInt32) (n : Nat) (h : n < 32) : (un x / 2 ^ n + un x * 2 ^ (32 - n) % 4294967296) % 4294967296 = un (rotr x n) := by
  have hx := u32_lt x
  unfold un
  rw [rotr_toNat]
  have e1 : x.toNat >>> n ||| x.toNat <<< (32 - n) % 4294967296 = x.toNat / 2 ^ n + x.toNat * 2 ^ (32 - n) % 4294967296 := by
    rw [Nat.shiftRight_eq_div_pow, Nat.shiftLeft_eq, Nat.or_comm, Nat.add_comm]
    have hp : 4294967296 = 2 ^ (32 - n) * 2 ^ n := by rw [← Nat.pow_add, show 32 - n + n = 32 by omega]
    refine nat_join (32 - n) _ _ ?_ ?_
    · rw [hp, Nat.mul_comm x.toNat, Nat.mul_mod_mul_left, Nat.mul_mod_right]
    · rw [Nat.div_lt_iff_lt_mul (Nat.two_pow_pos _), ← hp]; exact hx
  rw [e1]
  have e2 : x.toNat / 2 ^ n + x.toNat * 2 ^ (32 - n) % 4294967296 < 4294967296 := by
    rw [← e1]
    exact Nat.or_lt_two_pow (n := 32) (Nat.lt_of_le_of_lt (by rw [Nat.shiftRight_eq_div_pow]; exact Nat.div_le_self _ _) hx) (Nat.mod_lt _ (by omega))
  have e3 : ((x.toNat : Int) / 2 ^ n + (x.toNat : Int) * 2 ^ (32 - n) % 4294967296) = ((x.toNat / 2 ^ n + x.toNat * 2 ^ (32 - n) % 4294967296 : Nat) : Int) := by simp
  rw [e3]
  omega
theorem be32_sum (a b c d : UInt8) : un (be32 a b c d) = ub a * 16777216 + ub b * 65536 + ub c * 256 + ub d := by
  have ha := a.toNat_lt
  have hb := b.toNat_lt
  have hc := c.toNat_lt
  have hd := d.toNat_lt
  have e1 := u8_shl a 24 (by omega)
  have e2 := u8_shl b 16 (by omega)
  have e3 := u8_shl c 8 (by omega)
  unfold un ub be32
  rw [UInt32.toNat_or, UInt32.toNat_or, UInt32.toNat_or, show (24 : UInt32) = UInt32.ofNat 24 from rfl, show (16 : UInt32) = UInt32.ofNat 16 from rfl, show (8 : UInt32) = UInt32.ofNat 8 from rfl, e1, e2, e3, UInt8.toNat_toUInt32]
  rw [nat_join 24 (a.toNat * 2 ^ 24) (b.toNat * 2 ^ 16) (by omega) (by omega), nat_join 16 _ (c.toNat * 2 ^ 8) (by omega) (by omega), nat_join 8 _ d.toNat (by omega) (by omega)]
  omega
end Sha
end Go.Proofs.YtihkfomldbjpoaaDoor

namespace Go.Proofs.YtihkfomldbjpoaaDoor.ShaW
open Go.RowKit
open Sha
set_option maxHeartbeats 1000000 in
theorem right_q (x : UInt32) (z : Int) (w : World) (h : 0 < z ∧ z < 32) :
    Calls Tryd.prog 101 #[.int .u32 (un x), .int .i64 z] w fun e w' => e = .returned (.int .u32 (un (rotr x z.toNat))) ∧ ∃ m, w' = w.drewN m := by
  obtain ⟨n, rfl⟩ := Int.eq_ofNat_of_zero_le (by omega : 0 ≤ z)
  obtain ⟨h1, h2⟩ := h
  have hsum := rotr_sum x n (by omega)
  have e2 : IntKind.i64.wrap (32 - (n : Int)) = 32 - (n : Int) := IntWalk.i64_in _ (by omega)
  have e3 : Op.shift .shr .u32 (un x) .i64 (n : Int) = pure (.int .u32 (un x / 2 ^ n)) := by
    rw [shift_shr_any _ _ _ _ (by omega), show min (n : Int).toNat IntKind.u32.bits = n by simp only [IntKind.bits]; omega]
  have e4 : Op.shift .shl .u32 (un x) .i64 (32 - (n : Int)) = pure (.int .u32 (un x * 2 ^ (32 - n) % 4294967296)) := by
    rw [shift_shl_any _ _ _ _ (by omega), show min (32 - (n : Int)).toNat IntKind.u32.bits = 32 - n by simp only [IntKind.bits]; omega, IntKind.wrap_u32]
  have e5 : IntKind.u32.wrap (un x / 2 ^ n + un x * 2 ^ (32 - n) % 4294967296) = un (rotr x n) := by rw [IntKind.wrap_u32, hsum]
  clear hsum
  go_enter Tryd.func101, Tryd.ntmps101
  go_wp2_with fail
  go_quiet (fail)
  go_wp2_with fail
  go_ret
  refine ⟨ret_int ?_, _, rfl⟩
  rfl
set_option maxRecDepth 100000 in
set_option maxHeartbeats 1000000 in
theorem const_any (w : World) : Calls Tryd.prog 100 #[] w fun e w' => ∃ g, e = .returned (.slice (some ⟨g, 0, none⟩) 64 64) ∧ At w' g 100 (wcells K) ∧ Below w.heap.size w w' := by
  go_enter Tryd.func100, Tryd.ntmps100
  go_wp2_with fail
  go_ret
  exact ⟨_, rfl, At.new_ w _ 100 (wcells K) rfl, (Below.refl _ _).alloc (Nat.le_refl _) _⟩
end Go.Proofs.YtihkfomldbjpoaaDoor.ShaW

namespace Go.Proofs.YtihkfomldbjpoaaDoor.ShaW
open Go.RowKit
open Sha
theorem own_form {w : World} {base n : Nat} {e : TypeId} {v : Value} {xs : List Value} (h : w.ownsRow base e 1 v n xs) (hn : 0 < n) :
    ∃ g c, v = .slice (some ⟨g, 0, none⟩) n c ∧ n ≤ c ∧ base ≤ g ∧ g < w.heap.size ∧ ∀ j u, xs[j]? = some u → w.cell? ⟨g, j, none⟩ = some u := by
  rcases h.2 with ⟨rfl, hz⟩ | ⟨g, cap, cur, rfl, hb, hg, hnc, _⟩
  · omega
  · refine ⟨g, cap, rfl, hnc, hb, (Array.getElem?_eq_some_iff.1 hg).1, fun j u hu => ?_⟩
    have := h.cells (g := g) rfl j u hu
    rw [add_lit, Nat.zero_add] at this
    exact this
attribute [local go_sem] xor_u and_u or_u add_u add_u' xor_s3 xor_s10
set_option maxRecDepth 100000 in
set_option maxHeartbeats 2000000 in
theorem schedule_any (A : Option Addr) (c : Nat) (bs : List UInt8) (w : World) (hl : bs.length = 64) (hs : Sl w A (bcells bs)) :
    Calls Tryd.prog 99 #[.slice A 64 c] w fun e w' => ∃ g d, e = .returned (.slice (some ⟨g, 0, none⟩) 64 d) ∧ g < w'.heap.size ∧ (∀ j, j < 64 → w'.cell? ⟨g, j, none⟩ = some (.int .u32 (un ((sched bs 48).getD j 0)))) ∧ Below w.heap.size w w' := by
  obtain ⟨b, o, rfl, hbl, hcell⟩ := hs.get (j := 0) (by rw [bcells_len]; omega)
  have HCL : Hid (∀ (wr : World), Below w.heap.size w wr → ∀ j, j < 64 → wr.cell? ⟨b, o + j, none⟩ = some (.int .u8 (ub (bs.getD j 0)))) := by
    intro wr hb j hj
    exact (hb.cell (p := ⟨b, o + j, none⟩) hbl).trans (hcell j _ (bcells_get _ _ (by omega)))
  have HBL : Hid (bs.length = 64) := hl
  clear hcell hl
  go_enter Tryd.func99, Tryd.ntmps99
  go_wp2_with fail
  go_loopw [3, 4] (fun v i wr => ∃ k : Nat, k ≤ 16 ∧ i = .int .i64 (4 * (k : Int)) ∧ wr.ownsRow w.heap.size 100 1 v k (wcells (words bs k)) ∧ Below w.heap.size w wr)
    (fun _ i _ => 64 - (intOf i).toNat)
  case atStart => exact ⟨0, by omega, rfl, World.ownsRow_nil _ _ _ _, Below.refl _ _⟩
  case round =>
    obtain ⟨k, hk, rfl, hown, hbel⟩ := hrel
    by_cases hlt : k < 16
    · have c0 := HCL.out wr hbel (4 * k) (by omega)
      have c1 : wr.cell? ⟨b, o + (4 * k + 1), none⟩ = _ := HCL.out wr hbel (4 * k + 1) (by omega)
      have c2 : wr.cell? ⟨b, o + (4 * k + 2), none⟩ = _ := HCL.out wr hbel (4 * k + 2) (by omega)
      have c3 : wr.cell? ⟨b, o + (4 * k + 3), none⟩ = _ := HCL.out wr hbel (4 * k + 3) (by omega)
      have HW : Hid (words bs (k + 1) = words bs k ++ [be32 (bs.getD (4 * k) 0) (bs.getD (4 * k + 1) 0) (bs.getD (4 * k + 2) 0) (bs.getD (4 * k + 3) 0)]) := rfl
      have HSF : Hid (∀ wx, Below w.heap.size w wx → (wx.cell? ⟨b, o + 4 * k, none⟩ = some (.int .u8 (ub (bs.getD (4 * k) 0))) ∧ wx.cell? ⟨b, o + (4 * k + 1), none⟩ = some (.int .u8 (ub (bs.getD (4 * k + 1) 0))) ∧ wx.cell? ⟨b, o + (4 * k + 2), none⟩ = some (.int .u8 (ub (bs.getD (4 * k + 2) 0))) ∧ wx.cell? ⟨b, o + (4 * k + 3), none⟩ = some (.int .u8 (ub (bs.getD (4 * k + 3) 0))))) :=
        fun wx h => ⟨HCL.out wx h _ (by omega), HCL.out wx h _ (by omega), HCL.out wx h _ (by omega), HCL.out wx h _ (by omega)⟩
      generalize bs.getD (4 * k) 0 = x0 at *
      generalize bs.getD (4 * k + 1) 0 = x1 at *
      generalize bs.getD (4 * k + 2) 0 = x2 at *
      generalize bs.getD (4 * k + 3) 0 = x3 at *
      have b0 := ub_lt x0
      have b1 := ub_lt x1
      have b2 := ub_lt x2
      have b3 := ub_lt x3
      have d0 := ub_nn x0
      have d1 := ub_nn x1
      have d2 := ub_nn x2
      have d3 := ub_nn x3
      have g0 : (0 : Int) ≤ 4 * (k : Int) := by omega
      have g1 : (0 : Int) ≤ 4 * (k : Int) + 1 := by omega
      have g2 : (0 : Int) ≤ 4 * (k : Int) + 2 := by omega
      have g3 : (0 : Int) ≤ 4 * (k : Int) + 3 := by omega
      have l0 : 4 * (k : Int) < 64 := by omega
      have l1 : 4 * (k : Int) + 1 < 64 := by omega
      have l2 : 4 * (k : Int) + 2 < 64 := by omega
      have l3 : 4 * (k : Int) + 3 < 64 := by omega
      have n0 : (4 * (k : Int)).toNat = 4 * k := by omega
      have n1 : (4 * (k : Int) + 1).toNat = 4 * k + 1 := by omega
      have n2 : (4 * (k : Int) + 2).toNat = 4 * k + 2 := by omega
      have n3 : (4 * (k : Int) + 3).toNat = 4 * k + 3 := by omega
      have v1 : IntKind.i64.wrap (4 * (k : Int) + 1) = 4 * (k : Int) + 1 := IntWalk.i64_in _ (by omega)
      have v2 : IntKind.i64.wrap (4 * (k : Int) + 2) = 4 * (k : Int) + 2 := IntWalk.i64_in _ (by omega)
      have v3 : IntKind.i64.wrap (4 * (k : Int) + 3) = 4 * (k : Int) + 3 := IntWalk.i64_in _ (by omega)
      have u0 : IntKind.u32.wrap (ub x0) = ub x0 := IntWalk.u32_in _ (by omega)
      have u1 : IntKind.u32.wrap (ub x1) = ub x1 := IntWalk.u32_in _ (by omega)
      have u2 : IntKind.u32.wrap (ub x2) = ub x2 := IntWalk.u32_in _ (by omega)
      have u3' : IntKind.u32.wrap (ub x3) = ub x3 := IntWalk.u32_in _ (by omega)
      have r0 : IntKind.u32.wrap (ub x0 * 16777216) = ub x0 * 16777216 := IntWalk.u32_in _ (by omega)
      have r1 : IntKind.u32.wrap (ub x1 * 65536) = ub x1 * 65536 := IntWalk.u32_in _ (by omega)
      have r2 : IntKind.u32.wrap (ub x2 * 256) = ub x2 * 256 := IntWalk.u32_in _ (by omega)
      have t1 : IntKind.u32.wrap (ub x0 * 16777216 + ub x1 * 65536) = ub x0 * 16777216 + ub x1 * 65536 := IntWalk.u32_in _ (by omega)
      have t2 : IntKind.u32.wrap (ub x0 * 16777216 + ub x1 * 65536 + ub x2 * 256) = ub x0 * 16777216 + ub x1 * 65536 + ub x2 * 256 := IntWalk.u32_in _ (by omega)
      have t3 : IntKind.u32.wrap (ub x0 * 16777216 + ub x1 * 65536 + ub x2 * 256 + ub x3) = un (be32 x0 x1 x2 x3) := by
        rw [be32_sum]; exact IntWalk.u32_in _ (by omega)
      have hbs := hbel.size
      clear b0 b1 b2 b3 d0 d1 d2 d3
      go_wp2_with fail
      go_region_held3 (fun wx => wx.cell? ⟨b, o + 4 * k, none⟩ = some (.int .u8 (ub x0)) ∧ wx.cell? ⟨b, o + (4 * k + 1), none⟩ = some (.int .u8 (ub x1)) ∧ wx.cell? ⟨b, o + (4 * k + 2), none⟩ = some (.int .u8 (ub x2)) ∧ wx.cell? ⟨b, o + (4 * k + 3), none⟩ = some (.int .u8 (ub x3)))
        (first
          | go_keep
          | exact HSF.out _ hbel2)
        ((refine step_app rfl (.tmp 12) (.tmp 42) 101 rfl wordsTy w.heap.size u3 k _ (by rfl) (hown.alloc _).drew _ 1 1 (wcells [be32 x0 x1 x2 x3]) (by rfl) (by rfl) (Sl.of_at_all (At.new_ wr _ 100 (wcells [be32 x0 x1 x2 x3]) rfl)) (wcells_one _) (by omega) (by simp; omega) ?_; intro v2 w2 hown2 hgr2 hbl2; have hbel2 := below_app ((hbel.alloc hbs (.cells #[.int .u32 (un (be32 x0 x1 x2 x3))] 100)).drew) hgr2 (hown.alloc _).drew (Nat.le_refl _) (by simp; omega)))
      go_simp
      go_wp2_with fail
      clear c0 c1 c2 c3
      go_roundw
      case rel =>
        refine ⟨k + 1, by omega, by go_num, ?_, hbel2⟩
        rw [HW.out, ← wcells_app]; exact hown2
      case measure => simp [intOf]; omega
    · have hk16 : 16 ≤ k := by omega
      have hown0 : wr.ownsRow w.heap.size 100 1 u3 16 (wcells (sched bs 0)) := by
        have e : k = 16 := by omega
        rw [e] at hown; exact hown
      clear hown hlt
      go_wp2_with fail
      obtain ⟨wo, hwo⟩ : ∃ wo : World, wo = wr := ⟨_, rfl⟩
      subst hwo
      go_loopw [3, 5] (fun v i wr => ∃ k : Nat, 16 ≤ k ∧ k ≤ 64 ∧ i = .int .i64 k ∧ wr.ownsRow w.heap.size 100 1 v k (wcells (sched bs (k - 16))) ∧ Below w.heap.size w wr)
        (fun _ i _ => 64 - (intOf i).toNat)
      case atStart => exact ⟨16, by omega, by omega, rfl, hown0, hbel⟩
      case round =>
        clear hown0 hbel hk hk16
        obtain ⟨k, hk1, hk2, rfl, hown, hbel⟩ := hrel
        have HL2 : Hid ((sched bs (k - 16)).length = k) := by show _ = _; rw [sched_len]; omega
        obtain ⟨g, d, rfl, hkd, hgb, hgl, hcel⟩ := own_form hown (by omega)
        by_cases hlt : k < 64
        · have cx : ∀ j, j < k → wr.cell? ⟨g, j, none⟩ = some (.int .u32 (un ((sched bs (k - 16)).getD j 0))) := fun j hj => hcel j _ (wcells_get _ _ (by rw [HL2.out]; exact hj))
          have c16 := cx (k - 16) (by omega)
          have c15 := cx (k - 15) (by omega)
          have c7 := cx (k - 7) (by omega)
          have c2 := cx (k - 2) (by omega)
          have HW : Hid (sched bs (k + 1 - 16) = sched bs (k - 16) ++ [(sched bs (k - 16)).getD (k - 16) 0 + ssig0 ((sched bs (k - 16)).getD (k - 15) 0) + (sched bs (k - 16)).getD (k - 7) 0 + ssig1 ((sched bs (k - 16)).getD (k - 2) 0)]) := by
            show _ = _
            rw [show k + 1 - 16 = (k - 16) + 1 by omega]
            show sched bs (k - 16) ++ [ext (sched bs (k - 16))] = _
            unfold ext; rw [HL2.out]
          generalize (sched bs (k - 16)).getD (k - 16) 0 = x0 at *
          generalize (sched bs (k - 16)).getD (k - 15) 0 = x1 at *
          generalize (sched bs (k - 16)).getD (k - 7) 0 = x2 at *
          generalize (sched bs (k - 16)).getD (k - 2) 0 = x3 at *
          have hbs := hbel.size
          have HCX : Hid (∀ j, j < k → wr.cell? ⟨g, j, none⟩ = some (.int .u32 (un ((sched bs (k - 16)).getD j 0)))) := cx
          clear cx hcel
          have g15 : (0 : Int) ≤ (k : Int) - 15 := by omega
          have h15 : (15 : Int) ≤ (k : Int) := by omega
          have l15 : (k : Int) - 15 < (k : Int) := by omega
          have n15 : ((k : Int) - 15).toNat = k - 15 := by omega
          have v15 : IntKind.i64.wrap ((k : Int) - 15) = (k : Int) - 15 := IntWalk.i64_in _ (by omega)
          have g2 : (0 : Int) ≤ (k : Int) - 2 := by omega
          have h2 : (2 : Int) ≤ (k : Int) := by omega
          have l2 : (k : Int) - 2 < (k : Int) := by omega
          have n2 : ((k : Int) - 2).toNat = k - 2 := by omega
          have v2 : IntKind.i64.wrap ((k : Int) - 2) = (k : Int) - 2 := IntWalk.i64_in _ (by omega)
          have g16 : (0 : Int) ≤ (k : Int) - 16 := by omega
          have h16 : (16 : Int) ≤ (k : Int) := by omega
          have l16 : (k : Int) - 16 < (k : Int) := by omega
          have n16 : ((k : Int) - 16).toNat = k - 16 := by omega
          have v16 : IntKind.i64.wrap ((k : Int) - 16) = (k : Int) - 16 := IntWalk.i64_in _ (by omega)
          have g7 : (0 : Int) ≤ (k : Int) - 7 := by omega
          have h7 : (7 : Int) ≤ (k : Int) := by omega
          have l7 : (k : Int) - 7 < (k : Int) := by omega
          have n7 : ((k : Int) - 7).toNat = k - 7 := by omega
          have v7 : IntKind.i64.wrap ((k : Int) - 7) = (k : Int) - 7 := IntWalk.i64_in _ (by omega)
          go_wp2_with fail
          go_quiet ((go_at_call 101; exact Calls.quiet_of (right_q _ _ _ (by omega))))
          have c16 : (wr.drewN nq).cell? ⟨g, k - 16, none⟩ = some (.int .u32 (un x0)) := c16
          have c2 : (wr.drewN nq).cell? ⟨g, k - 2, none⟩ = some (.int .u32 (un x3)) := c2
          have c7 : (wr.drewN nq).cell? ⟨g, k - 7, none⟩ = some (.int .u32 (un x2)) := c7
          have hbel := below_drewN hbel nq
          have hown := own_drewN hown nq
          have hgl : g < (wr.drewN nq).heap.size := hgl
          have hbs : w.heap.size ≤ (wr.drewN nq).heap.size := hbs
          generalize wr.drewN nq = wr at *
          go_wp2_with fail
          go_quiet ((go_at_call 101; exact Calls.quiet_of (right_q _ _ _ (by omega))))
          have c16 : (wr.drewN nq).cell? ⟨g, k - 16, none⟩ = some (.int .u32 (un x0)) := c16
          have c7 : (wr.drewN nq).cell? ⟨g, k - 7, none⟩ = some (.int .u32 (un x2)) := c7
          have hbel := below_drewN hbel nq
          have hown := own_drewN hown nq
          have hgl : g < (wr.drewN nq).heap.size := hgl
          have hbs : w.heap.size ≤ (wr.drewN nq).heap.size := hbs
          generalize wr.drewN nq = wr at *
          go_wp2_with fail
          have n64 : k + 1 ≤ 64 := by omega
          go_region_law (first
            | (refine step_app rfl (.tmp 88) (.tmp 104) 101 rfl wordsTy w.heap.size (.slice (some ⟨g, 0, none⟩) k d) k _ (by rfl) (hown.alloc _).drew _ 1 1 (wcells [x0 + ssig0 x1 + x2 + ssig1 x3]) (by rfl) (by rfl) (Sl.of_at_all (At.new_ wr _ 100 (wcells [x0 + ssig0 x1 + x2 + ssig1 x3]) rfl)) (wcells_one _) (by omega) (by simp; omega) ?_; intro v2 w2 hown2 hgr2 hbl2))
          all_goals
            have hbel2 := below_app ((hbel.alloc hbs (.cells (wcells [x0 + ssig0 x1 + x2 + ssig1 x3]).toArray 100)).drew) hgr2 (hown.alloc _).drew (Nat.le_refl _) (by simp; omega)
            clear c16 c7
            go_simp
            go_wp2_with fail
            go_roundw
            case rel =>
              refine ⟨k + 1, by omega, by omega, by go_num, ?_, hbel2⟩
              rw [HW.out, ← wcells_app]; exact hown2
            case measure => simp [intOf]; omega
        · have hk64 : 64 ≤ k := by omega
          have e : k = 64 := by omega
          have HC : Hid (∀ j, j < 64 → wr.cell? ⟨g, j, none⟩ = some (.int .u32 (un ((sched bs 48).getD j 0)))) := by
            rw [e] at hcel
            exact fun j hj => hcel j _ (wcells_get _ _ (by rw [sched_len]; exact hj))
          have HE : Hid (k = 64) := e
          clear hcel hown HL2 e
          go_wp2_with fail
          go_ret
          rw [HE.out]
          exact ⟨g, d, rfl, hgl, HC.out, hbel⟩
end Go.Proofs.YtihkfomldbjpoaaDoor.ShaW

namespace Go.Proofs.YtihkfomldbjpoaaDoor.ShaW
open Go.RowKit
open Sha
attribute [local go_sem] xor_u and_u or_u add_u add_u' not_u
set_option maxRecDepth 100000 in
set_option maxHeartbeats 4000000 in
theorem block_any (s : St) (A B : Option Addr) (c d : Nat) (bs : List UInt8) (w : World) (hl : bs.length = 64) (hs : Sl w A (wcells s.toL)) (hb : Sl w B (bcells bs)) :
    Calls Tryd.prog 87 #[.slice A 8 c, .slice B 64 d] w fun e w' => ∃ g, e = .returned (.slice (some ⟨g, 0, none⟩) 8 8) ∧ At w' g 100 (wcells (compress s bs).toL) ∧ Below w.heap.size w w' := by
  obtain ⟨b, o, rfl, hbl, hcell⟩ := hs.get (j := 0) (by simp [wcells, St.toL])
  have HCL : Hid (∀ (wr : World), Below w.heap.size w wr → ∀ j, j < 8 → wr.cell? ⟨b, o + j, none⟩ = some (.int .u32 (un (s.toL.getD j 0)))) := by
    intro wr hb j hj
    exact (hb.cell (p := ⟨b, o + j, none⟩) hbl).trans (hcell j _ (wcells_get _ _ (by simp [St.toL]; omega)))
  clear hcell hs
  go_enter Tryd.func87, Tryd.ntmps87
  go_wp2_with fail
  refine (schedule_any B d bs w hl hb).mono ?_
  rintro e w1 ⟨gw, dw, rfl, hgw, hcw, hb1⟩
  have HW1 : Hid (∀ j, j < 64 → w1.cell? ⟨gw, j, none⟩ = some (.int .u32 (un ((sched bs 48).getD j 0)))) := hcw
  clear hcw
  go_wp2_with fail
  refine (const_any _).mono ?_
  rintro e W ⟨gk, rfl, hK, hb2⟩
  have hbW := hb1.trans (hb2.mono hb1.size)
  have HW2 : Hid (∀ wr, Below w1.heap.size w1 wr → ∀ j, j < 64 → wr.cell? ⟨gw, j, none⟩ = some (.int .u32 (un ((sched bs 48).getD j 0)))) :=
    fun wr h j hj => (h.cell (p := ⟨gw, j, none⟩) hgw).trans (HW1.out j hj)
  have c0 : W.cell? ⟨b, o, none⟩ = some (.int .u32 (un s.a)) := HCL.out W hbW 0 (by omega)
  have c1 : W.cell? ⟨b, o + 1, none⟩ = some (.int .u32 (un s.b)) := HCL.out W hbW 1 (by omega)
  have c2 : W.cell? ⟨b, o + 2, none⟩ = some (.int .u32 (un s.c)) := HCL.out W hbW 2 (by omega)
  have c3 : W.cell? ⟨b, o + 3, none⟩ = some (.int .u32 (un s.d)) := HCL.out W hbW 3 (by omega)
  have c4 : W.cell? ⟨b, o + 4, none⟩ = some (.int .u32 (un s.e)) := HCL.out W hbW 4 (by omega)
  have c5 : W.cell? ⟨b, o + 5, none⟩ = some (.int .u32 (un s.f)) := HCL.out W hbW 5 (by omega)
  have c6 : W.cell? ⟨b, o + 6, none⟩ = some (.int .u32 (un s.g)) := HCL.out W hbW 6 (by omega)
  have c7 : W.cell? ⟨b, o + 7, none⟩ = some (.int .u32 (un s.h)) := HCL.out W hbW 7 (by omega)
  go_wp2_with fail
  go_quiet (fail)
  clear c0 c1 c2 c3 c4 c5 c6 c7
  have hK := hK.drewN nq
  have hbW := below_drewN hbW nq
  have hb2 := below_drewN hb2 nq
  generalize W.drewN nq = W at *
  go_wp2_with fail
  go_loopw [7, 8, 9, 10, 11, 12, 13, 14, 15] (fun v0 v1 v2 v3 v4 v5 v6 v7 i wr => ∃ k : Nat, k ≤ 64 ∧ i = .int .i64 k ∧ v0 = .int .u32 (un (rounds (sched bs 48) s k).a) ∧ v1 = .int .u32 (un (rounds (sched bs 48) s k).b) ∧ v2 = .int .u32 (un (rounds (sched bs 48) s k).c) ∧ v3 = .int .u32 (un (rounds (sched bs 48) s k).d) ∧ v4 = .int .u32 (un (rounds (sched bs 48) s k).e) ∧ v5 = .int .u32 (un (rounds (sched bs 48) s k).f) ∧ v6 = .int .u32 (un (rounds (sched bs 48) s k).g) ∧ v7 = .int .u32 (un (rounds (sched bs 48) s k).h) ∧ At wr gk 100 (wcells K) ∧ Below w.heap.size w wr ∧ Below w1.heap.size w1 wr)
    (fun _ _ _ _ _ _ _ _ i _ => 64 - (intOf i).toNat)
  case atStart => exact ⟨0, by omega, rfl, rfl, rfl, rfl, rfl, rfl, rfl, rfl, rfl, hK, hbW, hb2⟩
  case round =>
    clear hK hbW hb2
    obtain ⟨k, hk, rfl, rfl, rfl, rfl, rfl, rfl, rfl, rfl, rfl, hK, hbW, hb2⟩ := hrel
    by_cases hlt : k < 64
    · have cw := HW2.out wr hb2 k hlt
      have ck : wr.cell? ⟨gk, k, none⟩ = some (.int .u32 (un (K.getD k 0))) := (hK.cell k).trans (wcells_get _ _ (by rw [K_len]; exact hlt))
      have HR : Hid (rounds (sched bs 48) s (k + 1) = rstep (rounds (sched bs 48) s k) (K.getD k 0) ((sched bs 48).getD k 0)) := rfl
      generalize (sched bs 48).getD k 0 = x0 at *
      generalize K.getD k 0 = x1 at *
      generalize rounds (sched bs 48) s k = r at *
      have g0 : (0 : Int) ≤ (k : Int) := by omega
      have g1 : (k : Int) < 64 := by omega
      go_wp2_with fail
      go_quiet ((go_at_call 101; exact Calls.quiet_of (right_q _ _ _ (by omega))))
      clear cw ck
      have hK := hK.drewN nq
      have hbW := below_drewN hbW nq
      have hb2 := below_drewN hb2 nq
      generalize wr.drewN nq = wr at *
      go_wp2_with fail
      refine (right_q _ _ _ (by omega)).mono ?_
      rintro e w' ⟨rfl, m1, rfl⟩
      have hK := hK.drewN m1
      have hbW := below_drewN hbW m1
      have hb2 := below_drewN hb2 m1
      generalize wr.drewN m1 = wr at *
      go_wp2_with fail
      refine (right_q _ _ _ (by omega)).mono ?_
      rintro e w' ⟨rfl, m2, rfl⟩
      have hK := hK.drewN m2
      have hbW := below_drewN hbW m2
      have hb2 := below_drewN hb2 m2
      generalize wr.drewN m2 = wr at *
      go_wp2_with fail
      refine (right_q _ _ _ (by omega)).mono ?_
      rintro e w' ⟨rfl, m3, rfl⟩
      have hK := hK.drewN m3
      have hbW := below_drewN hbW m3
      have hb2 := below_drewN hb2 m3
      generalize wr.drewN m3 = wr at *
      go_wp2_with fail
      go_roundw
      case rel =>
        refine ⟨k + 1, by omega, by go_num, ?_, ?_, ?_, ?_, ?_, ?_, ?_, ?_, hK, hbW, hb2⟩ <;> rw [HR.out] <;> rfl
      case measure => simp [intOf]; omega
    · have hk3 : 64 ≤ k := by omega
      have HK64 : Hid (k = 64) := by show _ = _; omega
      have c0 : wr.cell? ⟨b, o, none⟩ = some (.int .u32 (un s.a)) := HCL.out wr hbW 0 (by omega)
      have c1 : wr.cell? ⟨b, o + 1, none⟩ = some (.int .u32 (un s.b)) := HCL.out wr hbW 1 (by omega)
      have c2 : wr.cell? ⟨b, o + 2, none⟩ = some (.int .u32 (un s.c)) := HCL.out wr hbW 2 (by omega)
      have c3 : wr.cell? ⟨b, o + 3, none⟩ = some (.int .u32 (un s.d)) := HCL.out wr hbW 3 (by omega)
      have c4 : wr.cell? ⟨b, o + 4, none⟩ = some (.int .u32 (un s.e)) := HCL.out wr hbW 4 (by omega)
      have c5 : wr.cell? ⟨b, o + 5, none⟩ = some (.int .u32 (un s.f)) := HCL.out wr hbW 5 (by omega)
      have c6 : wr.cell? ⟨b, o + 6, none⟩ = some (.int .u32 (un s.g)) := HCL.out wr hbW 6 (by omega)
      have c7 : wr.cell? ⟨b, o + 7, none⟩ = some (.int .u32 (un s.h)) := HCL.out wr hbW 7 (by omega)
      go_wp2_with fail
      refine wp_region_still_tail 40 (by kernel_rfl) (by kernel_rfl) ?_
      simp only [List.take_succ_cons, List.take_zero, List.drop_succ_cons, List.drop_zero]
      repeat still_step
      refine wpStill_nil ?_
      change wpList _ _ _ _ _ wr.drew
      have hbW := hbW.drew
      generalize wr.drew = wr at *
      go_wp2_with fail
      go_ret
      rw [HK64.out]
      exact ⟨_, rfl, At.new_ wr _ 100 (wcells (compress s bs).toL) rfl, hbW.alloc hbW.size _⟩
end Go.Proofs.YtihkfomldbjpoaaDoor.ShaW

/- Padding, and the digest block by block. Nothing of the dump. -/
namespace Go.Proofs.YtihkfomldbjpoaaDoor
namespace Sha
/-- What is put behind bytes: the mark, zeros, the number of bits. -/
def zc (n : Nat) : Nat := (119 - n % 64) % 64
def padL (bs : List UInt8) : List UInt8 := bs ++ 128 :: zeros (zc bs.length) ++ lenB bs.length 8
def tailB (N : Nat) : Nat → List UInt8
  | 0 => []
  | k + 1 => UInt8.ofNat (8 * N / 256 ^ k) :: tailB N k
theorem tailB_len (N k : Nat) : (tailB N k).length = k := by
  induction k with
  | zero => rfl
  | succ k ih => simp [tailB, ih]
theorem tailB_lenB (N : Nat) : tailB N 8 = lenB N 8 := rfl
theorem padL_len (bs : List UInt8) : (padL bs).length = bs.length + 9 + zc bs.length := by
  simp [padL, zeros_len, lenB_len]; omega
theorem padL_mod (bs : List UInt8) : (padL bs).length % 64 = 0 := by
  rw [padL_len]; unfold zc; omega
/-- The digest is what the padded bytes lead to, block by block. -/
theorem absorb_pad (bs : List UInt8) : (absorb iv (padL bs)).1 = finish (absorb iv bs).1 (absorb iv bs).2 bs.length := by
  unfold padL
  rw [List.append_assoc, absorb_app]
  have hl := absorb_len iv bs
  generalize absorb iv bs = p at *
  obtain ⟨s, r⟩ := p
  simp only at hl ⊢
  unfold finish
  have hz : zc bs.length = (119 - r.length) % 64 := by unfold zc; rw [hl]
  by_cases h : 56 ≤ r.length
  · have hz' : zc bs.length = (63 - r.length) + 56 := by omega
    have hlen : (r ++ 128 :: zeros (63 - r.length)).length = 64 := by simp [zeros_len]; omega
    have hlen2 : (zeros 56 ++ lenB bs.length 8).length = 64 := by simp [zeros_len, lenB_len]
    rw [if_pos h, hz', show zeros (63 - r.length + 56) = zeros (63 - r.length) ++ zeros 56 from (List.replicate_append_replicate ..).symm]
    have e : r ++ (128 :: (zeros (63 - r.length) ++ zeros 56) ++ lenB bs.length 8) = (r ++ 128 :: zeros (63 - r.length)) ++ (zeros 56 ++ lenB bs.length 8) := by simp
    rw [e, absorb_long _ _ (by rw [List.length_append, hlen]; omega), List.take_left' hlen, List.drop_left' hlen, absorb_long _ _ (by rw [hlen2]; omega), List.take_of_length_le (by omega), List.drop_of_length_le (by omega), absorb_short _ _ (by simp)]
  · have hz' : zc bs.length = 55 - r.length := by omega
    have hlen : (r ++ 128 :: zeros (55 - r.length) ++ lenB bs.length 8).length = 64 := by simp [zeros_len, lenB_len]; omega
    rw [if_neg h, hz']
    have e : r ++ (128 :: zeros (55 - r.length) ++ lenB bs.length 8) = r ++ 128 :: zeros (55 - r.length) ++ lenB bs.length 8 := by simp
    rw [e, absorb_long _ _ (by omega), List.take_of_length_le (by omega), List.drop_of_length_le (by omega), absorb_short _ _ (by simp)]
/-- The words behind the first n blocks. -/
def blocksN (l : List UInt8) : Nat → St
  | 0 => iv
  | n + 1 => compress (blocksN l n) ((l.drop (64 * n)).take 64)
theorem absorb_blocks (l : List UInt8) : ∀ n, 64 * n ≤ l.length → absorb iv l = absorb (blocksN l n) (l.drop (64 * n))
  | 0, _ => rfl
  | n + 1, h => by
    rw [absorb_blocks l n (by omega), absorb_long _ _ (by simp; omega), List.drop_drop]
    rfl
theorem blocks_all (l : List UInt8) (h : l.length % 64 = 0) : blocksN l (l.length / 64) = (absorb iv l).1 := by
  rw [absorb_blocks l (l.length / 64) (by omega), absorb_short _ _ (by simp; omega)]
end Sha
end Go.Proofs.YtihkfomldbjpoaaDoor

namespace Go.Proofs.YtihkfomldbjpoaaDoor.ShaW
open Go.RowKit
open Sha
/-- A literal slice of bytes owns its row. -/
theorem own_lit (w : World) (base : Nat) (e : TypeId) (cs : List Value) (n : Nat) (hn : cs.length = n) (hb : base ≤ w.heap.size) (hm : n ≤ 1000) :
    (w.alloc (.cells cs.toArray e)).ownsRow base e 1 (.slice (some ⟨w.heap.size, 0, none⟩) n n) n cs := by
  have := World.ownsRow_lit (base := base) (e := e) (size := 1) w cs.toArray n hb (by simp only [maxLen]; omega) (by simpa using hn)
  simpa using this
set_option maxRecDepth 100000 in
set_option maxHeartbeats 2000000 in
theorem padded_any (B : Option Addr) (l d : Nat) (bs : List UInt8) (w : World) (hl : bs.length = l) (hb : Sl w B (bcells bs)) (hl40 : l ≤ 1099511627776) :
    Calls Tryd.prog 86 #[.slice B l d] w fun e w' => ∃ A c, e = .returned (.slice A (l + 9 + zc l) c) ∧ Sl w' A (bcells (padL bs)) ∧ l + 9 + zc l ≤ c ∧ Below w.heap.size w w' := by
  have HL : Hid (bs.length = l) := hl
  have hz : zc l < 64 := by unfold zc; omega
  have HZ : Hid (zc l = (119 - l % 64) % 64) := rfl
  clear hl
  generalize zc l = Z at *
  have hr0 : Below w.heap.size w w := Below.refl _ _
  have o0 : (w.alloc (.cells #[] 5)).ownsRow w.heap.size 5 1 (.slice (some ⟨w.heap.size, 0, none⟩) 0 0) 0 [] := own_lit w w.heap.size 5 [] 0 rfl (Nat.le_refl _) (by omega)
  have h0 : Below w.heap.size w (w.alloc (.cells #[] 5)) := hr0.alloc (Nat.le_refl _) _
  go_enter Tryd.func86, Tryd.ntmps86
  go_wp2_with (first
    | (at_builtin; refine wpList_app rfl (.tmp 7) (.tmp 8) 23 rfl bytesTy w.heap.size (.slice (some ⟨w.heap.size, 0, none⟩) 0 0) 0 [] rfl o0 B l d (bcells bs) rfl (by rw [bcells_len]; exact HL.out) (hb.below h0) (bcells_one _) (by omega) (by simp) ?_; intro v1 w1 hown1 hgr1 hbl1; have h1 := below_app h0 hgr1 o0 (Nat.le_refl _) (by simp); simp only [Nat.zero_add, List.nil_append] at hown1; have hs1 := h1.size)
    | (at_builtin; refine wpList_app rfl (.tmp 9) (.tmp 10) 23 rfl bytesTy w.heap.size v1 l (bcells bs) rfl (hown1.alloc _) _ 1 1 (bcells [128]) rfl rfl (Sl.of_at_all (At.new_ w1 _ 5 (bcells [128]) rfl)) (bcells_one _) (by omega) (by simp; omega) ?_; intro v2 w2 hown2 hgr2 hbl2; have h2 := below_app (h1.alloc hs1 (.cells (bcells [128]).toArray 5)) hgr2 (hown1.alloc _) (Nat.le_refl _) (by simp; omega); rw [bcells_app] at hown2))
  clear o0 h0 hown1 hgr1 hgr2 hbl1 hbl2 hr0 hs1
  go_loopw [3] (fun v wr => ∃ m : Nat, l + 1 ≤ m ∧ m ≤ l + 1 + Z ∧ wr.ownsRow w.heap.size 5 1 v m (bcells (bs ++ 128 :: zeros (m - l - 1))) ∧ Below w.heap.size w wr)
    (fun v _ => l + 1 + Z - slLen v)
  case atStart => exact ⟨l + 1, Nat.le_refl _, by omega, by rw [show l + 1 - l - 1 = 0 by omega]; exact hown2, h2⟩
  case round =>
    clear hown2 h2
    obtain ⟨m, hm1, hm2, hown, hbel⟩ := hrel
    obtain ⟨A, c, rfl, hsl, hmc, _, hcm, _⟩ := own_slice hown
    have hbs := hbel.size
    by_cases hlt : m < l + 1 + Z
    · have hne : ((m : Int) % 64 != 56) = true := by
        have : m % 64 ≠ 56 := by have := HZ.out; omega
        simp; omega
      have HX : Hid (bs ++ 128 :: zeros (m + 1 - l - 1) = (bs ++ 128 :: zeros (m - l - 1)) ++ [0]) := by
        show _ = _
        rw [show m + 1 - l - 1 = (m - l - 1) + 1 by omega]
        simp [zeros, List.replicate_succ']
      have hsl0 : Sl (wr.alloc (.cells #[.int .u8 0] 5)) (some ⟨wr.heap.size, 0, none⟩) (bcells [0]) := Sl.of_at_all (At.new_ wr _ 5 (bcells [0]) rfl)
      go_wp2_with (first
        | (at_builtin; refine wpList_app rfl (.tmp 16) (.tmp 17) 23 rfl bytesTy w.heap.size (.slice A m c) m _ rfl (hown.alloc _) _ 1 1 (bcells [0]) rfl rfl hsl0 (bcells_one _) (by omega) (by simp; omega) ?_; intro v2 w2 hown2 hgr2 hbl2))
      have hbel2 := below_app (hbel.alloc hbs _) hgr2 (hown.alloc _) (Nat.le_refl _) (by simp; omega)
      obtain ⟨A2, c2, rfl, _, _⟩ := own_slice hown2
      go_roundw
      case rel =>
        refine ⟨m + 1, by omega, by omega, ?_, hbel2⟩
        rw [HX.out, ← bcells_app]; exact hown2
      case measure => simp [slLen]; omega
    · have hne : ((m : Int) % 64 != 56) = false := by
        have : m % 64 = 56 := by have := HZ.out; omega
        simp; omega
      have HM : Hid (m = l + 1 + Z) := by show _ = _; omega
      go_wp2_with fail
      clear hne
      obtain ⟨OUT, hOUT⟩ : ∃ OUT, OUT = bs ++ 128 :: zeros (m - l - 1) := ⟨_, rfl⟩
      rw [← hOUT] at hown
      have HOUT : Hid (OUT = bs ++ 128 :: zeros Z) := by show _ = _; rw [hOUT, show m - l - 1 = Z by have := HM.out; omega]
      clear hOUT hlt hsl
      obtain ⟨wo, hwo⟩ : ∃ wo : World, wo = wr := ⟨_, rfl⟩
      subst hwo
      go_loopw [4, 5, 6] (fun q t i wr => ∃ (k Q : Nat), k ≤ 8 ∧ i = .int .i64 k ∧ q = .int .u64 (Q : Int) ∧ Hid (Q = 8 * l / 256 ^ k) ∧ Q ≤ 8796093022208 ∧ wr.ownsRow w.heap.size 5 1 t k (bcells (tailB l k)) ∧ wr.ownsRow w.heap.size 5 1 (.slice A m c) m (bcells OUT) ∧ Below w.heap.size w wr)
        (fun _ _ i _ => 8 - (intOf i).toNat)
      case atStart => exact ⟨0, 8 * l, by omega, rfl, congrArg (Value.int .u64) (by omega), by show _ = _; simp, by omega, World.ownsRow_nil _ _ _ _, hown, hbel⟩
      case round =>
        clear hown hbel hbs
        obtain ⟨k, Q, hk, rfl, rfl, HQ, hQ, ht, hown, hbel⟩ := hrel
        obtain ⟨A5, c5, rfl, hs5, _, _⟩ := own_slice ht
        have hbs := hbel.size
        by_cases hlt : k < 8
        · have HT : Hid (tailB l (k + 1) = [UInt8.ofNat Q] ++ tailB l k) := by show _ = _; rw [HQ.out]; rfl
          have hu : ub (UInt8.ofNat Q) = (Q : Int) % 256 := by unfold ub; rw [UInt8.toNat_ofNat']; simp
          have HSL : Hid ((wr.alloc (.cells #[.int .u8 ((Q : Int) % 256)] 5)).ownsRow w.heap.size 5 1 (.slice (some ⟨wr.heap.size, 0, none⟩) 1 1) 1 (bcells [UInt8.ofNat Q])) := by
            have := own_lit wr w.heap.size 5 (bcells [UInt8.ofNat Q]) 1 rfl hbs (by omega)
            unfold Hid
            simpa [bcells, bv, hu] using this
          have HQ2 : Hid (Q / 256 = 8 * l / 256 ^ (k + 1)) := by
            show _ = _; rw [HQ.out, Nat.div_div_eq_div_mul, Nat.pow_succ]
          clear hu
          go_wp2_with (first
            | (at_builtin; refine wpList_app rfl (.tmp 30) (.tmp 31) 23 rfl bytesTy w.heap.size (.slice (some ⟨wr.heap.size, 0, none⟩) 1 1) 1 _ rfl HSL.out A5 k c5 (bcells (tailB l k)) rfl (by rw [bcells_len, tailB_len]) (hs5.alloc _) (bcells_one _) (by omega) (by simp; omega) ?_; intro v2 w2 hown2 hgr2 hbl2))
          have hbel2 := below_app (hbel.alloc hbs _) hgr2 HSL.out (Nat.le_refl _) (by simp; omega)
          have hown3 := (hown.alloc (.cells #[.int .u8 ((Q : Int) % 256)] 5)).kept hgr2 (by
            rcases hob : (Value.slice A m c).ownBlock with _ | b
            · exact .inl rfl
            · right
              have := (hown.lt b hob).2
              simp [Value.ownBlock]; omega)
          go_roundw
          case rel =>
            refine ⟨k + 1, Q / 256, by omega, by go_num, congrArg (Value.int .u64) (by omega), HQ2, by omega, ?_, hown3, hbel2⟩
            rw [HT.out, ← bcells_app, Nat.add_comm k 1]; exact hown2
          case measure => simp [intOf]; omega
        · have hk8 : 8 ≤ k := by omega
          have HK : Hid (k = 8) := by show _ = _; omega
          go_wp2_with (first
            | (at_builtin; refine wpList_app rfl (.tmp 35) (.tmp 36) 23 rfl bytesTy w.heap.size (.slice A m c) m _ rfl hown A5 k c5 (bcells (tailB l k)) rfl (by rw [bcells_len, tailB_len]) hs5 (bcells_one _) (by omega) hbs ?_; intro v2 w2 hown2 hgr2 hbl2))
          have hbel2 := below_app hbel hgr2 hown (Nat.le_refl _) hbs
          obtain ⟨A2, c2, rfl, hsl2, hc2, _⟩ := own_slice hown2
          go_ret
          have e1 : m + k = l + 9 + Z := by have := HM.out; omega
          refine ⟨A2, c2, ?_, ?_, by omega, hbel2⟩
          · rw [← e1]; rfl
          · rw [bcells_app, HOUT.out, HK.out, tailB_lenB] at hsl2
            have hz2 : Z = zc bs.length := by rw [HL.out]; exact HZ.out
            unfold padL
            rw [← hz2, HL.out]; exact hsl2
end Go.Proofs.YtihkfomldbjpoaaDoor.ShaW

namespace Go.Proofs.YtihkfomldbjpoaaDoor.ShaW
open Go.RowKit
open Sha
theorem sha_blocks (bs : List UInt8) : textB (blocksN (padL bs) ((padL bs).length / 64)).toL = sha bs := by
  rw [blocks_all _ (padL_mod bs), absorb_pad]; rfl
theorem mul64_succ (k : Nat) : 64 * (k : Int) + 64 = 64 * ((k + 1 : Nat) : Int) := by omega
theorem meas64 (L k : Nat) (h : 64 * k + 64 ≤ L) : L - (intOf (.int .i64 (64 * (k : Int) + 64))).toNat < L - (intOf (.int .i64 (64 * (k : Int)))).toNat := by simp only [intOf]; omega
set_option maxRecDepth 100000 in
set_option maxHeartbeats 4000000 in
theorem refSum_any (B : Option Addr) (l d : Nat) (bs : List UInt8) (w : World) (hl : bs.length = l) (hb : Sl w B (bcells bs)) (hl40 : l ≤ 1099511627776) :
    Calls Tryd.prog 60 #[.slice B l d] w fun e w' => e = .returned (.string ⟨(sha bs).toArray⟩) ∧ Below w.heap.size w w' := by
  have HL : Hid (bs.length = l) := hl
  have HP : Hid ((padL bs).length = l + 9 + zc l) := by show _ = _; rw [padL_len, hl]
  have HM : Hid ((l + 9 + zc l) % 64 = 0) := by show _ = _; rw [← HP.out]; exact padL_mod bs
  have hz : zc l < 64 := by unfold zc; omega
  clear hl
  have h0 : Below w.heap.size w (w.alloc (.cells (wcells iv.toL).toArray 100)) := (Below.refl _ _).alloc (Nat.le_refl _) _
  have a0 : At (w.alloc (.cells (wcells iv.toL).toArray 100)) w.heap.size 100 (wcells iv.toL) := At.new_ _ _ _ _ rfl
  go_enter Tryd.func60, Tryd.ntmps60
  go_wp2_with fail
  refine (padded_any B l d bs _ HL.out (hb.below h0) hl40).mono ?_
  rintro e wp ⟨A, c, rfl, hsl, hLc, hb1⟩
  have a1 := a0.below hb1 a0.lt
  have h1 := h0.trans (hb1.mono h0.size)
  have hP : (padL bs).length = l + 9 + zc l := HP.out
  have hLb : l + 9 + zc l ≤ 1099511627900 := by omega
  generalize l + 9 + zc l = L at *
  have HP : Hid ((padL bs).length = L) := hP
  clear hP a0 h0 hb1
  go_wp2_with fail
  go_loopw [3, 5] (fun v i wr => ∃ (k g : Nat), 64 * k ≤ L ∧ i = .int .i64 (64 * (k : Int)) ∧ v = .slice (some ⟨g, 0, none⟩) 8 8 ∧ At wr g 100 (wcells (blocksN (padL bs) k).toL) ∧ Below w.heap.size w wr ∧ Below wp.heap.size wp wr)
    (fun _ i _ => L - (intOf i).toNat)
  case atStart => exact ⟨0, w.heap.size, by omega, rfl, rfl, a1, h1, Below.refl _ _⟩
  case round =>
    clear a1 h1
    obtain ⟨k, g, hk, rfl, rfl, hat, hbel, hbp⟩ := hrel
    by_cases hlt : 64 * k < L
    · have h64 : 64 * k + 64 ≤ L := by have := HM.out; omega
      have hs2 : Sl wr (A.map (·.add (64 * k))) (bcells (((padL bs).drop (64 * k)).take 64)) := by
        have := (hsl.below hbp).cut (64 * k) c (by rw [bcells_len, HP.out]; omega)
        rw [if_neg (by omega), bcells_drop] at this
        have := this.take 64
        rw [bcells_take] at this
        exact this
      have hw : wrap64 (64 * (k : Int) + 64) = 64 * (k : Int) + 64 := IntWalk.wrap64_in _ (by omega)
      have HQ : Hid (64 * (k : Int) + 64 = 64 * ((k + 1 : Nat) : Int)) := mul64_succ k
      clear hLb
      have hk1 : 64 * (k + 1) ≤ L := h64
      have ht : (64 * (k : Int) + 64).toNat - 64 * k = 64 := by omega
      have hl64 : (((padL bs).drop (64 * k)).take 64).length = 64 := by
        rw [List.length_take, List.length_drop, HP.out]; omega
      go_wp2_with fail
      simp only [hw]
      refine (block_any (blocksN (padL bs) k) (some ⟨g, 0, none⟩) (A.map (·.add (64 * k))) 8 (c - 64 * k) _ wr hl64 (Sl.of_at_all hat) hs2).mono ?_
      rintro e w2 ⟨g2, rfl, hat2, hb2⟩
      have hbel2 := hbel.trans (hb2.mono hbel.size)
      have hbp2 := hbp.trans (hb2.mono hbp.size)
      have hat3 : At w2 g2 100 (wcells (blocksN (padL bs) (k + 1)).toL) := hat2
      clear hs2 hat2 hl64
      go_wp2_with fail
      go_roundw
      case rel => exact ⟨k + 1, g2, hk1, congrArg (Value.int .i64) (by first | exact HQ.out | (rw [hw]; exact HQ.out)), rfl, hat3, hbel2, hbp2⟩
      case measure => first | exact meas64 L k h64 | (simp only [hw]; exact meas64 L k h64)
    · have hk64 : L ≤ 64 * k := by omega
      have HS : Hid (blocksN (padL bs) k = blocksN (padL bs) ((padL bs).length / 64)) := by
        show _ = _; rw [HP.out, show L / 64 = k by omega]
      obtain ⟨ws, hws⟩ : ∃ ws, ws = (blocksN (padL bs) k).toL := ⟨_, rfl⟩
      have hwl : ws.length = 8 := by rw [hws]; rfl
      rw [← hws] at hat
      have HF : Hid (textB ws = sha bs) := by show _ = _; rw [hws, HS.out, sha_blocks]
      have HWL : Hid (ws.length = 8) := hwl
      clear hws hwl HS hsl hbp
      have hgl := hat.lt
      have hws := hbel.size
      have HC : Hid (∀ wx, Below wr.heap.size wr wx → ∀ j, j < 8 → wx.cell? ⟨g, j, none⟩ = some (.int .u32 (un (ws.getD j 0)))) := fun wx hx j hj => ((hat.below hx hgl).cell j).trans (wcells_get _ _ (by rw [HWL.out]; exact hj))
      clear hat
      go_wp2_with fail
      obtain ⟨wo, hwo⟩ : ∃ wo : World, wo = wr := ⟨_, rfl⟩
      subst hwo
      go_loopw [6, 7] (fun v i wr => ∃ k : Nat, k ≤ 8 ∧ i = .int .i64 k ∧ wr.ownsRow wo.heap.size 5 1 v (4 * k) (bcells (textB (ws.take k))) ∧ Below wo.heap.size wo wr)
        (fun _ i _ => 8 - (intOf i).toNat)
      case atStart => exact ⟨0, by omega, rfl, World.ownsRow_nil _ _ _ _, Below.refl _ _⟩
      case round =>
        obtain ⟨k, hk8, rfl, hown, hb3⟩ := hrel
        by_cases hlt : k < 8
        · have cx := HC.out wr hb3 k hlt
          have HX : Hid (textB (ws.take (k + 1)) = textB (ws.take k) ++ be (ws.getD k 0)) := textB_snoc ws k (by rw [HWL.out]; exact hlt)
          have HCX : Hid (∀ wx, Below wo.heap.size wo wx → wx.cell? ⟨g, k, none⟩ = some (.int .u32 (un (ws.getD k 0)))) := fun wx h => HC.out wx h k hlt
          generalize ws.getD k 0 = x at *
          have hsz3 := hb3.size
          have b1 := un_lt x
          have b0 := un_nn x
          have q1 : IntKind.u32.wrap ((un x).tdiv 16777216) = un x / 16777216 := IntWalk.u32_quo _ _ (by omega)
          have q2 : IntKind.u32.wrap ((un x).tdiv 65536) = un x / 65536 := IntWalk.u32_quo _ _ (by omega)
          have q3 : IntKind.u32.wrap ((un x).tdiv 256) = un x / 256 := IntWalk.u32_quo _ _ (by omega)
          have r2 : (un x / 65536).tmod 256 = un x / 65536 % 256 := Int.tmod_eq_emod_of_nonneg (by omega)
          have r3 : (un x / 256).tmod 256 = un x / 256 % 256 := Int.tmod_eq_emod_of_nonneg (by omega)
          have r4 : (un x).tmod 256 = un x % 256 := Int.tmod_eq_emod_of_nonneg (by omega)
          have s1 : IntKind.u8.wrap (un x / 16777216) = un x / 16777216 % 256 := by rw [IntWalk.u8_in _ (by omega)]; omega
          have s2 : IntKind.u8.wrap (un x / 65536 % 256) = un x / 65536 % 256 := IntWalk.u8_in _ (by omega)
          have s3 : IntKind.u8.wrap (un x / 256 % 256) = un x / 256 % 256 := IntWalk.u8_in _ (by omega)
          have s4 : IntKind.u8.wrap (un x % 256) = un x % 256 := IntWalk.u8_in _ (by omega)
          have g0 : (0 : Int) ≤ (k : Int) := by omega
          have l0 : (k : Int) < 8 := by omega
          clear b0 b1
          have hsl : Sl (wr.alloc (.cells #[.int .u8 (un x / 16777216 % 256), .int .u8 (un x / 65536 % 256), .int .u8 (un x / 256 % 256), .int .u8 (un x % 256)] 5)) (some ⟨wr.heap.size, 0, none⟩) (bcells (be x)) := by
            rw [be_cells]; exact Sl.of_at_all (At.new_ wr _ 5 _ rfl)
          go_wp2_with fail
          go_region_held3 (fun wx => wx.cell? ⟨g, k, none⟩ = some (.int .u32 (un x)))
            (first
              | go_keep
              | exact HCX.out _ hb4)
            ((refine step_app rfl (.tmp 28) (.tmp 55) 23 rfl bytesTy wo.heap.size u6 (4 * k) _ (by rfl) (hown.alloc _).drew _ 4 4 (bcells (be x)) (by rfl) (by rfl) hsl (bcells_one _) (by omega) (by simp; omega) ?_; intro v2 w2 hown2 hgr2 hbl2; have hb4 := below_app ((hb3.alloc hsz3 (.cells #[.int .u8 (un x / 16777216 % 256), .int .u8 (un x / 65536 % 256), .int .u8 (un x / 256 % 256), .int .u8 (un x % 256)] 5)).drew) hgr2 (hown.alloc _).drew (Nat.le_refl _) (by simp; omega)))
          go_simp
          go_wp2_with fail
          go_roundw
          case rel =>
            refine ⟨k + 1, by omega, by go_num, ?_, hb4⟩
            rw [HX.out, ← bcells_app, show 4 * (k + 1) = 4 * k + 4 by omega]; exact hown2
          case measure => simp [intOf]; omega
        · have hk8' : 8 ≤ k := by omega
          have hown' : wr.ownsRow wo.heap.size 5 1 u6 32 (bcells (textB ws)) := by
            have e : k = 8 := by omega
            rw [e, List.take_of_length_le (by rw [HWL.out]; omega)] at hown; exact hown
          obtain ⟨A', c', rfl, hsl, _, _⟩ := own_slice hown'
          have hstr := run_str (P := Tryd.prog) wr 23 9 5 under22 under5 under9 A' (textB ws) 32 c' (by rw [textB_len]; have := HWL.out; omega) hsl
          rw [HF.out] at hstr
          clear hown hown' hsl
          go_wp2_with fail
          go_ret
          exact ⟨rfl, hbel.trans (hb3.mono hbel.size)⟩
end Go.Proofs.YtihkfomldbjpoaaDoor.ShaW

/- rubrickref03: Of. -/
namespace Go.Proofs.YtihkfomldbjpoaaDoor.SealW
open Go.RowKit
open ShaW Sha
set_option maxHeartbeats 1000000 in
theorem refOf_any (k : UInt8) (B : Option Addr) (l d : Nat) (bs : List UInt8) (w : World) (hl : bs.length = l) (hb : Sl w B (bcells bs)) (h40 : l ≤ 1000000000000) :
    Calls Tryd.prog 59 #[.int .i64 (ub k), .slice B l d] w fun e w' => e = .returned (.string ⟨(sha (k :: bs)).toArray⟩) ∧ Below w.heap.size w w' := by
  have HL : Hid (bs.length = l) := hl
  have HF : Hid ((k :: bs : List UInt8).length = l + 1) := by show _ = _; simp [hl]
  clear hl
  go_enter Tryd.func59, Tryd.ntmps59
  go_wp2_with fail
  refine (refBytes_any k B l d bs _ HL.out hb (by omega)).mono ?_
  rintro e w1 ⟨A', c', rfl, hs1, hc1, hm1, hb1⟩
  go_wp2_with fail
  refine (refSum_any A' (l + 1) c' (k :: bs) _ HF.out hs1 (by omega)).mono ?_
  rintro e w2 ⟨rfl, hb2⟩
  have hbel := hb1.trans (hb2.mono hb1.size)
  go_wp2_with fail
  go_ret
  exact ⟨rfl, hbel⟩
end Go.Proofs.YtihkfomldbjpoaaDoor.SealW

/- rubrickref03: Node. -/
namespace Go.Proofs.YtihkfomldbjpoaaDoor.SealW
open Go.RowKit
open ShaW Sha
set_option maxHeartbeats 1000000 in
theorem refNode_any (l r : ByteArray) (w : World) (hs : l.size + r.size ≤ 1000000000000) :
    Calls Tryd.prog 61 #[.string l, .string r] w fun e w' => e = .returned (.string ⟨(sha (1 :: (l.data.toList ++ r.data.toList))).toArray⟩) ∧ Below w.heap.size w w' := by
  have hsum : ¬ 9223372036854775807 < l.size + r.size := by omega
  obtain ⟨t, ht⟩ : ∃ t, l ++ r = t := ⟨_, rfl⟩
  have HT : Hid (t.data.toList = l.data.toList ++ r.data.toList) := by show _ = _; rw [← ht]; simp
  have HZ : Hid (t.size = l.size + r.size) := by show _ = _; rw [← ht]; simp
  have HZ2 : Hid (t.data.toList.length = t.size) := bsize t
  go_enter Tryd.func61, Tryd.ntmps61
  go_wp2_with (refine wpList_toBytes rfl 9 23 5 (.tmp 7) rfl underStr underBytes underU8 t rfl (by unfold maxLen; rw [HZ.out]; omega) ?_; intro A1 c1 w1 b1 s1 k1 m1 a1)
  refine (refOf_any 1 A1 t.size c1 t.data.toList _ HZ2.out s1 (by rw [HZ.out]; omega)).mono ?_
  rintro e w2 ⟨rfl, hb2⟩
  have hbel := b1.trans (hb2.mono b1.size)
  rw [HT.out]
  go_wp2_with fail
  go_ret
  exact ⟨rfl, hbel⟩
end Go.Proofs.YtihkfomldbjpoaaDoor.SealW

/- rubrickref06: Right, Root. -/
namespace Go.Proofs.YtihkfomldbjpoaaDoor.TrW
open Go.RowKit TreeW
open ShaW Sha
set_option maxHeartbeats 1000000 in
theorem right_any (A : Option Addr) (l c : Nat) (ss : List ByteArray) (w : World) (hl : ss.length = l) (hs : Sl w A (scells ss)) (hl63 : l ≤ 9223372036854775807) :
    Calls Tryd.prog 38 #[.slice A l c] w fun e w' => e = .returned (.bool (decide (Digs ss))) ∧ w = w' := by
  have HL := Lib.hid hl
  clear hl
  go_enter Tryd.func38, Tryd.ntmps38
  go_wp2_with fail
  go_loop [3] (fun i => ∃ j : Nat, j ≤ l ∧ i = .int .i64 (j : Int) ∧ Hid (Digs (ss.take j))) (fun i => l - (intOf i).toNat)
  case atStart => exact ⟨0, by omega, rfl, fun x hx => by simp at hx⟩
  case round =>
    obtain ⟨j, hj, rfl, HK⟩ := hrel
    by_cases hlt : j < l
    · obtain ⟨b, o, rfl, hblt, hcell⟩ := hs.get (j := j) (by rw [scells_len, HL.out]; exact hlt)
      have hc0 := hcell j _ (scells_get ss j (by rw [HL.out]; exact hlt))
      have hget := get_of (ss := ss) (j := j) (by rw [HL.out]; exact hlt)
      obtain ⟨s, hsj⟩ : ∃ s, ss.getD j ⟨#[]⟩ = s := ⟨_, rfl⟩
      rw [hsj] at hc0 hget
      have HG := Lib.hid hget
      clear hcell hget hsj
      by_cases h32 : s.size = 32
      · have h1 : (s.size : Int) = 32 := by omega
        have HN := Lib.hid (digs_take_succ HG.out HK.out h32)
        clear h32
        go_wp2_with fail
        go_round
        case rel => exact ⟨j + 1, by omega, by go_num, HN⟩
        case measure => simp [intOf]; omega
      · have h1 : ¬ (s.size : Int) = 32 := by omega
        have HF : Hid (decide (Digs ss) = false) := decide_eq_false (fun h => h32 (h s (List.mem_of_getElem? HG.out)))
        clear h32
        go_wp2_with fail
        go_ret
        exact ⟨by rw [HF.out]; rfl, rfl⟩
    · have HF : Hid (decide (Digs ss) = true) := decide_eq_true (by
        have := HK.out
        rwa [List.take_of_length_le (by rw [HL.out]; omega)] at this)
      go_wp2_with fail
      go_ret
      exact ⟨by rw [HF.out]; rfl, rfl⟩
theorem right_yes (A : Option Addr) (l c : Nat) (ss : List ByteArray) (w : World) (hl : ss.length = l) (hs : Sl w A (scells ss)) (hl63 : l ≤ 9223372036854775807) (hd : Digs ss) :
    Calls Tryd.prog 38 #[.slice A l c] w fun e w' => e = .returned (.bool true) ∧ w = w' := by
  have := right_any A l c ss w hl hs hl63; rwa [decide_eq_true hd] at this
theorem right_no (A : Option Addr) (l c : Nat) (ss : List ByteArray) (w : World) (hl : ss.length = l) (hs : Sl w A (scells ss)) (hl63 : l ≤ 9223372036854775807) (hd : ¬ Digs ss) :
    Calls Tryd.prog 38 #[.slice A l c] w fun e w' => e = .returned (.bool false) ∧ w = w' := by
  have := right_any A l c ss w hl hs hl63; rwa [decide_eq_false hd] at this
theorem refNode_nd (l r : ByteArray) (w : World) (hs : l.size + r.size ≤ 1000000000000) :
    Calls Tryd.prog 61 #[.string l, .string r] w fun e w' => e = .returned (.string (nd l r)) ∧ Below w.heap.size w w' := SealW.refNode_any l r w hs
set_option maxRecDepth 1000000 in
set_option maxHeartbeats 2000000 in
theorem refRoot_any : ∀ (m : Nat) (A : Option Addr) (l c : Nat) (ss : List ByteArray) (_hm : l ≤ m) (w : World) (_hl : ss.length = l) (_hs : Sl w A (scells ss)) (_hd : Digs ss) (_hlc : l ≤ c) (_hl40 : l ≤ 1099511627776),
    Calls Tryd.prog 27 #[.slice A l c] w fun e w' => e = .returned (.string (rt ss)) ∧ Below w.heap.size w w' := by
  intro m
  induction m with
  | zero =>
    intro A l c ss hm w hl hs hd hlc hl40
    obtain rfl : l = 0 := by omega
    have HZ : Hid (rt ss = ed) := by show _ = _; rw [List.eq_nil_of_length_eq_zero hl]; rfl
    clear hl hs hd
    go_enter Tryd.func27, Tryd.ntmps27
    go_wp2_with fail
    refine (refSum_any none 0 0 [] _ rfl Sl.nil (by omega)).mono ?_
    rintro e w1 ⟨rfl, hb1⟩
    go_wp2_with fail
    go_ret
    exact ⟨by rw [HZ.out]; rfl, hb1⟩
  | succ m ih =>
    intro A l c ss hm w hl hs hd hlc hl40
    by_cases hz : l = 0
    · subst hz
      have HZ : Hid (rt ss = ed) := by show _ = _; rw [List.eq_nil_of_length_eq_zero hl]; rfl
      clear hl hs hd ih
      go_enter Tryd.func27, Tryd.ntmps27
      go_wp2_with fail
      refine (refSum_any none 0 0 [] _ rfl Sl.nil (by omega)).mono ?_
      rintro e w1 ⟨rfl, hb1⟩
      go_wp2_with fail
      go_ret
      exact ⟨by rw [HZ.out]; rfl, hb1⟩
    by_cases h1 : l = 1
    · subst h1
      obtain ⟨x, rfl⟩ : ∃ x, ss = [x] := by
        match ss, hl with
        | [x], _ => exact ⟨x, rfl⟩
      obtain ⟨b, o, rfl, hblt, hcell⟩ := hs.get (j := 0) (by simp [scells])
      have hc0 : w.cell? ⟨b, o, none⟩ = some (.string x) := hcell 0 _ rfl
      clear hcell hl hs hd ih
      go_enter Tryd.func27, Tryd.ntmps27
      go_wp2_with fail
      go_ret
      exact ⟨rfl, Below.refl _ _⟩
    obtain ⟨k, q, c2, A2, hk, k1, kl, kq, q1, qc, cc, tk, dq, sP, sQ, hto, hfr⟩ := halves (c := c) hl hs (by omega) hlc
    have HK := Lib.hid hk
    have HP := Lib.hid tk
    have HQ := Lib.hid dq
    have HTO := Lib.hid hto
    have HFR := Lib.hid hfr
    have HD := Lib.hid hd
    have b0 : Below w.heap.size w w.drew := (Below.refl _ _).drew
    have hne0 : ((l : Int) == 0) = false := by simpa using hz
    have hne1 : ((l : Int) == 1) = false := by have : ¬ (l : Int) = 1 := by omega
                                               simpa using this
    have HR : Hid (rt ss = nd (rt (ss.take k)) (rt (ss.drop k))) := by
      have := root_two nd ed ss (by omega)
      rw [hl, ← hk] at this
      exact this
    have ZP := Lib.hid (rt_size _ _ (Nat.le_refl _) (hd.take k))
    have ZQ := Lib.hid (rt_size _ _ (Nat.le_refl _) (hd.drop k))
    clear hl hs hd hk tk dq hto hfr hz h1
    go_enter Tryd.func27, Tryd.ntmps27
    go_wp2_with fail
    refine (refSplit_in l _ (by omega) hl40).mono ?_
    rintro e w1 ⟨rfl, rfl⟩
    rw [← HK.out]
    go_wp2_with fail
    refine regB_begin (w.heap.size) (by kernel_rfl) ?_
    change wpAnyH _ _ _ _ _ 10 #[false, false, false, false, false, false, false, false, false, false] _ _
    refine regB_take (i := 0) (d := some 17) (v := (.slice A l c)) rfl rfl (by kernel_rfl) (by kernel_rfl) (by kernel_rfl) (fun _ _ _ h => h) (by rfl) (by intro w' hSw; go_simp) ?_
    try simp only [Act.put, List.setIfInBounds_toArray, List.set_cons_zero, List.set_cons_succ]
    refine regB_take (i := 1) (d := some 18) (v := (.int .i64 (k : Int))) rfl rfl (by kernel_rfl) (by kernel_rfl) (by kernel_rfl) (fun _ _ _ h => h) (by rfl) (by intro w' hSw; go_simp) ?_
    try simp only [Act.put, List.setIfInBounds_toArray, List.set_cons_zero, List.set_cons_succ]
    refine regB_take (i := 2) (d := some 19) (v := (.slice A k c)) rfl rfl (by kernel_rfl) (by kernel_rfl) (by kernel_rfl) (fun _ _ _ h => h) (by rfl) (by intro w' hSw; have h9 := HTO.out w'; go_simp) ?_
    try simp only [Act.put, List.setIfInBounds_toArray, List.set_cons_zero, List.set_cons_succ]
    refine regB_take (i := 4) (d := some 21) (v := (.slice A l c)) rfl rfl (by kernel_rfl) (by kernel_rfl) (by kernel_rfl) (fun _ _ _ h => h) (by rfl) (by intro w' hSw; go_simp) ?_
    try simp only [Act.put, List.setIfInBounds_toArray, List.set_cons_zero, List.set_cons_succ]
    refine regB_take (i := 5) (d := some 22) (v := (.int .i64 (k : Int))) rfl rfl (by kernel_rfl) (by kernel_rfl) (by kernel_rfl) (fun _ _ _ h => h) (by rfl) (by intro w' hSw; go_simp) ?_
    try simp only [Act.put, List.setIfInBounds_toArray, List.set_cons_zero, List.set_cons_succ]
    refine regB_take (i := 6) (d := some 23) (v := (.slice A2 q c2)) rfl rfl (by kernel_rfl) (by kernel_rfl) (by kernel_rfl) (fun _ _ _ h => h) (by rfl) (by intro w' hSw; have h9 := HFR.out w'; go_simp) ?_
    try simp only [Act.put, List.setIfInBounds_toArray, List.set_cons_zero, List.set_cons_succ]
    refine regB_call (i := 3) rfl (by kernel_rfl) (by rfl) fun K hK => ?_
    go_simp
    refine (ih A k c (ss.take k) (by omega) _ HP.out (sP.below b0) (HD.out.take k) (by omega) (by omega)).mono ?_
    rintro e w2 ⟨rfl, hb2⟩
    have b2 := b0.trans (hb2.mono b0.size)
    refine hK.out _ _ (hb2.mono b0.size) ?_
    clear hK K
    try simp only [List.setIfInBounds_toArray, List.set_cons_zero, List.set_cons_succ]
    refine regB_call (i := 7) rfl (by kernel_rfl) (by rfl) fun K hK => ?_
    go_simp
    refine (ih A2 q c2 (ss.drop k) (by omega) _ HQ.out (sQ.below b2) (HD.out.drop k) (by omega) (by omega)).mono ?_
    rintro e w3 ⟨rfl, hb3⟩
    have b3 := b2.trans (hb3.mono b2.size)
    refine hK.out _ _ (hb3.mono b2.size) ?_
    clear hK K
    try simp only [List.setIfInBounds_toArray, List.set_cons_zero, List.set_cons_succ]
    refine regB_call (i := 8) rfl (by kernel_rfl) (by rfl) fun K hK => ?_
    go_simp
    refine (refNode_nd (rt (ss.take k)) (rt (ss.drop k)) _ (by rw [ZP.out, ZQ.out]; omega)).mono ?_
    rintro e w4 ⟨rfl, hb4⟩
    have b4 := b3.trans (hb4.mono b3.size)
    refine hK.out _ _ (hb4.mono b3.size) ?_
    clear hK K
    try simp only [List.setIfInBounds_toArray, List.set_cons_zero, List.set_cons_succ]
    refine regB_take (i := 9) (d := some 2) (v := (.string (nd (rt (ss.take k)) (rt (ss.drop k))))) rfl rfl (by kernel_rfl) (by kernel_rfl) (by kernel_rfl) (fun _ _ _ h => h) (by rfl) (by intro w' hSw; go_simp) ?_
    try simp only [Act.put, List.setIfInBounds_toArray, List.set_cons_zero, List.set_cons_succ]
    refine wpAnyH_done (by kernel_rfl) ?_ _
    go_wp2_with fail
    go_ret
    exact ⟨by rw [HR.out]; rfl, b4⟩

end Go.Proofs.YtihkfomldbjpoaaDoor.TrW

/- bytes: Equal. -/
namespace Go.Proofs.YtihkfomldbjpoaaDoor.SealW
open Go.RowKit
theorem equal_any (A : Option Addr) (n c : Nat) (xs : List UInt8) (B : Option Addr) (l d : Nat) (ys : List UInt8) (w : World) (hn : xs.length = n) (hA : Sl w A (bcells xs)) (hl : ys.length = l) (hB : Sl w B (bcells ys)) :
    Calls Tryd.prog 62 #[.slice A n c, .slice B l d] w fun e w' => e = .returned (.bool (decide (xs = ys))) ∧ w = w' := by
  have e1 := run_str (P := Tryd.prog) w 23 9 5 underBytes underU8 underStr A xs n c hn hA
  have e2 := run_str (P := Tryd.prog) w 23 9 5 underBytes underU8 underStr B ys l d hl hB
  have HD : Hid (decide ((⟨xs.toArray⟩ : ByteArray) = ⟨ys.toArray⟩) = decide (xs = ys)) := decide_eq_decide.2 mk_inj
  obtain ⟨X, hX⟩ : ∃ X : ByteArray, X = ⟨xs.toArray⟩ := ⟨_, rfl⟩
  obtain ⟨Y, hY⟩ : ∃ Y : ByteArray, Y = ⟨ys.toArray⟩ := ⟨_, rfl⟩
  rw [← hX] at e1
  rw [← hY] at e2
  rw [← hX, ← hY] at HD
  clear hX hY hn hl hA hB
  go_enter Tryd.func62, Tryd.ntmps62
  go_wp2_with fail
  go_ret
  exact ⟨by rw [← HD.out, ← beq_str]; rfl, rfl⟩
end Go.Proofs.YtihkfomldbjpoaaDoor.SealW

/- rubrickref03: Clash. -/
namespace Go.Proofs.YtihkfomldbjpoaaDoor.SealW
open Go.RowKit
open ShaW Sha
set_option maxHeartbeats 1000000 in
theorem refClash_any (A : Option Addr) (n c : Nat) (xs : List UInt8) (B : Option Addr) (l d : Nat) (ys : List UInt8) (w : World) (hn : xs.length = n) (hA : Sl w A (bcells xs)) (hl : ys.length = l) (hB : Sl w B (bcells ys)) (hn40 : n ≤ 1000000000000) (hl40 : l ≤ 1000000000000) :
    Calls Tryd.prog 46 #[.slice A n c, .slice B l d] w fun e w' => e = .returned (.bool (decide (xs ≠ ys ∧ sha xs = sha ys))) ∧ Below w.heap.size w w' := by
  have HN : Hid (xs.length = n) := hn
  have HL : Hid (ys.length = l) := hl
  clear hn hl
  go_enter Tryd.func46, Tryd.ntmps46
  go_wp2_with fail
  refine (refSum_any A n c xs _ HN.out hA (by omega)).mono ?_
  rintro e w1 ⟨rfl, hb1⟩
  have hA1 := hA.below hb1
  have hB1 := hB.below hb1
  clear hA hB
  go_wp2_with fail
  refine (refSum_any B l d ys _ HL.out hB1 (by omega)).mono ?_
  rintro e w2 ⟨rfl, hb2⟩
  have hbel := hb1.trans (hb2.mono hb1.size)
  have e1 := run_str (P := Tryd.prog) w2 23 9 5 underBytes underU8 underStr A xs n c HN.out (hA1.below hb2)
  have e2 := run_str (P := Tryd.prog) w2 23 9 5 underBytes underU8 underStr B ys l d HL.out (hB1.below hb2)
  have HD : Hid (((⟨(sha xs).toArray⟩ : ByteArray) = ⟨(sha ys).toArray⟩) ↔ sha xs = sha ys) := mk_inj
  have HE : Hid (((⟨xs.toArray⟩ : ByteArray) = ⟨ys.toArray⟩) ↔ xs = ys) := mk_inj
  generalize (⟨(sha xs).toArray⟩ : ByteArray) = S at *
  generalize (⟨(sha ys).toArray⟩ : ByteArray) = T at *
  generalize (⟨xs.toArray⟩ : ByteArray) = X at *
  generalize (⟨ys.toArray⟩ : ByteArray) = Y at *
  clear hb1 hb2 hA1 hB1
  by_cases hS : S = T
  · have HS : Hid (sha xs = sha ys) := HD.out.1 hS
    have q1 := beq_yes hS
    clear hS
    by_cases hX : X = Y
    · have HX : Hid (xs = ys) := HE.out.1 hX
      have q2 := beq_yes hX
      clear hX
      go_wp2_with fail
      go_ret
      refine ⟨?_, hbel⟩
      simp [HX.out]
    · have HX : Hid (xs ≠ ys) := fun h => hX (HE.out.2 h)
      have q2 := beq_no hX
      have q3 : ¬ X.toList = Y.toList := by simpa using q2
      clear hX
      go_wp2_with fail
      go_ret
      refine ⟨?_, hbel⟩
      simp [HX.out, HS.out]
  · have HS : Hid (sha xs ≠ sha ys) := fun h => hS (HD.out.2 h)
    have q1 := beq_no hS
    have q3 : ¬ S.toList = T.toList := by simpa using q1
    clear hS
    go_wp2_with fail
    go_ret
    refine ⟨?_, hbel⟩
    simp [HS.out]
end Go.Proofs.YtihkfomldbjpoaaDoor.SealW

/- Stores whose world is left open. Nothing of the dump. -/
namespace Go.Proofs.YtihkfomldbjpoaaDoor
open Go.RowKit
/-- What a change of one block alone leaves. -/
structure Only (g : Nat) (w w' : World) : Prop where
  heap : ∀ b, b ≠ g → w'.heap[b]? = w.heap[b]?
  size : w'.heap.size = w.heap.size
  below : ∀ B w0, Below B w0 w → B ≤ g → Below B w0 w'
theorem Only.cell {g : Nat} {w w' : World} (h : Only g w w') (b o : Nat) (hb : b ≠ g) : w'.cell? ⟨b, o, none⟩ = w.cell? ⟨b, o, none⟩ := World.cell?_of_block (w := w) (a := ⟨b, o, none⟩) (h.heap b hb)
theorem Only.at_ {g b : Nat} {w w' : World} (h : Only g w w') {t : TypeId} {cs : List Value} (ha : At w b t cs) (hb : b ≠ g) : At w' b t cs := (h.heap b hb).trans ha
theorem Only.sl {g base : Nat} {w w' : World} (h : Only g w w') {A : Option Addr} {cs : List Value} (hs : Sl w A cs) (hA : ∀ b o s, A = some ⟨b, o, s⟩ → base ≤ b) (hg : g < base) : Sl w' A cs :=
  hs.from_ hA (fun b o hb => h.cell b o (by omega))
/-- A slice of blocks that were there. -/
theorem Only.slo {g base : Nat} {w0 w w' : World} (h : Only g w w') {A : Option Addr} {cs : List Value} (hs : Sl w0 A cs) (hb : Below base w0 w) (h0 : base = w0.heap.size) (hg : base ≤ g) : Sl w' A cs :=
  hs.below (h0 ▸ h.below _ _ hb hg)
theorem Only.setRow {w : World} (g : Nat) (cs : Array Value) : Only g w (w.setRow g cs) :=
  ⟨fun b hb => setRow_other w g b cs hb, by simp, fun _ _ h hg => below_setRow h hg cs⟩
theorem Only.trans {g : Nat} {w w' w'' : World} (h : Only g w w') (h' : Only g w' w'') : Only g w w'' :=
  ⟨fun b hb => (h'.heap b hb).trans (h.heap b hb), h'.size.trans h.size, fun B w0 hb hg => h'.below B w0 (h.below B w0 hb hg) hg⟩
theorem wpList_storeB {P : Program} {ops : Array Oper} {rest : List Oper} {op : Oper} {a : Act} {w : World} {Q : Exit → Act → World → Prop} (hgd : op.guard = none) (hdst : op.dst = none) (ty : TypeId) (x y : Operand) (ho : op.op = .store ty x y)
    {n : Nat} (T : AggTy P ty n) (g : Nat) (hx : a.eval x = .pointer (some ⟨g, 0, none⟩)) (vs : List Value) (hy : a.eval y = .agg vs.toArray) (t : TypeId) (cur : List Value) (hg : At w g t cur)
    (hl : vs.length = n) (hc : cur.length = n) (h1 : ∀ v ∈ vs, v.oneCell' = true)
    (h : ∀ w', At w' g t vs → Only g w w' → wpList P ops Q rest a w') : wpList P ops Q (op :: rest) a w :=
  wpList_storeA hgd hdst ty x y ho T g 0 hx vs hy t cur hg hl (by omega) h1 (by
    have e : spl cur 0 vs = vs := by simp [spl, hl, ← hc]
    rw [e]
    exact h _ hg.setRow (Only.setRow g _))
theorem oper_storeB {P : Program} {op : Oper} {a : Act} {w : World} {K : Act → World → Prop} {Q : Exit → Act → World → Prop} (hdst : op.dst = none) (ty : TypeId) (x y : Operand) (ho : op.op = .store ty x y)
    {n : Nat} (T : AggTy P ty n) (g : Nat) (hx : a.eval x = .pointer (some ⟨g, 0, none⟩)) (vs : List Value) (hy : a.eval y = .agg vs.toArray) (t : TypeId) (cur : List Value) (hg : At w g t cur)
    (hl : vs.length = n) (hc : cur.length = n) (h1 : ∀ v ∈ vs, v.oneCell' = true)
    (h : ∀ w', At w' g t vs → Only g w w' → K a w') : Oper.wp P op a w K Q :=
  wp_store_row ty x y ho g 0 hx vs hy t cur hg (by rw [hl]; exact T.2) (by omega) h1 (by
    have e : cur.take 0 ++ vs ++ cur.drop (0 + vs.length) = vs := by simp [hl, ← hc]
    rw [e, hdst]
    exact h _ hg.setRow (Only.setRow g _))
end Go.Proofs.YtihkfomldbjpoaaDoor
