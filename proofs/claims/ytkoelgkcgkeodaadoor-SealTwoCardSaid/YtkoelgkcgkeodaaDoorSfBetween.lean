/- seal: Between. -/
import Derived.Test.YtkoelgkcgkeodaaDoorSeIs
import Derived.Laws.ResultCell
namespace Go.Proofs.YtkoelgkcgkeodaaDoor.SealW
open Go.RowKit
open ShaW Sha
theorem results_cellA2 {P : Program} {fn : Func} {p u : Tmp} {ty : TypeId} (h : fn.results = #[.cell p ty, .tmp u]) {n : Nat} (T : AggTy P ty n) (tmps : Array Value) (w : World) (g : Nat) (t : TypeId) (cs : List Value)
    (hp : tmps.getD p undef = .pointer (some ⟨g, 0, none⟩)) (hg : At w g t cs) (hl : cs.length = n) (v : Value) (hv : tmps.getD u undef = v) : (results fn tmps).run P w = .ok (.tuple #[.agg cs.toArray, v]) w := by
  rw [results_cell_tmp h, hp, hv]
  simp [asAddr, run_loadA T w g 0 t cs hg cs hl (all_at cs)]
theorem clashTy : AggTy Tryd.prog 36 2 := ⟨by kernel_rfl, by kernel_rfl⟩
theorem slices_one {A B : Option Addr} {n c l d : Nat} : ∀ v ∈ ([.slice A n c, .slice B l d] : List Value), v.oneCell' = true := by
  intro v hv
  simp at hv
  rcases hv with rfl | rfl <;> rfl
set_option maxRecDepth 100000 in
set_option maxHeartbeats 2000000 in
theorem between_no (A : Option Addr) (n c : Nat) (xs : List UInt8) (B : Option Addr) (l d : Nat) (ys : List UInt8) (w : World) (hT : Tab w) (hn : xs.length = n) (hA : Sl w A (bcells xs)) (hl : ys.length = l) (hB : Sl w B (bcells ys))
    (hn40 : n ≤ 1000000000000) (hl40 : l ≤ 1000000000000) (hnc : n ≤ c) (hc : c ≤ 9223372036854775807) (hld : l ≤ d) (hd : d ≤ 9223372036854775807) (hno : ¬ (xs ≠ ys ∧ sha xs = sha ys)) :
    Calls Tryd.prog 21 #[.slice A n c, .slice B l d] w fun e w' => e = .returned (.tuple #[.agg #[.slice none 0 0, .slice none 0 0], .bool false]) ∧ Below w.heap.size w w' := by
  have HR : Hid (decide (xs ≠ ys ∧ sha xs = sha ys) = false) := decide_eq_false hno
  have HN : Hid (xs.length = n) := hn
  have HL : Hid (ys.length = l) := hl
  have hpos := hT.pos
  have h0 : At (w.alloc (.cells #[.slice none 0 0, .slice none 0 0] 36)) w.heap.size 36 [.slice none 0 0, .slice none 0 0] := At.new_ w _ 36 _ rfl
  have b0 : Below w.heap.size w (w.alloc (.cells #[.slice none 0 0, .slice none 0 0] 36)) := (Below.refl _ _).alloc (Nat.le_refl _) _
  have hT1 := hT.below b0 hpos
  have hA1 := hA.below b0
  have hB1 := hB.below b0
  clear hn hl hno hA hB
  go_enter Tryd.func21, Tryd.ntmps21
  go_wp2_with fail
  refine (is_any A n c xs B l d ys _ hT1 HN.out hA1 HL.out hB1 hn40 hl40 hnc hc hld hd).mono ?_
  rintro e w1 ⟨rfl, hb1⟩
  rw [HR.out]
  have h1 := h0.below hb1 h0.lt
  have b1 := b0.trans (hb1.mono b0.size)
  clear h0 b0 hT1 hA1 hB1
  go_wp2_with (refine wpList_storeA rfl rfl 36 (.tmp 4) (.tmp 11) rfl clashTy w.heap.size 0 rfl [.slice none 0 0, .slice none 0 0] rfl 36 _ h1 rfl (by simp) slices_one ?_)
  exact bodyPost_ret (v := .tuple #[.agg #[.slice none 0 0, .slice none 0 0], .bool false]) (results_cellA2 rfl clashTy _ _ w.heap.size 36 [.slice none 0 0, .slice none 0 0] rfl h1.setRow rfl _ rfl) rfl ⟨rfl, below_setRow b1 (Nat.le_refl _) _⟩
set_option maxRecDepth 100000 in
set_option maxHeartbeats 2000000 in
theorem between_yes (A : Option Addr) (n c : Nat) (xs : List UInt8) (B : Option Addr) (l d : Nat) (ys : List UInt8) (w : World) (hT : Tab w) (hn : xs.length = n) (hA : Sl w A (bcells xs)) (hl : ys.length = l) (hB : Sl w B (bcells ys))
    (hn40 : n ≤ 1000000000000) (hl40 : l ≤ 1000000000000) (hnc : n ≤ c) (hc : c ≤ 9223372036854775807) (hld : l ≤ d) (hd : d ≤ 9223372036854775807) (hyes : xs ≠ ys ∧ sha xs = sha ys) :
    Calls Tryd.prog 21 #[.slice A n c, .slice B l d] w fun e w' => ∃ A' c' B' d', e = .returned (.tuple #[.agg #[.slice A' n c', .slice B' l d'], .bool true]) ∧ Sl w' A' (bcells xs) ∧ n ≤ c' ∧ c' ≤ maxLen ∧ Sl w' B' (bcells ys) ∧ l ≤ d' ∧ d' ≤ maxLen ∧ Below w.heap.size w w' := by
  have HR : Hid (decide (xs ≠ ys ∧ sha xs = sha ys) = true) := decide_eq_true hyes
  have HN : Hid (xs.length = n) := hn
  have HL : Hid (ys.length = l) := hl
  have hpos := hT.pos
  have h0 : At (w.alloc (.cells #[.slice none 0 0, .slice none 0 0] 36)) w.heap.size 36 [.slice none 0 0, .slice none 0 0] := At.new_ w _ 36 _ rfl
  have b0 : Below w.heap.size w (w.alloc (.cells #[.slice none 0 0, .slice none 0 0] 36)) := (Below.refl _ _).alloc (Nat.le_refl _) _
  have hT1 := hT.below b0 hpos
  have hA1 := hA.below b0
  have hB1 := hB.below b0
  clear hn hl hyes hA hB
  go_enter Tryd.func21, Tryd.ntmps21
  go_wp2_with fail
  refine (is_any A n c xs B l d ys _ hT1 HN.out hA1 HL.out hB1 hn40 hl40 hnc hc hld hd).mono ?_
  rintro e w1 ⟨rfl, hb1⟩
  rw [HR.out]
  have h1 := h0.below hb1 h0.lt
  have b1 := b0.trans (hb1.mono b0.size)
  have hA2 := hA1.below hb1
  have hB2 := hB1.below hb1
  have hw1 : w.heap.size < w1.heap.size := h1.lt
  clear h0 b0 hT1 hA1 hB1 hb1
  go_wp2_with fail
  refine (clone_any A n c xs _ HN.out hA2 (by omega)).mono ?_
  rintro e w2 ⟨A', c', rfl, hA', hnc', hcm', ha', hb2⟩
  have h2 := h1.below hb2 h1.lt
  have b2 := b1.trans (hb2.mono b1.size)
  have hB3 := hB2.below hb2
  have hw2 : w.heap.size < w2.heap.size := h2.lt
  clear h1 b1 hA2 hB2 hb2
  go_wp2_with fail
  refine (clone_any B l d ys _ HL.out hB3 (by omega)).mono ?_
  rintro e w3 ⟨B', d', rfl, hB', hld', hdm', hq', hb3⟩
  have h3 := h2.below hb3 h2.lt
  have b3 := b2.trans (hb3.mono b2.size)
  have hA4 := hA'.below hb3
  clear h2 b2 hB3 hb3 hA'
  go_wp2_with (refine wpList_storeA rfl rfl 36 (.tmp 4) (.tmp 16) rfl clashTy w.heap.size 0 rfl [.slice A' n c', .slice B' l d'] rfl 36 _ h3 rfl (by simp) slices_one ?_)
  have k1 := hA4.from_ (w' := w3.setRow w.heap.size (spl [Value.slice none 0 0, Value.slice none 0 0] 0 [Value.slice A' n c', Value.slice B' l d']).toArray) ha' fun b o hb => cell_setRow_ne _ _ _ _ _ (by omega)
  have k2 := hB'.from_ (w' := w3.setRow w.heap.size (spl [Value.slice none 0 0, Value.slice none 0 0] 0 [Value.slice A' n c', Value.slice B' l d']).toArray) hq' fun b o hb => cell_setRow_ne _ _ _ _ _ (by omega)
  exact bodyPost_ret (v := .tuple #[.agg #[.slice A' n c', .slice B' l d'], .bool true]) (results_cellA2 rfl clashTy _ _ w.heap.size 36 [.slice A' n c', .slice B' l d'] rfl h3.setRow rfl _ rfl) rfl ⟨A', c', B', d', rfl, k1, hnc', hcm', k2, hld', hdm', below_setRow b3 (Nat.le_refl _) _⟩
end Go.Proofs.YtkoelgkcgkeodaaDoor.SealW
