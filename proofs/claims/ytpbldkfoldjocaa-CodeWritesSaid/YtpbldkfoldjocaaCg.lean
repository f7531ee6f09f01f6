/- code: read, with num. -/
import Derived.Test.YtpbldkfoldjocaaCf
import Derived.Laws.ResultCell
import Derived.Deep.RegionLaw
namespace Go.Proofs.Ytpbldkfoldjocaa
open Go.RowKit
open Cod
theorem results_cellA2 {P : Program} {fn : Func} {p u : Tmp} {ty : TypeId} (h : fn.results = #[.cell p ty, .tmp u]) {n : Nat} (T : AggTy P ty n) (tmps : Array Value) (w : World) (g : Nat) (t : TypeId) (cs : List Value)
    (hp : tmps.getD p undef = .pointer (some ⟨g, 0, none⟩)) (hg : At w g t cs) (hl : cs.length = n) (v : Value) (hv : tmps.getD u undef = v) : (results fn tmps).run P w = .ok (.tuple #[.agg cs.toArray, v]) w := by
  rw [results_cell_tmp h, hp, hv]
  simp [asAddr, Result.andThen, run_loadA T w g 0 t cs hg cs hl (all_at cs)]
theorem rdc_one (A : Option Addr) (l d : Nat) (a e : Int) : ∀ v ∈ rdc (.slice A l d) a e, v.oneCell' = true := by
  intro v hv; simp [rdc] at hv; rcases hv with rfl | rfl | rfl <;> rfl
theorem run_storeR (P : Program) (w : World) (G : Nat) (t : TypeId) (c0 : Value) (a0 e0 : Int) (A : Option Addr) (l d : Nat) (a e : Int) (h : At w G t (rdc c0 a0 e0)) :
    (storeCells ⟨G, 0, none⟩ (rdc (.slice A l d) a e)).run P w = .ok () (w.setRow G (rdc (.slice A l d) a e).toArray) := by
  have := run_storeCells_at P G 0 t (rdc (.slice A l d) a e) 0 (rdc c0 a0 e0).toArray w h (by simp [rd_len]) (rdc_one _ _ _ _ _)
  have hd : List.drop 3 (rdc c0 a0 e0) = [] := rfl
  simpa [rd_len, hd] using this
theorem rd_cells {w : World} {G : Nat} {t : TypeId} {V : Value} {a e : Int} (h : At w G t (rdc V a e)) :
    w.cell? ⟨G, 0, none⟩ = some V ∧ w.cell? ⟨G, 1, none⟩ = some (.int .i64 a) ∧ w.cell? ⟨G, 2, none⟩ = some (.int .i64 e) ∧ w.frozen? ⟨G, 0, none⟩ = false ∧ w.frozen? ⟨G, 1, none⟩ = false ∧ w.frozen? ⟨G, 2, none⟩ = false :=
  ⟨(h.cell 0).trans rfl, (h.cell 1).trans rfl, (h.cell 2).trans rfl, h.froz 0, h.froz 1, h.froz 2⟩
/-- A reader's cells, written one by one. -/
theorem rd_put {w : World} {G : Nat} {t : TypeId} {V V' : Value} {a e a' e' : Int} (h : At w G t (rdc V a e)) :
    At (((w.setCell ⟨G, 0, none⟩ V').setCell ⟨G, 1, none⟩ (.int .i64 a')).setCell ⟨G, 2, none⟩ (.int .i64 e')) G t (rdc V' a' e') :=
  ((h.put 0 V').put 1 (.int .i64 a')).put 2 (.int .i64 e')
/-- What a reading call answers: the reader behind, and the value. -/
def RDP (bs : List UInt8) (a x : Int) (val : Value) (w : World) (e : Ending) (w' : World) : Prop :=
  ∃ A c, e = .returned (.tuple #[.agg (rdc (.slice A bs.length c) a x).toArray, val]) ∧ Sl w' A (bcells bs) ∧ bs.length ≤ c ∧ c ≤ maxLen ∧ (∀ b o s, A = some ⟨b, o, s⟩ → w.heap.size ≤ b) ∧ Below w.heap.size w w'
/-- .. and of a list of texts. -/
def RDLP (bs : List UInt8) (a x : Int) (tl : List (List UInt8)) (w : World) (e : Ending) (w' : World) : Prop :=
  ∃ A c V ss, e = .returned (.tuple #[.agg (rdc (.slice A bs.length c) a x).toArray, V]) ∧ Sl w' A (bcells bs) ∧ bs.length ≤ c ∧ c ≤ maxLen ∧ (∀ b o s, A = some ⟨b, o, s⟩ → w.heap.size ≤ b) ∧ OwS w.heap.size w' V ss ∧ sbytes ss = tl ∧ Below w.heap.size w w'
theorem own_setCell {B G o k : Nat} {e : TypeId} {v u : Value} {n : Nat} {xs : List Value} {w : World} (h : w.ownsRow B e k v n xs) (hG : G < B) : (w.setCell ⟨G, o, none⟩ u).ownsRow B e k v n xs :=
  h.kept (row := some G) ⟨rfl, rfl, rfl, by simp, fun j hj hne => Below.heap_setCell w ⟨G, o, none⟩ u j (by simpa using hne)⟩ (by
    cases hv : v.ownBlock with
    | none => exact .inl rfl
    | some g => exact .inr (by have := (h.lt g hv).1; simp; omega))
set_option maxRecDepth 100000 in
set_option maxHeartbeats 2000000 in
theorem read_num_ok (B : Option Addr) (l d : Nat) (bs : List UInt8) (p : Nat) (w : World) (hl : bs.length = l) (hb : Sl w B (bcells bs)) (hld : l ≤ d) (h47 : l ≤ 140737488355328) (hp : p ≤ l) (v n x : Nat) (hX : numS (bs.drop p) = (v, n, x)) :
    Calls Try.prog 23 #[.agg (rdc (.slice B l d) p 0).toArray, .func (.func 24) #[] #[]] w (RDP bs ((p : Int) + (n : Int)) x (.int .i64 v) w) := by
  have HL : Hid (bs.length = l) := hl
  have h0 : At ((w.alloc (.cells (rdc (.slice B l d) p 0).toArray 36)).alloc (.cells (rdc (.slice none 0 0) 0 0).toArray 36)) w.heap.size 36 (rdc (.slice B l d) p 0) := (At.new_ w _ 36 _ rfl).alloc _
  have h1 : At ((w.alloc (.cells (rdc (.slice B l d) p 0).toArray 36)).alloc (.cells (rdc (.slice none 0 0) 0 0).toArray 36)) (w.heap.size + 1) 36 (rdc (.slice none 0 0) 0 0) := At.new_ _ _ 36 _ (by simp)
  have hbel : Below w.heap.size w ((w.alloc (.cells (rdc (.slice B l d) p 0).toArray 36)).alloc (.cells (rdc (.slice none 0 0) 0 0).toArray 36)) := ((Below.refl _ _).alloc (Nat.le_refl _) _).alloc (by simp) _
  have HLEN : Hid ((bs.drop p).length = l - p) := by unfold Hid; rw [List.length_drop, hl]
  have HX : Hid (numS (bs.drop p) = (v, n, x)) := hX
  have hle := num_le (bs.drop p)
  rw [hX, HLEN.out] at hle
  simp only at hle
  clear hX
  have hblk : Hid (blkS l p 0 = 0) := by unfold Hid blkS; simp; omega
  have hpt := fun w' => run_from (P := Try.prog) bytesTy w' B l d p .i64 hp
  obtain ⟨B', hB'⟩ : ∃ B', B' = (if d = p then B else B.map (·.add p)) := ⟨_, rfl⟩
  have hsl : Sl w B' (bcells (bs.drop p)) := by
    rw [← bcells_drop, hB']
    exact hb.cut p d (by rw [bcells_len, hl]; exact hld)
  rw [← hB'] at hpt
  have hs1 := h1.lt
  clear hl hB'
  go_enter Try.func23, Try.ntmps23
  go_wp2_with (refine wpList_loadA rfl 36 (.tmp 2) rfl ty36 w.heap.size 0 rfl 36 _ h0 (rdc (.slice B l d) p 0) rfl (all_at _) ?_)
  refine (blocked_any B l d p 0 _ (by omega)).mono ?_
  rintro e w1 ⟨rfl, hb1⟩
  rw [hblk.out]
  have g0 := h0.below hb1 h0.lt
  have g1 := h1.below hb1 h1.lt
  have gbel := hbel.trans (hb1.mono hbel.size)
  have hsl1 := hsl.below gbel
  have hsz1 := g1.lt
  have c0 : w1.cell? ⟨w.heap.size, 0, none⟩ = some (.slice B l d) := (g0.cell 0).trans rfl
  have c1 : w1.cell? ⟨w.heap.size, 1, none⟩ = some (.int .i64 p) := (g0.cell 1).trans rfl
  clear h0 h1 hbel hb1
  go_wp2_with fail
  refine (rnum_eq HX.out x rfl B' (l - p) (d - p) _ HLEN.out hsl1 (by omega)).mono ?_
  rintro e w2 ⟨rfl, hw2⟩; have hbC : Below w1.heap.size w1 w2 := (by rw [← hw2]; exact Below.refl _ _)
  have hbC2 := gbel.trans (hbC.mono (by omega))
  have hbb := hb.below hbC2
  have hsz2 := hbC.size
  have HG1 : Hid (At w2 (w.heap.size + 1) 36 (rdc (.slice none 0 0) 0 0)) := g1.below hbC g1.lt
  have HGB : Hid (Below w.heap.size w w2) := hbC2
  have b0 : w2.cell? ⟨w.heap.size, 0, none⟩ = some (.slice B l d) := (hbC.cell (p := ⟨w.heap.size, 0, none⟩) (by show w.heap.size < w1.heap.size; omega)).trans c0
  have b1 : w2.cell? ⟨w.heap.size, 1, none⟩ = some (.int .i64 p) := (hbC.cell (p := ⟨w.heap.size, 1, none⟩) (by show w.heap.size < w1.heap.size; omega)).trans c1
  clear hpt hsl hsl1 g1 gbel hb g0 hbC hbC2 c0 c1
  clear hw2
  go_wp2_with fail
  have hsum : IntKind.i64.wrap ((p : Int) + (n : Nat)) = (p : Int) + (n : Nat) := IntWalk.i64_in _ (by omega)
  go_region_law (rw [if_pos (show Region.wanted _ _ = true by simp [Region.wanted])]; go_simp; go_at_call 21; refine (own_any B l d bs _ HL.out hbb.drew (by omega)).mono ?_; rintro e w3 ⟨V, rfl, hown, hb3⟩; obtain ⟨A3, c3, rfl, hsl3, hlc3, hcm3, hA3⟩ := hown.slice; rw [HL.out] at hlc3; rw [HL.out]; have hG3 := HG1.out.drew.below hb3 HG1.out.drew.lt; obtain ⟨e0, e1, e2, f0, f1, f2⟩ := rd_cells hG3; have d1 : w3.cell? ⟨w.heap.size, 1, none⟩ = some (.int .i64 p) := (hb3.cell (p := ⟨w.heap.size, 1, none⟩) (by show w.heap.size < w2.heap.size; omega)).trans b1; dsimp only)
  all_goals
    have hput := rd_put (V' := .slice A3 l c3) (a' := (p : Int) + (n : Nat)) (e' := ((x : Nat) : Int)) hG3
    have hbelS : Below w.heap.size w (((w3.setCell ⟨w.heap.size + 1, 0, none⟩ (.slice A3 l c3)).setCell ⟨w.heap.size + 1, 1, none⟩ (.int .i64 ((p : Int) + (n : Nat)))).setCell ⟨w.heap.size + 1, 2, none⟩ (.int .i64 ((x : Nat) : Int))) :=
      (((HGB.out.drew.trans (hb3.mono (by show w.heap.size ≤ w2.heap.size; omega))).setCell (by simp) _).setCell (by simp) _).setCell (by simp) _
    have hslS : Sl (((w3.setCell ⟨w.heap.size + 1, 0, none⟩ (.slice A3 l c3)).setCell ⟨w.heap.size + 1, 1, none⟩ (.int .i64 ((p : Int) + (n : Nat)))).setCell ⟨w.heap.size + 1, 2, none⟩ (.int .i64 ((x : Nat) : Int))) A3 (bcells bs) :=
      hsl3.from_ hA3 (fun b o hb => by
        have : w.heap.size + 1 < b := by have : w2.heap.size ≤ b := hb; omega
        rw [cell_setCell_ne _ _ _ _ _ _ (by omega), cell_setCell_ne _ _ _ _ _ _ (by omega), cell_setCell_ne _ _ _ _ _ _ (by omega)])
    have hAA : ∀ b o s, A3 = some ⟨b, o, s⟩ → w.heap.size ≤ b := fun b o s h => by have : w2.heap.size ≤ b := hA3 b o s h; omega
    clear e0 e1 e2 f0 f1 f2 hsl3 hb3 hG3 hown
    generalize ((w3.setCell ⟨w.heap.size + 1, 0, none⟩ (.slice A3 l c3)).setCell ⟨w.heap.size + 1, 1, none⟩ (.int .i64 ((p : Int) + (n : Nat)))).setCell ⟨w.heap.size + 1, 2, none⟩ (.int .i64 ((x : Nat) : Int)) = W at *
    go_simp
    go_wp2_with fail
    refine bodyPost_ret (v := .tuple #[.agg (rdc (.slice A3 l c3) ((p : Int) + (n : Nat)) ((x : Nat) : Int)).toArray, .int .i64 v]) (results_cellA2 rfl ty36 _ _ (w.heap.size + 1) 36 (rdc (.slice A3 l c3) ((p : Int) + (n : Nat)) ((x : Nat) : Int)) rfl hput rfl _ rfl) rfl ⟨A3, c3, ?_, hslS, by rw [HL.out]; exact hlc3, hcm3, hAA, hbelS⟩
    rw [HL.out]
set_option maxRecDepth 100000 in
set_option maxHeartbeats 2000000 in
theorem read_text_ok (B : Option Addr) (l d : Nat) (bs : List UInt8) (p : Nat) (most : Int) (g : Nat) (w : World) (hl : bs.length = l) (hb : Sl w B (bcells bs)) (hld : l ≤ d) (h47 : l ≤ 140737488355328) (hp : p ≤ l) (hg : w.cell? ⟨g, 0, none⟩ = some (.int .i64 most)) (hgl : g < w.heap.size) (t : List UInt8) (n x : Nat) (hX : textS (bs.drop p) most = (t, n, x)) :
    Calls Try.prog 25 #[.agg (rdc (.slice B l d) p 0).toArray, .func (.func 26) #[] #[.pointer (some ⟨g, 0, none⟩)]] w (RDP bs ((p : Int) + (n : Int)) x (.string ⟨t.toArray⟩) w) := by
  have HL : Hid (bs.length = l) := hl
  have h0 : At ((w.alloc (.cells (rdc (.slice B l d) p 0).toArray 36)).alloc (.cells (rdc (.slice none 0 0) 0 0).toArray 36)) w.heap.size 36 (rdc (.slice B l d) p 0) := (At.new_ w _ 36 _ rfl).alloc _
  have h1 : At ((w.alloc (.cells (rdc (.slice B l d) p 0).toArray 36)).alloc (.cells (rdc (.slice none 0 0) 0 0).toArray 36)) (w.heap.size + 1) 36 (rdc (.slice none 0 0) 0 0) := At.new_ _ _ 36 _ (by simp)
  have hbel : Below w.heap.size w ((w.alloc (.cells (rdc (.slice B l d) p 0).toArray 36)).alloc (.cells (rdc (.slice none 0 0) 0 0).toArray 36)) := ((Below.refl _ _).alloc (Nat.le_refl _) _).alloc (by simp) _
  have HLEN : Hid ((bs.drop p).length = l - p) := by unfold Hid; rw [List.length_drop, hl]
  have HX : Hid (textS (bs.drop p) most = (t, n, x)) := hX
  have hle := textS_le (bs.drop p) most
  rw [hX, HLEN.out] at hle
  simp only at hle
  clear hX
  have hblk : Hid (blkS l p 0 = 0) := by unfold Hid blkS; simp; omega
  have hpt := fun w' => run_from (P := Try.prog) bytesTy w' B l d p .i64 hp
  obtain ⟨B', hB'⟩ : ∃ B', B' = (if d = p then B else B.map (·.add p)) := ⟨_, rfl⟩
  have hsl : Sl w B' (bcells (bs.drop p)) := by
    rw [← bcells_drop, hB']
    exact hb.cut p d (by rw [bcells_len, hl]; exact hld)
  rw [← hB'] at hpt
  have hs1 := h1.lt
  clear hl hB'
  go_enter Try.func25, Try.ntmps25
  go_wp2_with (refine wpList_loadA rfl 36 (.tmp 2) rfl ty36 w.heap.size 0 rfl 36 _ h0 (rdc (.slice B l d) p 0) rfl (all_at _) ?_)
  refine (blocked_any B l d p 0 _ (by omega)).mono ?_
  rintro e w1 ⟨rfl, hb1⟩
  rw [hblk.out]
  have g0 := h0.below hb1 h0.lt
  have g1 := h1.below hb1 h1.lt
  have gbel := hbel.trans (hb1.mono hbel.size)
  have hsl1 := hsl.below gbel
  have hsz1 := g1.lt
  have c0 : w1.cell? ⟨w.heap.size, 0, none⟩ = some (.slice B l d) := (g0.cell 0).trans rfl
  have c1 : w1.cell? ⟨w.heap.size, 1, none⟩ = some (.int .i64 p) := (g0.cell 1).trans rfl
  clear h0 h1 hbel hb1
  go_wp2_with fail
  refine (rtext1_any B' (l - p) (d - p) (bs.drop p) most g _ HLEN.out hsl1 (by omega) (by omega) ((gbel.cell (p := ⟨g, 0, none⟩) hgl).trans hg)).mono ?_
  rintro e w2 ⟨rfl, hw2⟩; have hbC : Below w1.heap.size w1 w2 := (by rw [← hw2]; exact Below.refl _ _)
  rw [HX.out]
  simp only
  have hbC2 := gbel.trans (hbC.mono (by omega))
  have hbb := hb.below hbC2
  have hsz2 := hbC.size
  have HG1 : Hid (At w2 (w.heap.size + 1) 36 (rdc (.slice none 0 0) 0 0)) := g1.below hbC g1.lt
  have HGB : Hid (Below w.heap.size w w2) := hbC2
  have b0 : w2.cell? ⟨w.heap.size, 0, none⟩ = some (.slice B l d) := (hbC.cell (p := ⟨w.heap.size, 0, none⟩) (by show w.heap.size < w1.heap.size; omega)).trans c0
  have b1 : w2.cell? ⟨w.heap.size, 1, none⟩ = some (.int .i64 p) := (hbC.cell (p := ⟨w.heap.size, 1, none⟩) (by show w.heap.size < w1.heap.size; omega)).trans c1
  clear hpt hsl hsl1 g1 gbel hb g0 hbC hbC2 c0 c1
  clear hw2
  go_wp2_with fail
  have hsum : IntKind.i64.wrap ((p : Int) + (n : Nat)) = (p : Int) + (n : Nat) := IntWalk.i64_in _ (by omega)
  go_region_law (rw [if_pos (show Region.wanted _ _ = true by simp [Region.wanted])]; go_simp; go_at_call 21; refine (own_any B l d bs _ HL.out hbb.drew (by omega)).mono ?_; rintro e w3 ⟨V, rfl, hown, hb3⟩; obtain ⟨A3, c3, rfl, hsl3, hlc3, hcm3, hA3⟩ := hown.slice; rw [HL.out] at hlc3; rw [HL.out]; have hG3 := HG1.out.drew.below hb3 HG1.out.drew.lt; obtain ⟨e0, e1, e2, f0, f1, f2⟩ := rd_cells hG3; have d1 : w3.cell? ⟨w.heap.size, 1, none⟩ = some (.int .i64 p) := (hb3.cell (p := ⟨w.heap.size, 1, none⟩) (by show w.heap.size < w2.heap.size; omega)).trans b1; dsimp only)
  all_goals
    have hput := rd_put (V' := .slice A3 l c3) (a' := (p : Int) + (n : Nat)) (e' := ((x : Nat) : Int)) hG3
    have hbelS : Below w.heap.size w (((w3.setCell ⟨w.heap.size + 1, 0, none⟩ (.slice A3 l c3)).setCell ⟨w.heap.size + 1, 1, none⟩ (.int .i64 ((p : Int) + (n : Nat)))).setCell ⟨w.heap.size + 1, 2, none⟩ (.int .i64 ((x : Nat) : Int))) :=
      (((HGB.out.drew.trans (hb3.mono (by show w.heap.size ≤ w2.heap.size; omega))).setCell (by simp) _).setCell (by simp) _).setCell (by simp) _
    have hslS : Sl (((w3.setCell ⟨w.heap.size + 1, 0, none⟩ (.slice A3 l c3)).setCell ⟨w.heap.size + 1, 1, none⟩ (.int .i64 ((p : Int) + (n : Nat)))).setCell ⟨w.heap.size + 1, 2, none⟩ (.int .i64 ((x : Nat) : Int))) A3 (bcells bs) :=
      hsl3.from_ hA3 (fun b o hb => by
        have : w.heap.size + 1 < b := by have : w2.heap.size ≤ b := hb; omega
        rw [cell_setCell_ne _ _ _ _ _ _ (by omega), cell_setCell_ne _ _ _ _ _ _ (by omega), cell_setCell_ne _ _ _ _ _ _ (by omega)])
    have hAA : ∀ b o s, A3 = some ⟨b, o, s⟩ → w.heap.size ≤ b := fun b o s h => by have : w2.heap.size ≤ b := hA3 b o s h; omega
    clear e0 e1 e2 f0 f1 f2 hsl3 hb3 hG3 hown
    generalize ((w3.setCell ⟨w.heap.size + 1, 0, none⟩ (.slice A3 l c3)).setCell ⟨w.heap.size + 1, 1, none⟩ (.int .i64 ((p : Int) + (n : Nat)))).setCell ⟨w.heap.size + 1, 2, none⟩ (.int .i64 ((x : Nat) : Int)) = W at *
    go_simp
    go_wp2_with fail
    refine bodyPost_ret (v := .tuple #[.agg (rdc (.slice A3 l c3) ((p : Int) + (n : Nat)) ((x : Nat) : Int)).toArray, .string ⟨t.toArray⟩]) (results_cellA2 rfl ty36 _ _ (w.heap.size + 1) 36 (rdc (.slice A3 l c3) ((p : Int) + (n : Nat)) ((x : Nat) : Int)) rfl hput rfl _ rfl) rfl ⟨A3, c3, ?_, hslS, by rw [HL.out]; exact hlc3, hcm3, hAA, hbelS⟩
    rw [HL.out]
set_option maxRecDepth 100000 in
set_option maxHeartbeats 2000000 in
theorem read_list_ok (B : Option Addr) (l d : Nat) (bs : List UInt8) (p : Nat) (many most : Int) (g g' : Nat) (w : World) (hl : bs.length = l) (hb : Sl w B (bcells bs)) (hld : l ≤ d) (h47 : l ≤ 140737488355328) (hp : p ≤ l) (hl40 : l ≤ 1099511627776) (hg : w.cell? ⟨g, 0, none⟩ = some (.int .i64 many)) (hg' : w.cell? ⟨g', 0, none⟩ = some (.int .i64 most)) (hgl : g < w.heap.size) (hgl' : g' < w.heap.size) (tl : List (List UInt8)) (n x : Nat) (hX : listS (bs.drop p) many most = (tl, n, x)) :
    Calls Try.prog 28 #[.agg (rdc (.slice B l d) p 0).toArray, .func (.func 29) #[] #[.pointer (some ⟨g, 0, none⟩), .pointer (some ⟨g', 0, none⟩)]] w (RDLP bs ((p : Int) + (n : Int)) x tl w) := by
  have HL : Hid (bs.length = l) := hl
  have h0 : At ((w.alloc (.cells (rdc (.slice B l d) p 0).toArray 36)).alloc (.cells (rdc (.slice none 0 0) 0 0).toArray 36)) w.heap.size 36 (rdc (.slice B l d) p 0) := (At.new_ w _ 36 _ rfl).alloc _
  have h1 : At ((w.alloc (.cells (rdc (.slice B l d) p 0).toArray 36)).alloc (.cells (rdc (.slice none 0 0) 0 0).toArray 36)) (w.heap.size + 1) 36 (rdc (.slice none 0 0) 0 0) := At.new_ _ _ 36 _ (by simp)
  have hbel : Below w.heap.size w ((w.alloc (.cells (rdc (.slice B l d) p 0).toArray 36)).alloc (.cells (rdc (.slice none 0 0) 0 0).toArray 36)) := ((Below.refl _ _).alloc (Nat.le_refl _) _).alloc (by simp) _
  have HLEN : Hid ((bs.drop p).length = l - p) := by unfold Hid; rw [List.length_drop, hl]
  have HX : Hid (listS (bs.drop p) many most = (tl, n, x)) := hX
  have hle := listS_le (bs.drop p) many most
  rw [hX, HLEN.out] at hle
  simp only at hle
  clear hX
  have hblk : Hid (blkS l p 0 = 0) := by unfold Hid blkS; simp; omega
  have hpt := fun w' => run_from (P := Try.prog) bytesTy w' B l d p .i64 hp
  obtain ⟨B', hB'⟩ : ∃ B', B' = (if d = p then B else B.map (·.add p)) := ⟨_, rfl⟩
  have hsl : Sl w B' (bcells (bs.drop p)) := by
    rw [← bcells_drop, hB']
    exact hb.cut p d (by rw [bcells_len, hl]; exact hld)
  rw [← hB'] at hpt
  have hs1 := h1.lt
  clear hl hB'
  go_enter Try.func28, Try.ntmps28
  go_wp2_with (refine wpList_loadA rfl 36 (.tmp 2) rfl ty36 w.heap.size 0 rfl 36 _ h0 (rdc (.slice B l d) p 0) rfl (all_at _) ?_)
  refine (blocked_any B l d p 0 _ (by omega)).mono ?_
  rintro e w1 ⟨rfl, hb1⟩
  rw [hblk.out]
  have g0 := h0.below hb1 h0.lt
  have g1 := h1.below hb1 h1.lt
  have gbel := hbel.trans (hb1.mono hbel.size)
  have hsl1 := hsl.below gbel
  have hsz1 := g1.lt
  have c0 : w1.cell? ⟨w.heap.size, 0, none⟩ = some (.slice B l d) := (g0.cell 0).trans rfl
  have c1 : w1.cell? ⟨w.heap.size, 1, none⟩ = some (.int .i64 p) := (g0.cell 1).trans rfl
  clear h0 h1 hbel hb1
  go_wp2_with fail
  refine (rlist1_any B' (l - p) (d - p) (bs.drop p) many most g g' _ HLEN.out hsl1 (by omega) (by omega) (by omega) ((gbel.cell (p := ⟨g, 0, none⟩) hgl).trans hg) ((gbel.cell (p := ⟨g', 0, none⟩) hgl').trans hg')).mono ?_
  rintro e w2 ⟨V0, ss, rfl, hos, htl, hbC⟩
  rw [HX.out] at htl ⊢
  simp only at htl ⊢
  have HTL : Hid (sbytes ss = tl) := htl
  have HOS : Hid (OwS w1.heap.size w2 V0 ss) := hos
  clear hos htl
  have hbC2 := gbel.trans (hbC.mono (by omega))
  have hbb := hb.below hbC2
  have hsz2 := hbC.size
  have HG1 : Hid (At w2 (w.heap.size + 1) 36 (rdc (.slice none 0 0) 0 0)) := g1.below hbC g1.lt
  have HGB : Hid (Below w.heap.size w w2) := hbC2
  have b0 : w2.cell? ⟨w.heap.size, 0, none⟩ = some (.slice B l d) := (hbC.cell (p := ⟨w.heap.size, 0, none⟩) (by show w.heap.size < w1.heap.size; omega)).trans c0
  have b1 : w2.cell? ⟨w.heap.size, 1, none⟩ = some (.int .i64 p) := (hbC.cell (p := ⟨w.heap.size, 1, none⟩) (by show w.heap.size < w1.heap.size; omega)).trans c1
  clear hpt hsl hsl1 g1 gbel hb g0 hbC hbC2 c0 c1
  go_wp2_with fail
  have hsum : IntKind.i64.wrap ((p : Int) + (n : Nat)) = (p : Int) + (n : Nat) := IntWalk.i64_in _ (by omega)
  go_region_law (rw [if_pos (show Region.wanted _ _ = true by simp [Region.wanted])]; go_simp; go_at_call 21; refine (own_any B l d bs _ HL.out hbb.drew (by omega)).mono ?_; rintro e w3 ⟨V, rfl, hown, hb3⟩; obtain ⟨A3, c3, rfl, hsl3, hlc3, hcm3, hA3⟩ := hown.slice; rw [HL.out] at hlc3; rw [HL.out]; have hG3 := HG1.out.drew.below hb3 HG1.out.drew.lt; obtain ⟨e0, e1, e2, f0, f1, f2⟩ := rd_cells hG3; have d1 : w3.cell? ⟨w.heap.size, 1, none⟩ = some (.int .i64 p) := (hb3.cell (p := ⟨w.heap.size, 1, none⟩) (by show w.heap.size < w2.heap.size; omega)).trans b1; dsimp only)
  all_goals
    have hput := rd_put (V' := .slice A3 l c3) (a' := (p : Int) + (n : Nat)) (e' := ((x : Nat) : Int)) hG3
    have hbelS : Below w.heap.size w (((w3.setCell ⟨w.heap.size + 1, 0, none⟩ (.slice A3 l c3)).setCell ⟨w.heap.size + 1, 1, none⟩ (.int .i64 ((p : Int) + (n : Nat)))).setCell ⟨w.heap.size + 1, 2, none⟩ (.int .i64 ((x : Nat) : Int))) :=
      (((HGB.out.drew.trans (hb3.mono (by show w.heap.size ≤ w2.heap.size; omega))).setCell (by simp) _).setCell (by simp) _).setCell (by simp) _
    have hslS : Sl (((w3.setCell ⟨w.heap.size + 1, 0, none⟩ (.slice A3 l c3)).setCell ⟨w.heap.size + 1, 1, none⟩ (.int .i64 ((p : Int) + (n : Nat)))).setCell ⟨w.heap.size + 1, 2, none⟩ (.int .i64 ((x : Nat) : Int))) A3 (bcells bs) :=
      hsl3.from_ hA3 (fun b o hb => by
        have : w.heap.size + 1 < b := by have : w2.heap.size ≤ b := hb; omega
        rw [cell_setCell_ne _ _ _ _ _ _ (by omega), cell_setCell_ne _ _ _ _ _ _ (by omega), cell_setCell_ne _ _ _ _ _ _ (by omega)])
    have hAA : ∀ b o s, A3 = some ⟨b, o, s⟩ → w.heap.size ≤ b := fun b o s h => by have : w2.heap.size ≤ b := hA3 b o s h; omega
    have hosS : OwS w.heap.size (((w3.setCell ⟨w.heap.size + 1, 0, none⟩ (.slice A3 l c3)).setCell ⟨w.heap.size + 1, 1, none⟩ (.int .i64 ((p : Int) + (n : Nat)))).setCell ⟨w.heap.size + 1, 2, none⟩ (.int .i64 ((x : Nat) : Int))) V0 ss := by
      have h9 : OwS w1.heap.size w3 V0 ss := OwS.below (w := w2.drew) HOS.out hb3
      exact OwS.mono (own_setCell (own_setCell (own_setCell h9 (by omega)) (by omega)) (by omega)) (by omega)
    clear e0 e1 e2 f0 f1 f2 hsl3 hb3 hG3 hown
    generalize ((w3.setCell ⟨w.heap.size + 1, 0, none⟩ (.slice A3 l c3)).setCell ⟨w.heap.size + 1, 1, none⟩ (.int .i64 ((p : Int) + (n : Nat)))).setCell ⟨w.heap.size + 1, 2, none⟩ (.int .i64 ((x : Nat) : Int)) = W at *
    go_simp
    go_wp2_with fail
    refine bodyPost_ret (v := .tuple #[.agg (rdc (.slice A3 l c3) ((p : Int) + (n : Nat)) ((x : Nat) : Int)).toArray, V0]) (results_cellA2 rfl ty36 _ _ (w.heap.size + 1) 36 (rdc (.slice A3 l c3) ((p : Int) + (n : Nat)) ((x : Nat) : Int)) rfl hput rfl _ rfl) rfl ⟨A3, c3, V0, ss, ?_, hslS, by rw [HL.out]; exact hlc3, hcm3, hAA, hosS, HTL.out, hbelS⟩
    rw [HL.out]
end Go.Proofs.Ytpbldkfoldjocaa
