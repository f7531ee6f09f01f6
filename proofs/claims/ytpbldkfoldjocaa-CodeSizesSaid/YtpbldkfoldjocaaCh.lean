/- code: ReadNum, ReadText, ReadList. -/
import Derived.Test.YtpbldkfoldjocaaCg
namespace Go.Proofs.Ytpbldkfoldjocaa
open Go.RowKit
open Cod
theorem rd_spl (V V' : Value) (a e a' e' : Int) : spl (rdc V a e) 0 (rdc V' a' e') = rdc V' a' e' := rfl
theorem own_setRow {B G : Nat} {e : TypeId} {k : Nat} {v : Value} {n : Nat} {xs : List Value} {w : World} (h : w.ownsRow B e k v n xs) (hG : G < B) (cs : Array Value) : (w.setRow G cs).ownsRow B e k v n xs :=
  h.kept (row := some G) ⟨rfl, rfl, rfl, by simp, fun j hj hne => setRow_other w G j cs (by simpa using hne)⟩ (by
    cases hv : v.ownBlock with
    | none => exact .inl rfl
    | some g => exact .inr (by have := (h.lt g hv).1; simp; omega))
set_option maxRecDepth 100000 in
set_option maxHeartbeats 1000000 in
theorem readNum_ok (B : Option Addr) (l d : Nat) (bs : List UInt8) (p : Nat) (w : World) (hl : bs.length = l) (hb : Sl w B (bcells bs)) (hld : l ≤ d) (h47 : l ≤ 140737488355328) (hp : p ≤ l) (v n x : Nat) (hX : numS (bs.drop p) = (v, n, x)) :
    Calls Try.prog 15 #[.agg (rdc (.slice B l d) p 0).toArray] w (RDP bs ((p : Int) + (n : Int)) x (.int .i64 v) w) := by
  have HL : Hid (bs.length = l) := hl
  have HX : Hid (numS (bs.drop p) = (v, n, x)) := hX
  have h0 : At ((w.alloc (.cells (rdc (.slice B l d) p 0).toArray 36)).alloc (.cells (rdc (.slice none 0 0) 0 0).toArray 36)) w.heap.size 36 (rdc (.slice B l d) p 0) := (At.new_ w _ 36 _ rfl).alloc _
  have h1 : At ((w.alloc (.cells (rdc (.slice B l d) p 0).toArray 36)).alloc (.cells (rdc (.slice none 0 0) 0 0).toArray 36)) (w.heap.size + 1) 36 (rdc (.slice none 0 0) 0 0) := At.new_ _ _ 36 _ (by simp)
  have hbel : Below w.heap.size w ((w.alloc (.cells (rdc (.slice B l d) p 0).toArray 36)).alloc (.cells (rdc (.slice none 0 0) 0 0).toArray 36)) := ((Below.refl _ _).alloc (Nat.le_refl _) _).alloc (by simp) _
  clear hl hX
  go_enter Try.func15, Try.ntmps15
  go_wp2_with (refine wpList_loadA rfl 36 (.tmp 1) rfl ty36 w.heap.size 0 rfl 36 _ h0 (rdc (.slice B l d) p 0) rfl (all_at _) ?_)
  refine (read_num_ok B l d bs p _ HL.out (hb.below hbel) hld h47 hp v n x HX.out).mono ?_
  rintro e w1 ⟨A, c, rfl, hsl, hlc, hcm, hA, hb1⟩
  have g1 := h1.below hb1 h1.lt
  have gbel := hbel.trans (hb1.mono hbel.size)
  have HA : Hid (∀ b o s, A = some ⟨b, o, s⟩ → w.heap.size + 2 ≤ b) := fun b o s h => by have := hA b o s h; simpa using this
  clear h0 h1 hbel hb1 hA
  go_wp2_with (refine wpList_storeA rfl rfl 36 (.tmp 2) (.tmp 6) rfl ty36 (w.heap.size + 1) 0 rfl (rdc (.slice A bs.length c) ((p : Int) + (n : Int)) x) rfl 36 _ g1 rfl (by rw [rd_len]; omega) (rdc_one _ _ _ _ _) ?_; simp only [rd_spl])
  refine bodyPost_ret (v := .tuple #[.agg (rdc (.slice A bs.length c) ((p : Int) + (n : Int)) x).toArray, .int .i64 v]) (results_cellA2 rfl ty36 _ _ (w.heap.size + 1) 36 (rdc (.slice A bs.length c) ((p : Int) + (n : Int)) x) rfl g1.setRow rfl _ rfl) rfl ⟨A, c, rfl, ?_, hlc, hcm, fun b o s h => by have := HA.out b o s h; omega, below_setRow gbel (by omega) _⟩
  exact hsl.from_ HA.out (fun b o hb => cell_setRow_ne _ _ _ _ _ (by omega))
set_option maxRecDepth 100000 in
set_option maxHeartbeats 1000000 in
theorem readText_ok (B : Option Addr) (l d : Nat) (bs : List UInt8) (p : Nat) (most : Int) (w : World) (hl : bs.length = l) (hb : Sl w B (bcells bs)) (hld : l ≤ d) (h47 : l ≤ 140737488355328) (hp : p ≤ l) (t : List UInt8) (n x : Nat) (hX : textS (bs.drop p) most = (t, n, x)) :
    Calls Try.prog 16 #[.agg (rdc (.slice B l d) p 0).toArray, .int .i64 most] w (RDP bs ((p : Int) + (n : Int)) x (.string ⟨t.toArray⟩) w) := by
  have HL : Hid (bs.length = l) := hl
  have HX : Hid (textS (bs.drop p) most = (t, n, x)) := hX
  have h0 : At (((w.alloc (.cells (rdc (.slice B l d) p 0).toArray 36)).alloc (.cells #[.int .i64 most] 3)).alloc (.cells (rdc (.slice none 0 0) 0 0).toArray 36)) w.heap.size 36 (rdc (.slice B l d) p 0) := ((At.new_ w _ 36 _ rfl).alloc _).alloc _
  have hm : At (((w.alloc (.cells (rdc (.slice B l d) p 0).toArray 36)).alloc (.cells #[.int .i64 most] 3)).alloc (.cells (rdc (.slice none 0 0) 0 0).toArray 36)) (w.heap.size + 1) 3 [.int .i64 most] := (At.new_ _ _ 3 _ (by simp)).alloc _
  have h1 : At (((w.alloc (.cells (rdc (.slice B l d) p 0).toArray 36)).alloc (.cells #[.int .i64 most] 3)).alloc (.cells (rdc (.slice none 0 0) 0 0).toArray 36)) (w.heap.size + 2) 36 (rdc (.slice none 0 0) 0 0) := At.new_ _ _ 36 _ (by simp)
  have hbel : Below w.heap.size w (((w.alloc (.cells (rdc (.slice B l d) p 0).toArray 36)).alloc (.cells #[.int .i64 most] 3)).alloc (.cells (rdc (.slice none 0 0) 0 0).toArray 36)) := (((Below.refl _ _).alloc (Nat.le_refl _) _).alloc (by simp) _).alloc (by simp; omega) _
  have hmc := (hm.cell 0).trans rfl
  have hml := hm.lt
  clear hl hX hm
  go_enter Try.func16, Try.ntmps16
  go_wp2_with (refine wpList_loadA rfl 36 (.tmp 2) rfl ty36 w.heap.size 0 rfl 36 _ h0 (rdc (.slice B l d) p 0) rfl (all_at _) ?_)
  refine (read_text_ok B l d bs p most (w.heap.size + 1) _ HL.out (hb.below hbel) hld h47 hp hmc hml t n x HX.out).mono ?_
  rintro e w1 ⟨A, c, rfl, hsl, hlc, hcm, hA, hb1⟩
  have g1 := h1.below hb1 h1.lt
  have gbel := hbel.trans (hb1.mono hbel.size)
  have HA : Hid (∀ b o s, A = some ⟨b, o, s⟩ → w.heap.size + 3 ≤ b) := fun b o s h => by have := hA b o s h; simpa using this
  clear h0 h1 hbel hb1 hA hmc hml
  go_wp2_with (refine wpList_storeA rfl rfl 36 (.tmp 4) (.tmp 9) rfl ty36 (w.heap.size + 2) 0 rfl (rdc (.slice A bs.length c) ((p : Int) + (n : Int)) x) rfl 36 _ g1 rfl (by rw [rd_len]; omega) (rdc_one _ _ _ _ _) ?_; simp only [rd_spl])
  refine bodyPost_ret (v := .tuple #[.agg (rdc (.slice A bs.length c) ((p : Int) + (n : Int)) x).toArray, .string ⟨t.toArray⟩]) (results_cellA2 rfl ty36 _ _ (w.heap.size + 2) 36 (rdc (.slice A bs.length c) ((p : Int) + (n : Int)) x) rfl g1.setRow rfl _ rfl) rfl ⟨A, c, rfl, ?_, hlc, hcm, fun b o s h => by have := HA.out b o s h; omega, below_setRow gbel (by omega) _⟩
  exact hsl.from_ HA.out (fun b o hb => cell_setRow_ne _ _ _ _ _ (by omega))
set_option maxRecDepth 100000 in
set_option maxHeartbeats 1000000 in
theorem readList_ok (B : Option Addr) (l d : Nat) (bs : List UInt8) (p : Nat) (many most : Int) (w : World) (hl : bs.length = l) (hb : Sl w B (bcells bs)) (hld : l ≤ d) (h47 : l ≤ 140737488355328) (hp : p ≤ l) (hl40 : l ≤ 1099511627776) (tl : List (List UInt8)) (n x : Nat) (hX : listS (bs.drop p) many most = (tl, n, x)) :
    Calls Try.prog 17 #[.agg (rdc (.slice B l d) p 0).toArray, .int .i64 many, .int .i64 most] w (RDLP bs ((p : Int) + (n : Int)) x tl w) := by
  have HL : Hid (bs.length = l) := hl
  have HX : Hid (listS (bs.drop p) many most = (tl, n, x)) := hX
  have h0 : At ((((w.alloc (.cells (rdc (.slice B l d) p 0).toArray 36)).alloc (.cells #[.int .i64 many] 3)).alloc (.cells #[.int .i64 most] 3)).alloc (.cells (rdc (.slice none 0 0) 0 0).toArray 36)) w.heap.size 36 (rdc (.slice B l d) p 0) := (((At.new_ w _ 36 _ rfl).alloc _).alloc _).alloc _
  have hm : At ((((w.alloc (.cells (rdc (.slice B l d) p 0).toArray 36)).alloc (.cells #[.int .i64 many] 3)).alloc (.cells #[.int .i64 most] 3)).alloc (.cells (rdc (.slice none 0 0) 0 0).toArray 36)) (w.heap.size + 1) 3 [.int .i64 many] := ((At.new_ _ _ 3 _ (by simp)).alloc _).alloc _
  have hn : At ((((w.alloc (.cells (rdc (.slice B l d) p 0).toArray 36)).alloc (.cells #[.int .i64 many] 3)).alloc (.cells #[.int .i64 most] 3)).alloc (.cells (rdc (.slice none 0 0) 0 0).toArray 36)) (w.heap.size + 2) 3 [.int .i64 most] := (At.new_ _ _ 3 _ (by simp)).alloc _
  have h1 : At ((((w.alloc (.cells (rdc (.slice B l d) p 0).toArray 36)).alloc (.cells #[.int .i64 many] 3)).alloc (.cells #[.int .i64 most] 3)).alloc (.cells (rdc (.slice none 0 0) 0 0).toArray 36)) (w.heap.size + 3) 36 (rdc (.slice none 0 0) 0 0) := At.new_ _ _ 36 _ (by simp)
  have hbel : Below w.heap.size w ((((w.alloc (.cells (rdc (.slice B l d) p 0).toArray 36)).alloc (.cells #[.int .i64 many] 3)).alloc (.cells #[.int .i64 most] 3)).alloc (.cells (rdc (.slice none 0 0) 0 0).toArray 36)) := ((((Below.refl _ _).alloc (Nat.le_refl _) _).alloc (by simp) _).alloc (by simp; omega) _).alloc (by simp; omega) _
  have hmc := (hm.cell 0).trans rfl
  have hml := hm.lt
  have hnc := (hn.cell 0).trans rfl
  have hnl := hn.lt
  clear hl hX hm hn
  go_enter Try.func17, Try.ntmps17
  go_wp2_with (refine wpList_loadA rfl 36 (.tmp 3) rfl ty36 w.heap.size 0 rfl 36 _ h0 (rdc (.slice B l d) p 0) rfl (all_at _) ?_)
  refine (read_list_ok B l d bs p many most (w.heap.size + 1) (w.heap.size + 2) _ HL.out (hb.below hbel) hld h47 hp hl40 hmc hnc hml hnl tl n x HX.out).mono ?_
  rintro e w1 ⟨A, c, V, ss, rfl, hsl, hlc, hcm, hA, hos, htl, hb1⟩
  have g1 := h1.below hb1 h1.lt
  have gbel := hbel.trans (hb1.mono hbel.size)
  have HA : Hid (∀ b o s, A = some ⟨b, o, s⟩ → w.heap.size + 4 ≤ b) := fun b o s h => by have := hA b o s h; simpa using this
  have HTL : Hid (sbytes ss = tl) := htl
  have HOS : Hid (OwS (w.heap.size + 4) w1 V ss) := hos.mono (by simp)
  clear h0 h1 hbel hb1 hA hmc hml hnc hnl htl hos
  go_wp2_with (refine wpList_storeA rfl rfl 36 (.tmp 6) (.tmp 11) rfl ty36 (w.heap.size + 3) 0 rfl (rdc (.slice A bs.length c) ((p : Int) + (n : Int)) x) rfl 36 _ g1 rfl (by rw [rd_len]; omega) (rdc_one _ _ _ _ _) ?_; simp only [rd_spl])
  refine bodyPost_ret (v := .tuple #[.agg (rdc (.slice A bs.length c) ((p : Int) + (n : Int)) x).toArray, V]) (results_cellA2 rfl ty36 _ _ (w.heap.size + 3) 36 (rdc (.slice A bs.length c) ((p : Int) + (n : Int)) x) rfl g1.setRow rfl _ rfl) rfl ⟨A, c, V, ss, rfl, ?_, hlc, hcm, fun b o s h => by have := HA.out b o s h; omega, ?_, HTL.out, below_setRow gbel (by omega) _⟩
  · exact hsl.from_ HA.out (fun b o hb => cell_setRow_ne _ _ _ _ _ (by omega))
  · exact OwS.mono (own_setRow HOS.out (by omega) _) (by omega)
end Go.Proofs.Ytpbldkfoldjocaa
