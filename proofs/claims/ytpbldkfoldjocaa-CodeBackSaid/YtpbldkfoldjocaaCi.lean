/- Stores whose world is left open; the known answers of layer 2. -/
import Derived.Test.YtpbldkfoldjocaaCh
namespace Go.Proofs.Ytpbldkfoldjocaa
open Go.RowKit
open Cod
/-- What a change of one block alone leaves. -/
structure Only (g : Nat) (w w' : World) : Prop where
  heap : ∀ b, b ≠ g → w'.heap[b]? = w.heap[b]?
  size : w'.heap.size = w.heap.size
  below : ∀ B w0, Below B w0 w → B ≤ g → Below B w0 w'
theorem Only.cell {g : Nat} {w w' : World} (h : Only g w w') (b o : Nat) (hb : b ≠ g) : w'.cell? ⟨b, o, none⟩ = w.cell? ⟨b, o, none⟩ := World.cell?_of_block (w := w) (a := ⟨b, o, none⟩) (h.heap b hb)
theorem Only.at_ {g b : Nat} {w w' : World} (h : Only g w w') {t : TypeId} {cs : List Value} (ha : At w b t cs) (hb : b ≠ g) : At w' b t cs := (h.heap b hb).trans ha
theorem Only.sl {g base : Nat} {w w' : World} (h : Only g w w') {A : Option Addr} {cs : List Value} (hs : Sl w A cs) (hA : ∀ b o s, A = some ⟨b, o, s⟩ → base ≤ b) (hg : g < base) : Sl w' A cs :=
  hs.from_ hA (fun b o hb => h.cell b o (by omega))
/-- A slice of blocks that were there. -/
theorem Only.slo {g base : Nat} {w0 w w' : World} (h : Only g w w') {A : Option Addr} {cs : List Value} (hs : Sl w0 A cs) (hb : Below base w0 w) (h0 : base = w0.heap.size) (hg : base ≤ g) : Sl w' A cs :=
  hs.below (h0 ▸ h.below _ _ hb hg)
theorem Only.setRow {w : World} (g : Nat) (cs : Array Value) : Only g w (w.setRow g cs) :=
  ⟨fun b hb => setRow_other w g b cs hb, by simp, fun _ _ h hg => below_setRow h hg cs⟩
theorem Only.trans {g : Nat} {w w' w'' : World} (h : Only g w w') (h' : Only g w' w'') : Only g w w'' :=
  ⟨fun b hb => (h'.heap b hb).trans (h.heap b hb), h'.size.trans h.size, fun B w0 hb hg => h'.below B w0 (h.below B w0 hb hg) hg⟩
theorem wpList_storeB {P : Program} {ops : Array Oper} {rest : List Oper} {op : Oper} {a : Act} {w : World} {Q : Exit → Act → World → Prop} (hgd : op.guard = none) (hdst : op.dst = none) (ty : TypeId) (x y : Operand) (ho : op.op = .store ty x y)
    {n : Nat} (T : AggTy P ty n) (g : Nat) (hx : a.eval x = .pointer (some ⟨g, 0, none⟩)) (vs : List Value) (hy : a.eval y = .agg vs.toArray) (t : TypeId) (cur : List Value) (hg : At w g t cur)
    (hl : vs.length = n) (hc : cur.length = n) (h1 : ∀ v ∈ vs, v.oneCell' = true)
    (h : ∀ w', At w' g t vs → Only g w w' → wpList P ops Q rest a w') : wpList P ops Q (op :: rest) a w :=
  wpList_storeA hgd hdst ty x y ho T g 0 hx vs hy t cur hg hl (by omega) h1 (by
    have e : spl cur 0 vs = vs := by simp [spl, hl, ← hc]
    rw [e]
    exact h _ hg.setRow (Only.setRow g _))
theorem e300 : enc 300 = [172, 2] := by decide
theorem thay : encT [104, 97, 121] = [3, 104, 97, 121] := by decide
theorem num300 (w : World) : Calls Try.prog 9 #[.slice none 0 0, .int .i64 300] w fun e w' => ∃ A c, e = .returned (.tuple #[.slice A 2 c, .int .i64 0]) ∧ Sl w' A (bcells [172, 2]) ∧ 2 ≤ c ∧ Below w.heap.size w w' :=
  (num_any none 0 0 [] 300 w rfl Sl.nil (by omega) (by omega)).mono fun e w' ⟨v, h1, h2, h3⟩ => by
    rw [List.nil_append, e300] at h2
    obtain ⟨A, c, rfl, h4, h5, _⟩ := h2.slice
    exact ⟨A, c, h1, h4, h5, h3⟩
theorem texthay (w : World) : Calls Try.prog 11 #[.slice none 0 0, .string ⟨#[104, 97, 121]⟩] w fun e w' => ∃ A c, e = .returned (.slice A 4 c) ∧ Sl w' A (bcells [3, 104, 97, 121]) ∧ 4 ≤ c ∧ Below w.heap.size w w' :=
  (text_any none 0 0 [] ⟨#[104, 97, 121]⟩ w rfl Sl.nil (by decide) (by omega)).mono fun e w' ⟨v, h1, h2, h3⟩ => by
    rw [List.nil_append, show (ByteArray.mk #[104, 97, 121]).data.toList = [104, 97, 121] from rfl, thay] at h2
    obtain ⟨A, c, rfl, h4, h5, _⟩ := h2.slice
    exact ⟨A, c, h1, h4, h5, h3⟩
theorem rn300 (A : Option Addr) (c : Nat) (w : World) (hs : Sl w A (bcells [172, 2])) (hc : 2 ≤ c) :
    Calls Try.prog 15 #[.agg (rdc (.slice A 2 c) 0 0).toArray] w fun e w' => ∃ A' c', e = .returned (.tuple #[.agg (rdc (.slice A' 2 c') 2 0).toArray, .int .i64 300]) ∧ Below w.heap.size w w' :=
  (readNum_ok A 2 c [172, 2] 0 w rfl hs hc (by omega) (by omega) 300 2 0 (by decide)).mono fun e w' ⟨A', c', h1, _, _, _, _, h6⟩ => ⟨A', c', h1, h6⟩
theorem rthay (A : Option Addr) (c : Nat) (w : World) (hs : Sl w A (bcells [3, 104, 97, 121])) (hc : 4 ≤ c) :
    Calls Try.prog 16 #[.agg (rdc (.slice A 4 c) 0 0).toArray, .int .i64 9] w fun e w' => ∃ A' c', e = .returned (.tuple #[.agg (rdc (.slice A' 4 c') 4 0).toArray, .string ⟨#[104, 97, 121]⟩]) ∧ Below w.heap.size w w' :=
  (readText_ok A 4 c [3, 104, 97, 121] 0 9 w rfl hs hc (by omega) (by omega) [104, 97, 121] 4 0 (by decide)).mono fun e w' ⟨A', c', h1, _, _, _, _, h6⟩ => ⟨A', c', h1, h6⟩
theorem rnbad (A : Option Addr) (c : Nat) (w : World) (hs : Sl w A (bcells [128, 0])) (hc : 2 ≤ c) :
    Calls Try.prog 15 #[.agg (rdc (.slice A 2 c) 0 0).toArray] w fun e w' => ∃ A' c', e = .returned (.tuple #[.agg (rdc (.slice A' 2 c') 0 2).toArray, .int .i64 0]) ∧ Below w.heap.size w w' :=
  (readNum_ok A 2 c [128, 0] 0 w rfl hs hc (by omega) (by omega) 0 0 2 (by decide)).mono fun e w' ⟨A', c', h1, _, _, _, _, h6⟩ => ⟨A', c', h1, h6⟩
theorem done2 (A : Option Addr) (c : Nat) (w : World) : Calls Try.prog 19 #[.agg (rdc (.slice A 2 c) 2 0).toArray] w fun e w' => e = .returned (.int .i64 0) ∧ Below w.heap.size w w' :=
  (done_any A 2 c 2 0 w (by omega)).mono fun e w' ⟨h1, h2⟩ => ⟨h1, h2⟩
set_option maxRecDepth 100000 in
set_option maxHeartbeats 2000000 in
theorem knows_any (w : World) : Calls Try.prog 8 #[] w fun e w' => e = .returned (.bool true) ∧ Below w.heap.size w w' := by
  go_enter Try.func8, Try.ntmps8
  go_wp2_with fail
  refine (num300 _).mono ?_
  rintro e w1 ⟨A1, c1, rfl, hA1, hc1, hb1⟩
  go_wp2_with fail
  refine (texthay _).mono ?_
  rintro e w2 ⟨A2, c2, rfl, hA2, hc2, hb2⟩
  have hA12 := hA1.below hb2
  have hb12 := hb1.trans (hb2.mono hb1.size)
  clear hA1 hb1 hb2
  go_wp2_with fail
  refine (rn300 A1 c1 _ hA12 hc1).mono ?_
  rintro e w3 ⟨A3, c3, rfl, hb3⟩
  have hA13 := hA12.below hb3
  have hA23 := hA2.below hb3
  have hb13 := hb12.trans (hb3.mono hb12.size)
  clear hA12 hA2 hb12 hb3
  have k3 : At (w3.alloc (.cells (rdc (.slice none 0 0) 0 0).toArray 36)) w3.heap.size 36 (rdc (.slice none 0 0) 0 0) := At.new_ w3 _ 36 _ rfl
  have l3 : Below w3.heap.size w3 (w3.alloc (.cells (rdc (.slice none 0 0) 0 0).toArray 36)) := (Below.refl _ _).alloc (Nat.le_refl _) _
  go_wp2_with (refine wpList_storeB rfl rfl 36 (.tmp 4) (.tmp 19) rfl ty36 w3.heap.size rfl (rdc (.slice A3 2 c3) 2 0) rfl 36 _ k3 rfl rfl (rdc_one _ _ _ _ _) ?_; intro x3 kx3 ox3)
  have q3 := ox3.below _ _ l3 (Nat.le_refl _)
  have hA1x := hA13.below q3
  have hA2x := hA23.below q3
  have hbx3 := hb13.trans (q3.mono hb13.size)
  have sx3 := hbx3.size
  have s3 := kx3.lt
  clear hA13 hA23 hb13 k3 l3 ox3 q3
  generalize w3.heap.size = G3 at *
  refine (rthay A2 c2 _ hA2x hc2).mono ?_
  rintro e w4 ⟨A4, c4, rfl, hb4⟩
  have hA14 := hA1x.below hb4
  have hA24 := hA2x.below hb4
  have kx4 := kx3.below hb4 s3
  have hb14 := hbx3.trans (hb4.mono sx3)
  have s4 := hb4.size
  clear hA1x hA2x hbx3 kx3 hb4
  have k4 : At (w4.alloc (.cells (rdc (.slice none 0 0) 0 0).toArray 36)) w4.heap.size 36 (rdc (.slice none 0 0) 0 0) := At.new_ w4 _ 36 _ rfl
  have l4 : Below w4.heap.size w4 (w4.alloc (.cells (rdc (.slice none 0 0) 0 0).toArray 36)) := (Below.refl _ _).alloc (Nat.le_refl _) _
  have hnew := fun (W : World) => Sl.of_at_all (At.new_ W _ 5 (bcells [128, 0]) rfl)
  have HN : Hid (∀ W : World, Sl (W.alloc (.cells (bcells [128, 0]).toArray 5)) (some ⟨W.heap.size, 0, none⟩) (bcells [128, 0])) := hnew
  have HNB : Hid (∀ W : World, Below W.heap.size W (W.alloc (.cells (bcells [128, 0]).toArray 5))) := fun W => (Below.refl _ _).alloc (Nat.le_refl _) _
  clear hnew
  go_wp2_with (refine wpList_storeB rfl rfl 36 (.tmp 6) (.tmp 25) rfl ty36 w4.heap.size rfl (rdc (.slice A4 4 c4) 4 0) rfl 36 _ k4 rfl rfl (rdc_one _ _ _ _ _) ?_; intro x4 kx5 ox4)
  have q4 := ox4.below _ _ l4 (Nat.le_refl _)
  have hA1x := hA14.below q4
  have hA2x := hA24.below q4
  have ky3 := kx4.below q4 (by omega)
  have hbx4 := hb14.trans (q4.mono hb14.size)
  have sx4 := hbx4.size
  have s5 := kx5.lt
  clear hA14 hA24 hb14 k4 l4 ox4 kx4
  generalize w4.heap.size = G4 at *
  have n1 := HNB.out x4
  refine (rnbad (some ⟨x4.heap.size, 0, none⟩) 2 _ (HN.out x4) (by omega)).mono ?_
  rintro e w5 ⟨A5, c5, rfl, hb5⟩
  have n2 := n1.trans (hb5.mono n1.size)
  have hA15 := hA1x.below n2
  have hA25 := hA2x.below n2
  have kz3 := ky3.below n2 (by omega)
  have kz4 := kx5.below n2 s5
  have hb15 := hbx4.trans (n2.mono sx4)
  have sn := n2.size
  clear hA1x hA2x ky3 kx5 hbx4 n1 n2 hb5
  have k5 : At (w5.alloc (.cells (rdc (.slice none 0 0) 0 0).toArray 36)) w5.heap.size 36 (rdc (.slice none 0 0) 0 0) := At.new_ w5 _ 36 _ rfl
  have l5 : Below w5.heap.size w5 (w5.alloc (.cells (rdc (.slice none 0 0) 0 0).toArray 36)) := (Below.refl _ _).alloc (Nat.le_refl _) _
  go_wp2_with (refine wpList_storeB rfl rfl 36 (.tmp 8) (.tmp 31) rfl ty36 w5.heap.size rfl (rdc (.slice A5 2 c5) 0 2) rfl 36 _ k5 rfl rfl (rdc_one _ _ _ _ _) ?_; intro x5 kv5 ox5; have q5 := ox5.below _ _ l5 (Nat.le_refl _); have g1 := run_str (P := Try.prog) x5 23 9 5 underBytes underU8 underStr A1 [172, 2] 2 c1 rfl (hA15.below q5); have g2 := run_str (P := Try.prog) x5 23 9 5 underBytes underU8 underStr A2 [3, 104, 97, 121] 4 c2 rfl (hA25.below q5); have m3 := kz3.below q5 (by omega); have m4 := kz4.below q5 (by omega); obtain ⟨u0, u1, u2, _, _, _⟩ := rd_cells m3)
  refine (done2 A3 c3 _).mono ?_
  rintro e w6 ⟨rfl, hb6⟩
  have hbx5 := hb15.trans (q5.mono hb15.size)
  have hend := hbx5.trans (hb6.mono hbx5.size)
  obtain ⟨_, v1, _, _, _, _⟩ := rd_cells (m4.below hb6 m4.lt)
  obtain ⟨_, _, v2, _, _, _⟩ := rd_cells (kv5.below hb6 kv5.lt)
  clear g1 g2 u0 u1 u2 m3 m4 kv5 kz3 kz4 hA15 hA25
  go_wp2_with fail
  go_ret
  exact ⟨rfl, hend⟩
end Go.Proofs.Ytpbldkfoldjocaa
