import Derived.Test.YtfaheebinkmjlaaDoorE4
import Derived.Test.YtfaheebinkmjlaaDoorE3
namespace Go.Proofs.YtfaheebinkmjlaaDoor
open Go.RowKit
open Sha
/-- The parts that count (of 1000 bytes at most), joined. -/
def joined (p : Nat → List UInt8) : Nat → List UInt8
  | 0 => []
  | k + 1 => if 1000 < (p k).length then joined p k else joined p k ++ p k
theorem joined_len (p : Nat → List UInt8) : ∀ k, (joined p k).length ≤ 1000 * k
  | 0 => by simp [joined]
  | k + 1 => by
    have := joined_len p k
    unfold joined
    split
    · omega
    · rw [List.length_append]; omega
theorem own_below {B : Nat} {e : TypeId} {k : Nat} {v : Value} {n : Nat} {xs : List Value} {w w' : World} (h : w.ownsRow B e k v n xs) (hb : Below w.heap.size w w') : w'.ownsRow B e k v n xs :=
  h.kept (row := none) ⟨hb.os, hb.tape, hb.output, hb.size, fun j hj _ => hb.block j hj⟩ (by cases hv : v.ownBlock <;> simp)
theorem own_setRow {B G : Nat} {e : TypeId} {k : Nat} {v : Value} {n : Nat} {xs : List Value} {w : World} (h : w.ownsRow B e k v n xs) (hG : G < B) (cs : Array Value) : (w.setRow G cs).ownsRow B e k v n xs :=
  h.kept (row := some G) ⟨rfl, rfl, rfl, by simp, fun j hj hne => setRow_other w G j cs (by simpa using hne)⟩ (by
    cases hv : v.ownBlock with
    | none => exact .inl rfl
    | some g => exact .inr (by have := (h.lt g hv).1; simp; omega))
theorem step_loadA {P : Program} {ops : Array Oper} {op : Oper} {a : Act} {w : World} {K : Act → World → Prop} {Q : Exit → Act → World → Prop} {E' : Prop} (hgd : op.guard = none) (ty : TypeId) (x : Operand) (ho : op.op = .load ty x)
    {n : Nat} (T : AggTy P ty n) (g o : Nat) (hx : a.eval x = .pointer (some ⟨g, o, none⟩)) (t : TypeId) (cur : List Value) (hg : At w g t cur) (vs : List Value) (hl : vs.length = n) (hv : ∀ j, j < vs.length → cur[o + j]? = vs[j]?)
    (h : K (a.put op.dst (.agg vs.toArray)) w) : if Region.wanted op (yielded ops a.tmps) = true then Oper.wp P op a w K Q else E' := by
  have hw : Region.wanted op (yielded ops a.tmps) = true := by simp [Region.wanted, hgd]
  rw [if_pos hw]
  unfold Oper.wp execOp
  simp only [ho, hx, Instr.loadAt, Instr.sureAddr, Sem.run_bind, Sem.run_pure, Result.andThen_ok, run_loadA T w g o t cur hg vs hl hv]
  exact h
theorem step_storeA {P : Program} {ops : Array Oper} {op : Oper} {a : Act} {w : World} {K : Act → World → Prop} {Q : Exit → Act → World → Prop} {E' : Prop} (hgd : op.guard = none) (hdst : op.dst = none) (ty : TypeId) (x y : Operand) (ho : op.op = .store ty x y)
    {n : Nat} (T : AggTy P ty n) (g k : Nat) (hx : a.eval x = .pointer (some ⟨g, k, none⟩)) (vs : List Value) (hy : a.eval y = .agg vs.toArray) (t : TypeId) (cur : List Value) (hg : At w g t cur)
    (hl : vs.length = n) (hfit : k + n ≤ cur.length) (h1 : ∀ v ∈ vs, v.oneCell' = true)
    (h : K a (w.setRow g (spl cur k vs).toArray)) : if Region.wanted op (yielded ops a.tmps) = true then Oper.wp P op a w K Q else E' := by
  have hw : Region.wanted op (yielded ops a.tmps) = true := by simp [Region.wanted, hgd]
  rw [if_pos hw]
  exact wp_store_row ty x y ho g k hx vs hy t cur hg (by rw [hl]; exact T.2) (by omega) h1 (by simpa [hdst, Act.put, spl] using h)
theorem run_store30 (w : World) (G : Nat) (s : St) (r : Value) (n : Int) (s2 : St) (A2 : Option Addr) (m2 c2 : Nat) (n2 : Int) (h : At w G 30 (stc s r n)) :
    (storeCells ⟨G, 0, none⟩ (stc s2 (.slice A2 m2 c2) n2)).run Tryd.prog w = .ok () (w.setRow G (stc s2 (.slice A2 m2 c2) n2).toArray) := by
  have := run_storeCells_at Tryd.prog G 0 30 (stc s2 (.slice A2 m2 c2) n2) 0 (stc s r n).toArray w h (by simp [stc_len]) (stc_one _ _ _ _ _)
  have hd : List.drop 10 (stc s r n) = [] := rfl
  simpa [stc_len, hd] using this
set_option maxRecDepth 100000 in
set_option maxHeartbeats 4000000 in
theorem lawParts (A : Option Addr) (n c b o : Nat) (p : Nat → List UInt8) (Ar : Nat → Option Addr) (L C : Nat → Nat) (w : World) (hT : Tab w) (hn63 : n ≤ 9223372036854775807)
    (hA : 0 < n → A = some ⟨b, o, none⟩ ∧ b < w.heap.size)
    (hR : ∀ r, r < n → w.cell? ⟨b, o + r, none⟩ = some (.slice (Ar r) (L r) (C r)) ∧ (p r).length = L r ∧ L r ≤ C r ∧ C r ≤ 9223372036854775807 ∧ Sl w (Ar r) (bcells (p r))) :
    Calls Tryd.prog 4 #[.slice A n c] w fun e w' => e = .returned (.bool true) ∧ Below w.heap.size w w' := by
  have hpos := hT.pos
  have HA : Hid (0 < n → A = some ⟨b, o, none⟩ ∧ b < w.heap.size) := hA
  have HR : Hid (∀ r, r < n → w.cell? ⟨b, o + r, none⟩ = some (.slice (Ar r) (L r) (C r)) ∧ (p r).length = L r ∧ L r ≤ C r ∧ C r ≤ 9223372036854775807 ∧ Sl w (Ar r) (bcells (p r))) := hR
  clear hA hR
  go_enter Tryd.func4, Tryd.ntmps4
  go_wp2_with fail
  refine (new_any _).mono ?_
  rintro e w1 ⟨rfl, hb1⟩
  have k0 : At (w1.alloc (.cells (stc ⟨0, 0, 0, 0, 0, 0, 0, 0⟩ (.slice none 0 0) 0).toArray 30)) w1.heap.size 30 (stc ⟨0, 0, 0, 0, 0, 0, 0, 0⟩ (.slice none 0 0) 0) := At.new_ w1 _ 30 _ rfl
  have s1 := hb1.size
  have q0 : Below w.heap.size w (w1.alloc (.cells (stc ⟨0, 0, 0, 0, 0, 0, 0, 0⟩ (.slice none 0 0) 0).toArray 30)) := hb1.alloc s1 _
  go_wp2_with (refine wpList_storeA rfl rfl 30 (.tmp 3) (.tmp 6) rfl ty30 w1.heap.size 0 rfl (stc iv (.slice none 0 0) 0) rfl 30 _ k0 rfl (by rw [stc_len]; omega) (stc_one _ _ _ _ _) ?_; simp only [stc_spl_all])
  have kS : At ((w1.alloc (.cells (stc ⟨0, 0, 0, 0, 0, 0, 0, 0⟩ (.slice none 0 0) 0).toArray 30)).setRow w1.heap.size (stc iv (.slice none 0 0) 0).toArray) w1.heap.size 30 (stc iv (.slice none 0 0) 0) := k0.setRow
  have q1 : Below w.heap.size w ((w1.alloc (.cells (stc ⟨0, 0, 0, 0, 0, 0, 0, 0⟩ (.slice none 0 0) 0).toArray 30)).setRow w1.heap.size (stc iv (.slice none 0 0) 0).toArray) := below_setRow q0 s1 _
  clear k0 q0 hb1
  change Code.wp _ _ _ _ ((w1.alloc (.cells (stc ⟨0, 0, 0, 0, 0, 0, 0, 0⟩ (.slice none 0 0) 0).toArray 30)).setRow w1.heap.size (stc iv (.slice none 0 0) 0).toArray)
  generalize (w1.alloc (.cells (stc ⟨0, 0, 0, 0, 0, 0, 0, 0⟩ (.slice none 0 0) 0).toArray 30)).setRow w1.heap.size (stc iv (.slice none 0 0) 0).toArray = W at *
  generalize w1.heap.size = G at *
  go_loopw [4, 5] (fun v i wr => ∃ (k : Nat) (A' : Option Addr) (m' c' : Nat), k ≤ n ∧ k ≤ 20 ∧ i = .int .i64 (k : Int) ∧ At wr G 30 (stc (absorb iv (joined p k)).1 (.slice A' m' c') ((joined p k).length : Int)) ∧ Sl wr A' (bcells (absorb iv (joined p k)).2) ∧
      Hid ((absorb iv (joined p k)).2.length = m') ∧ wr.ownsRow (G + 1) 5 1 v (joined p k).length (bcells (joined p k)) ∧ Below w.heap.size w wr)
    (fun _ i _ => 20 - (intOf i).toNat)
  case atStart => exact ⟨0, none, 0, 0, by omega, by omega, rfl, kS, Sl.nil, rfl, World.ownsRow_nil _ _ _ _, q1⟩
  case round =>
    clear kS q1
    obtain ⟨k, A', m', c', hkn, hk20, rfl, kS, hsl, HM, hown, hbel⟩ := hrel
    by_cases h1 : k < n
    · by_cases h2 : k < 20
      · obtain ⟨rfl, hbb⟩ := HA.out (by omega)
        obtain ⟨hc, hpl, hlc, hcm, hbs⟩ := HR.out k h1
        have hcell : wr.cell? ⟨b, o + k, none⟩ = some (.slice (Ar k) (L k) (C k)) := (hbel.cell (p := ⟨b, o + k, none⟩) hbb).trans hc
        have HPL : Hid ((p k).length = L k) := hpl
        have hbs2 := hbs.below hbel
        have HJ : Hid (joined p (k + 1) = if 1000 < (p k).length then joined p k else joined p k ++ p k) := rfl
        have hJ20 : (joined p k).length ≤ 20000 := by have := joined_len p k; omega
        clear hpl
        generalize p k = bs at *
        generalize Ar k = B at *
        generalize L k = l at *
        generalize C k = d at *
        generalize joined p k = J at *
        by_cases h3 : 1000 < l
        · go_wp2_with fail
          go_roundw
          case rel =>
            have hj : joined p (k + 1) = J := by rw [HJ.out, if_pos (by rw [HPL.out]; exact h3)]
            exact ⟨k + 1, A', m', c', by omega, by omega, by go_num, hj ▸ kS, hj ▸ hsl, hj ▸ HM, hj ▸ hown, hbel⟩
          case measure => simp [intOf]; omega
        · have o0 : (wr.alloc (.cells #[] 5)).ownsRow wr.heap.size 5 1 (.slice (some ⟨wr.heap.size, 0, none⟩) 0 0) 0 [] := own_lit wr wr.heap.size 5 [] 0 rfl (Nat.le_refl _) (by omega)
          have h0 : Below wr.heap.size wr (wr.alloc (.cells #[] 5)) := (Below.refl _ _).alloc (Nat.le_refl _) _
          have hGl := kS.lt
          have hws := hbel.size
          have hbw : b < wr.heap.size := by omega
          have HOK : Hid (okN m' (J.length : Int)) := okN_abs J J.length m' rfl HM.out (by omega)
          have HT : Hid (∀ wx, Below wr.heap.size wr wx → Tab wx) := fun wx h => (hT.below hbel hpos).below h (by omega)
          have HJ' : Hid (joined p (k + 1) = J ++ bs) := by show _ = _; rw [HJ.out, if_neg (by rw [HPL.out]; exact h3)]
          have HSF : Hid (∀ wx, Below wr.heap.size wr wx → wx.cell? ⟨b, o + k, none⟩ = some (.slice B l d)) := fun wx h => (h.cell (p := ⟨b, o + k, none⟩) hbw).trans hcell
          clear HJ
          have k0 : wr.cell? ⟨G, 0, none⟩ = some (.int .u32 (un (absorb iv J).1.a)) := (kS.cell 0).trans rfl
          have k1 : wr.cell? ⟨G, 1, none⟩ = some (.int .u32 (un (absorb iv J).1.b)) := (kS.cell 1).trans rfl
          have k2 : wr.cell? ⟨G, 2, none⟩ = some (.int .u32 (un (absorb iv J).1.c)) := (kS.cell 2).trans rfl
          have k3 : wr.cell? ⟨G, 3, none⟩ = some (.int .u32 (un (absorb iv J).1.d)) := (kS.cell 3).trans rfl
          have k4 : wr.cell? ⟨G, 4, none⟩ = some (.int .u32 (un (absorb iv J).1.e)) := (kS.cell 4).trans rfl
          have k5 : wr.cell? ⟨G, 5, none⟩ = some (.int .u32 (un (absorb iv J).1.f)) := (kS.cell 5).trans rfl
          have k6 : wr.cell? ⟨G, 6, none⟩ = some (.int .u32 (un (absorb iv J).1.g)) := (kS.cell 6).trans rfl
          have k7 : wr.cell? ⟨G, 7, none⟩ = some (.int .u32 (un (absorb iv J).1.h)) := (kS.cell 7).trans rfl
          have k8 : wr.cell? ⟨G, 8, none⟩ = some (.slice A' m' c') := (kS.cell 8).trans rfl
          have k9 : wr.cell? ⟨G, 9, none⟩ = some (.int .i64 (J.length : Int)) := (kS.cell 9).trans rfl
          go_wp2_with fail
          go_region_law (first
            | (refine step_app rfl (.tmp 24) (.tmp 28) 22 rfl bytesTy wr.heap.size (.slice (some ⟨wr.heap.size, 0, none⟩) 0 0) 0 [] (by rfl) o0.drew B l d (bcells bs) (by rfl) (by rw [bcells_len]; exact HPL.out) (hbs2.below h0).drew (bcells_one _) (by omega) (by simp) ?_; intro v1 w2 hown2 hgr2 hbl2; have hb2 := below_app h0.drew hgr2 o0.drew (Nat.le_refl _) (by simp); have kS2 := kS.below hb2 hGl; have hs2 := hb2.size; simp only [Nat.zero_add, List.nil_append] at hown2; obtain ⟨A2, c2, rfl, hsl2, hlc2, _, hcm2, _⟩ := own_slice hown2; have j0 : w2.cell? ⟨G, 0, none⟩ = some (.int .u32 (un (absorb iv J).1.a)) := (kS2.cell 0).trans rfl; have j1 : w2.cell? ⟨G, 1, none⟩ = some (.int .u32 (un (absorb iv J).1.b)) := (kS2.cell 1).trans rfl; have j2 : w2.cell? ⟨G, 2, none⟩ = some (.int .u32 (un (absorb iv J).1.c)) := (kS2.cell 2).trans rfl; have j3 : w2.cell? ⟨G, 3, none⟩ = some (.int .u32 (un (absorb iv J).1.d)) := (kS2.cell 3).trans rfl; have j4 : w2.cell? ⟨G, 4, none⟩ = some (.int .u32 (un (absorb iv J).1.e)) := (kS2.cell 4).trans rfl; have j5 : w2.cell? ⟨G, 5, none⟩ = some (.int .u32 (un (absorb iv J).1.f)) := (kS2.cell 5).trans rfl; have j6 : w2.cell? ⟨G, 6, none⟩ = some (.int .u32 (un (absorb iv J).1.g)) := (kS2.cell 6).trans rfl; have j7 : w2.cell? ⟨G, 7, none⟩ = some (.int .u32 (un (absorb iv J).1.h)) := (kS2.cell 7).trans rfl; have j8 : w2.cell? ⟨G, 8, none⟩ = some (.slice A' m' c') := (kS2.cell 8).trans rfl; have j9 : w2.cell? ⟨G, 9, none⟩ = some (.int .i64 (J.length : Int)) := (kS2.cell 9).trans rfl)
            | (rw [if_pos (show Region.wanted _ _ = true by simp [Region.wanted])]; go_simp; go_at_call 12; refine (add_own (absorb iv J).1 A' m' c' (J.length : Int) (absorb iv J).2 A2 l c2 bs w2 (HT.out _ hb2) HM.out (hsl.below hb2) HPL.out hsl2 HOK.out (by omega) hlc2 (by unfold maxLen at hcm2; omega)).mono ?_; rintro e w3 ⟨A3, m3, c3, rfl, hA3, hm3, hfr, hb3⟩; dsimp only; have kS3 := kS2.below hb3 kS2.lt; have hlen := stc_len (absorb (absorb iv J).1 ((absorb iv J).2 ++ bs)).1 (.slice A3 m3 c3) ((J.length : Int) + (l : Int)); have hst := run_store30 w3 G _ _ _ (absorb (absorb iv J).1 ((absorb iv J).2 ++ bs)).1 A3 m3 c3 ((J.length : Int) + (l : Int)) kS3; have hb3w := hb2.trans (hb3.mono hs2)))
          all_goals
            obtain ⟨JB, HJB⟩ : ∃ JB, Hid (J ++ bs = JB) := ⟨_, rfl⟩
            obtain ⟨T, HTl⟩ : ∃ T, Hid (JB.length = T) := ⟨_, rfl⟩
            have eN : J.length + l = T := by rw [← HTl.out, ← HJB.out, List.length_append, HPL.out]
            have eT : (J.length : Int) + (l : Int) = (T : Int) := by omega
            have hT21 : T ≤ 21000 := by omega
            have hG2 := kS2.lt
            rw [← absorb_app, HJB.out] at hA3 hm3
            have HM3 : Hid ((absorb iv JB).2.length = m3) := hm3
            have hm64 : m3 = T % 64 := by rw [← hm3, absorb_len, HTl.out]
            have hmq : ((m3 : Int) == (T : Int) % 64) = true := by simp [hm64]
            have hml : (m3 : Int) = (T : Int) % 64 := by omega
            have HML : Hid ((m3 : Int) = (T : Int) % 64) := hml
            have kS4 : At (w3.setRow G (stc (absorb iv JB).1 (.slice A3 m3 c3) (T : Int)).toArray) G 30 (stc (absorb iv JB).1 (.slice A3 m3 c3) (T : Int)) := kS3.setRow
            have hA4 : Sl (w3.setRow G (stc (absorb iv JB).1 (.slice A3 m3 c3) (T : Int)).toArray) A3 (bcells (absorb iv JB).2) := hA3.from_ hfr (fun b o hb => cell_setRow_ne _ _ _ _ _ (by omega))
            have hown4 := own_setRow (own_below hown hb3w) (Nat.lt_succ_self G) (stc (absorb iv JB).1 (.slice A3 m3 c3) (T : Int)).toArray
            have hbel4 := below_setRow (hbel.trans (hb3w.mono hws)) s1 (stc (absorb iv JB).1 (.slice A3 m3 c3) (T : Int)).toArray
            rw [← absorb_app, HJB.out, eT]
            clear hst hlen kS3 hA3 hb3w hb3 hm3 hm64 hml eT
            generalize w3.setRow G (stc (absorb iv JB).1 (.slice A3 m3 c3) (T : Int)).toArray = W3 at *
            have hs4 := hbs.below hbel4
            have hc4 : W3.cell? ⟨b, o + k, none⟩ = some (.slice B l d) := (hbel4.cell (p := ⟨b, o + k, none⟩) hbb).trans hc
            have hG4 := kS4.lt
            have HLT : Hid (∀ g, u4.ownBlock = some g → G + 1 ≤ g ∧ g < w2.heap.size) := fun g h => ⟨(hown.lt g h).1, Nat.lt_of_lt_of_le (hown.lt g h).2 hs2⟩
            have HEN : Hid (J.length + l = T) := eN
            clear hown hsl hsl2 hown2 hgr2 hbl2 kS2 kS hcell hbs2 k0 k1 k2 k3 k4 k5 k6 k7 k8 k9 eN j0 j1 j2 j3 j4 j5 j6 j7 j8 j9 hc hbs hb2 h0 o0
            go_wp2_with (refine wpList_app rfl (.tmp 31) (.tmp 35) 22 rfl bytesTy (G + 1) u4 J.length (bcells J) rfl hown4 B l d (bcells bs) rfl (by rw [bcells_len]; exact HPL.out) hs4 (bcells_one _) (by omega) hG4 ?_; intro v5 w5 hown5 hgr5 hbl5; have hbel5 := below_app hbel4 hgr5 hown4 (by omega) (by omega); have kS5 : At w5 G 30 (stc (absorb iv JB).1 (.slice A3 m3 c3) (T : Int)) := (hgr5.block _ hG4 (fun h => by have := (HLT.out G (by first | exact h | exact h.symm)).1; omega)).trans kS4; rw [bcells_app, HJB.out, HEN.out] at hown5; obtain ⟨A5, c5, rfl, hsl5, hlc5, _, hcm5, _⟩ := own_slice hown5; have q0 : w5.cell? ⟨G, 0, none⟩ = some (.int .u32 (un (absorb iv JB).1.a)) := (kS5.cell 0).trans rfl; have q1 : w5.cell? ⟨G, 1, none⟩ = some (.int .u32 (un (absorb iv JB).1.b)) := (kS5.cell 1).trans rfl; have q2 : w5.cell? ⟨G, 2, none⟩ = some (.int .u32 (un (absorb iv JB).1.c)) := (kS5.cell 2).trans rfl; have q3 : w5.cell? ⟨G, 3, none⟩ = some (.int .u32 (un (absorb iv JB).1.d)) := (kS5.cell 3).trans rfl; have q4 : w5.cell? ⟨G, 4, none⟩ = some (.int .u32 (un (absorb iv JB).1.e)) := (kS5.cell 4).trans rfl; have q5 : w5.cell? ⟨G, 5, none⟩ = some (.int .u32 (un (absorb iv JB).1.f)) := (kS5.cell 5).trans rfl; have q6 : w5.cell? ⟨G, 6, none⟩ = some (.int .u32 (un (absorb iv JB).1.g)) := (kS5.cell 6).trans rfl; have q7 : w5.cell? ⟨G, 7, none⟩ = some (.int .u32 (un (absorb iv JB).1.h)) := (kS5.cell 7).trans rfl; have q8 : w5.cell? ⟨G, 8, none⟩ = some (.slice A3 m3 c3) := (kS5.cell 8).trans rfl; have q9 : w5.cell? ⟨G, 9, none⟩ = some (.int .i64 (T : Int)) := (kS5.cell 9).trans rfl)
            have hA5 : Sl w5 A3 (bcells (absorb iv JB).2) := fun hne => by
              obtain ⟨b', o', e, hlt, hcc⟩ := hA4.get (j := 0) (List.length_pos_iff.2 hne)
              exact ⟨b', o', e, fun j u hu => (World.cell?_of_block (w := W3) (a := ⟨b', o' + j, none⟩) (hgr5.block b' hlt (fun h => by have h1 := (HLT.out b' (by first | exact h | exact h.symm)).2; have h2 := hfr b' o' none e; omega))).trans (hcc j u hu)⟩
            refine (end_ok (absorb iv JB).1 A3 m3 c3 T (absorb iv JB).2 w5 (hT.below hbel5 hpos) HM3.out hA5 (okN_abs JB T m3 HTl.out HM3.out (by omega))).mono ?_
            rintro e w6 ⟨rfl, hb6⟩
            clear q0 q1 q2 q3 q4 q5 q6 q7 q8 q9 hown4 kS4 hA4 hgr5 hbl5 hs4 hc4 hbel4
            go_wp2_with fail
            refine (refSum_any A5 T c5 JB _ HTl.out (hsl5.below hb6) (by omega)).mono ?_
            rintro e w7 ⟨rfl, hb7⟩
            rw [show digestSt (absorb iv JB).1 (absorb iv JB).2 T = sha JB by rw [← HTl.out]; rfl]
            obtain ⟨S, hS⟩ : ∃ S : ByteArray, S = ⟨(sha JB).toArray⟩ := ⟨_, rfl⟩
            rw [← hS]
            clear hS
            have hb67 := hb6.trans (hb7.mono hb6.size)
            have kS7 := kS5.below hb67 kS5.lt
            have hA7 := hA5.below hb67
            have hown7 := own_below hown5 hb67
            have hbel7 := hbel5.trans (hb67.mono hbel5.size)
            clear hb6 hb7 hb67 kS5 hA5 hown5 hbel5 hsl5
            go_wp2_with fail
            go_roundw
            case rel =>
              have hj : joined p (k + 1) = JB := HJ'.out.trans HJB.out
              refine ⟨k + 1, A3, m3, c3, by omega, by omega, by go_num, ?_, ?_, ?_, ?_, hbel7⟩
              · rw [hj, HTl.out]; exact kS7
              · rw [hj]; exact hA7
              · rw [hj]; exact HM3
              · rw [hj, HTl.out]; exact hown7
            case measure => simp [intOf]; omega
      · go_wp2_with fail
        refine (knows_any _ (hT.below hbel hpos)).mono ?_
        rintro e w6 ⟨rfl, hb6⟩
        go_wp2_with fail
        go_ret
        exact ⟨rfl, hbel.trans (hb6.mono hbel.size)⟩
    · go_wp2_with fail
      refine (knows_any _ (hT.below hbel hpos)).mono ?_
      rintro e w6 ⟨rfl, hb6⟩
      go_wp2_with fail
      go_ret
      exact ⟨rfl, hbel.trans (hb6.mono hbel.size)⟩
end Go.Proofs.YtfaheebinkmjlaaDoor
