/- Texts of one proof, joined. -/
import Derived.Test.YtihkfomldbjpoaaDoorJ2
/- rubrickref08: Between, bytes, top. -/
namespace Go.Proofs.YtihkfomldbjpoaaDoor.ClW
open Go.RowKit TreeW ConsW TrW ClashW
open ShaW Sha
/-- What is told of a clash: that of the pair, or none; in rows from block 'base' on. -/
structure TC (base : Nat) (w : World) (o : Option (List UInt8 × List UInt8)) (A : Option Addr) (n c : Nat) (B : Option Addr) (m d : Nat) (b : Bool) : Prop where
  yes : b = o.isSome
  ex : ∃ x y, (o = some (x, y) ∨ (o = none ∧ x = [] ∧ y = [])) ∧ x.length = n ∧ y.length = m ∧ Sl w A (bcells x) ∧ Sl w B (bcells y) ∧ n ≤ c ∧ c ≤ maxLen ∧ m ≤ d ∧ d ≤ maxLen
  newA : ∀ b o s, A = some ⟨b, o, s⟩ → base ≤ b
  newB : ∀ b o s, B = some ⟨b, o, s⟩ → base ≤ b
theorem TC.keep {base : Nat} {w w' : World} {o : Option (List UInt8 × List UInt8)} {A : Option Addr} {n c : Nat} {B : Option Addr} {m d : Nat} {b : Bool} (h : TC base w o A n c B m d b) (hA : ∀ cs, Sl w A cs → Sl w' A cs) (hB : ∀ cs, Sl w B cs → Sl w' B cs) : TC base w' o A n c B m d b :=
  ⟨h.yes, by obtain ⟨x, y, h1, h2, h3, h4, h5, h6⟩ := h.ex; exact ⟨x, y, h1, h2, h3, hA _ h4, hB _ h5, h6⟩, h.newA, h.newB⟩
theorem TC.below {base : Nat} {w w' : World} {o : Option (List UInt8 × List UInt8)} {A : Option Addr} {n c : Nat} {B : Option Addr} {m d : Nat} {b : Bool} (h : TC base w o A n c B m d b) (hb : Below w.heap.size w w') : TC base w' o A n c B m d b :=
  h.keep (fun _ hs => hs.below hb) (fun _ hs => hs.below hb)
theorem TC.base {base base' : Nat} {w : World} {o : Option (List UInt8 × List UInt8)} {A : Option Addr} {n c : Nat} {B : Option Addr} {m d : Nat} {b : Bool} (h : TC base w o A n c B m d b) (hb : base' ≤ base) : TC base' w o A n c B m d b :=
  ⟨h.yes, h.ex, fun b o s e => Nat.le_trans hb (h.newA b o s e), fun b o s e => Nat.le_trans hb (h.newB b o s e)⟩
/-- A store into a block below them changes nothing. -/
theorem TC.only {base g : Nat} {w w' : World} {o : Option (List UInt8 × List UInt8)} {A : Option Addr} {n c : Nat} {B : Option Addr} {m d : Nat} {b : Bool} (h : TC base w o A n c B m d b) (ho : Only g w w') (hg : g < base) : TC base w' o A n c B m d b :=
  h.keep (fun _ hs => ho.sl hs h.newA hg) (fun _ hs => ho.sl hs h.newB hg)
theorem TC.none_ (base : Nat) (w : World) : TC base w none none 0 0 none 0 0 false :=
  ⟨rfl, ⟨[], [], .inr ⟨rfl, rfl, rfl⟩, rfl, rfl, Sl.nil, Sl.nil, Nat.le_refl _, Nat.zero_le _, Nat.le_refl _, Nat.zero_le _⟩, (fun _ _ _ h => by cases h), (fun _ _ _ h => by cases h)⟩
theorem results_cellA2 {P : Program} {fn : Func} {p u : Tmp} {ty : TypeId} (h : fn.results = #[.cell p ty, .tmp u]) {n : Nat} (T : AggTy P ty n) (tmps : Array Value) (w : World) (g : Nat) (t : TypeId) (cs : List Value)
    (hp : tmps.getD p undef = .pointer (some ⟨g, 0, none⟩)) (hg : At w g t cs) (hl : cs.length = n) (v : Value) (hv : tmps.getD u undef = v) : (results fn tmps).run P w = .ok (.tuple #[.agg cs.toArray, v]) w := by
  rw [results_cell_tmp h, hp, hv]
  simp [asAddr, run_loadA T w g 0 t cs hg cs hl (all_at cs)]
theorem clTy : AggTy Tryd.prog 33 2 := ⟨by kernel_rfl, by kernel_rfl⟩
theorem slices_one {A B : Option Addr} {n c l d : Nat} : ∀ v ∈ ([.slice A n c, .slice B l d] : List Value), v.oneCell' = true := by
  intro v hv
  simp at hv
  rcases hv with rfl | rfl <;> rfl
set_option maxRecDepth 1000000 in
set_option maxHeartbeats 2000000 in
theorem refBetween_any (base : Nat) (A : Option Addr) (n c : Nat) (xs : List UInt8) (B : Option Addr) (l d : Nat) (ys : List UInt8) (w : World) (hn : xs.length = n) (hA : Sl w A (bcells xs)) (hl : ys.length = l) (hB : Sl w B (bcells ys))
    (hn40 : n ≤ 1000000000000) (hl40 : l ≤ 1000000000000) (hnc : n ≤ c) (hc : c ≤ maxLen) (hld : l ≤ d) (hd : d ≤ maxLen) (nA : ∀ b o s, A = some ⟨b, o, s⟩ → base ≤ b) (nB : ∀ b o s, B = some ⟨b, o, s⟩ → base ≤ b) :
    Calls Tryd.prog 17 #[.slice A n c, .slice B l d] w fun e w' => ∃ A' n' c' B' l' d' q, e = .returned (.tuple #[.agg #[.slice A' n' c', .slice B' l' d'], .bool q]) ∧ TC base w' (btw sha xs ys) A' n' c' B' l' d' q ∧ Below w.heap.size w w' := by
  have h0 : At (w.alloc (.cells #[.slice none 0 0, .slice none 0 0] 33)) w.heap.size 33 [.slice none 0 0, .slice none 0 0] := At.new_ w _ 33 _ rfl
  have b0 : Below w.heap.size w (w.alloc (.cells #[.slice none 0 0, .slice none 0 0] 33)) := (Below.refl _ _).alloc (Nat.le_refl _) _
  have HN := Lib.hid hn
  have HL := Lib.hid hl
  have hA1 := hA.below b0
  have hB1 := hB.below b0
  by_cases hy : xs ≠ ys ∧ sha xs = sha ys
  · have HR : Hid (decide (xs ≠ ys ∧ sha xs = sha ys) = true) := decide_eq_true hy
    have HB : Hid (btw sha xs ys = some (xs, ys)) := by show _ = _; unfold btw; rw [if_pos hy]
    clear hn hl hy
    go_enter Tryd.func17, Tryd.ntmps17
    go_wp2_with fail
    refine (SealW.refClash_any A n c xs B l d ys _ HN.out hA1 HL.out hB1 (by omega) (by omega)).mono ?_
    rintro e w1 ⟨rfl, hb1⟩
    rw [HR.out]
    have h1 := h0.below hb1 h0.lt
    have b1 := b0.trans (hb1.mono b0.size)
    clear h0 b0 hA1 hB1
    go_wp2_with (refine wpList_storeB rfl rfl 33 (.tmp 4) (.tmp 11) rfl clTy w.heap.size rfl [.slice A n c, .slice B l d] rfl 33 _ h1 rfl rfl slices_one ?_; intro x1 k1 o1)
    have b2 := o1.below _ _ b1 (Nat.le_refl _)
    exact bodyPost_ret (v := .tuple #[.agg #[.slice A n c, .slice B l d], .bool true]) (results_cellA2 rfl clTy _ _ w.heap.size 33 [.slice A n c, .slice B l d] rfl k1 rfl _ rfl) rfl
      ⟨A, n, c, B, l, d, true, rfl, ⟨by rw [HB.out]; rfl, ⟨xs, ys, .inl HB.out, HN.out, HL.out, hA.below b2, hB.below b2, hnc, hc, hld, hd⟩, nA, nB⟩, b2⟩
  · have HR : Hid (decide (xs ≠ ys ∧ sha xs = sha ys) = false) := decide_eq_false hy
    have HB : Hid (btw sha xs ys = none) := by show _ = _; unfold btw; rw [if_neg hy]
    clear hn hl hy
    go_enter Tryd.func17, Tryd.ntmps17
    go_wp2_with fail
    refine (SealW.refClash_any A n c xs B l d ys _ HN.out hA1 HL.out hB1 (by omega) (by omega)).mono ?_
    rintro e w1 ⟨rfl, hb1⟩
    rw [HR.out]
    have h1 := h0.below hb1 h0.lt
    have b1 := b0.trans (hb1.mono b0.size)
    clear h0 b0 hA1 hB1
    go_wp2_with (refine wpList_storeB rfl rfl 33 (.tmp 4) (.tmp 12) rfl clTy w.heap.size rfl [.slice none 0 0, .slice none 0 0] rfl 33 _ h1 rfl rfl slices_one ?_; intro x1 k1 o1)
    have b2 := o1.below _ _ b1 (Nat.le_refl _)
    exact bodyPost_ret (v := .tuple #[.agg #[.slice none 0 0, .slice none 0 0], .bool false]) (results_cellA2 rfl clTy _ _ w.heap.size 33 [.slice none 0 0, .slice none 0 0] rfl k1 rfl _ rfl) rfl
      ⟨none, 0, 0, none, 0, 0, false, rfl, by rw [HB.out]; exact TC.none_ _ _, b2⟩
/-- The bytes of a node of two digests. -/
def nb (l r : ByteArray) : List UInt8 := 1 :: (l.data.toList ++ r.data.toList)
theorem nb_len (l r : ByteArray) : (nb l r).length = l.size + r.size + 1 := by unfold nb; simp
set_option maxHeartbeats 1000000 in
theorem refBytes8 (l r : ByteArray) (w : World) (hs : l.size + r.size ≤ 1000000000000) :
    Calls Tryd.prog 42 #[.string l, .string r] w fun e w' => ∃ A' c', e = .returned (.slice A' (l.size + r.size + 1) c') ∧ Sl w' A' (bcells (nb l r)) ∧ l.size + r.size + 1 ≤ c' ∧ c' ≤ maxLen ∧ (∀ b o s, A' = some ⟨b, o, s⟩ → w.heap.size ≤ b) ∧ Below w.heap.size w w' := by
  have hsum : ¬ 9223372036854775807 < l.size + r.size := by omega
  obtain ⟨t, ht⟩ : ∃ t, l ++ r = t := ⟨_, rfl⟩
  have HT : Hid (t.data.toList = l.data.toList ++ r.data.toList) := by show _ = _; rw [← ht]; simp
  have HZ : Hid (t.size = l.size + r.size) := by show _ = _; rw [← ht]; simp
  have HZ2 : Hid (t.data.toList.length = t.size) := bsize t
  go_enter Tryd.func42, Tryd.ntmps42
  go_wp2_with (refine wpList_toBytes rfl 9 23 5 (.tmp 7) rfl SealW.underStr SealW.underBytes SealW.underU8 t rfl (by unfold maxLen; rw [HZ.out]; omega) ?_; intro A1 c1 w1 b1 s1 k1 m1 a1)
  refine (SealW.refBytes_new 1 A1 t.size c1 t.data.toList _ HZ2.out s1 (by rw [HZ.out]; omega)).mono ?_
  rintro e w2 ⟨A2, c2, rfl, s2, k2, m2, a2, hb2⟩
  have hbel := b1.trans (hb2.mono b1.size)
  rw [HT.out] at s2
  rw [HZ.out] at k2 ⊢
  have hsz := b1.size
  go_wp2_with fail
  go_ret
  exact ⟨A2, c2, rfl, s2, k2, m2, fun b o s h => Nat.le_trans hsz (a2 b o s h), hbel⟩
/-- The bytes of the node of a list, of two digests at least. -/
def tp (ss : List ByteArray) : List UInt8 := nb (rt (ss.take (split ss.length))) (rt (ss.drop (split ss.length)))
theorem tp_len {ss : List ByteArray} (hd : Digs ss) : (tp ss).length = 65 := by
  unfold tp
  rw [nb_len, rt_size _ _ (Nat.le_refl _) (hd.take _), rt_size _ _ (Nat.le_refl _) (hd.drop _)]
set_option maxRecDepth 1000000 in
set_option maxHeartbeats 2000000 in
theorem refTop (A : Option Addr) (l c : Nat) (ss : List ByteArray) (w : World) (hl : ss.length = l) (hs : Sl w A (scells ss)) (hd : Digs ss) (h2 : 2 ≤ l) (hlc : l ≤ c) (hl40 : l ≤ 1099511627776) :
    Calls Tryd.prog 41 #[.slice A l c] w fun e w' => ∃ A' c', e = .returned (.slice A' 65 c') ∧ Sl w' A' (bcells (tp ss)) ∧ 65 ≤ c' ∧ c' ≤ maxLen ∧ (∀ b o s, A' = some ⟨b, o, s⟩ → w.heap.size ≤ b) ∧ Below w.heap.size w w' := by
  obtain ⟨k, q, c2, A2, hk, k1, kl, kq, q1, qc, cc, tk, dq, sP, sQ, hto, hfr⟩ := halves (c := c) hl hs h2 hlc
  have HTP : Hid (tp ss = nb (rt (ss.take k)) (rt (ss.drop k))) := by show _ = _; unfold tp; rw [hl, ← hk]
  have HK := Lib.hid hk
  have HP := Lib.hid tk
  have HQ := Lib.hid dq
  have HTO := Lib.hid hto
  have HFR := Lib.hid hfr
  have HD := Lib.hid hd
  have ZP := Lib.hid (rt_size _ _ (Nat.le_refl _) (hd.take k))
  have ZQ := Lib.hid (rt_size _ _ (Nat.le_refl _) (hd.drop k))
  have b0 : Below w.heap.size w w.drew := (Below.refl _ _).drew
  clear hl hs hd hk tk dq hto hfr
  go_enter Tryd.func41, Tryd.ntmps41
  go_wp2_with fail
  refine (refSplit_in l _ (by omega) hl40).mono ?_
  rintro e w1 ⟨rfl, rfl⟩
  rw [← HK.out]
  go_wp2_with fail
  refine regB_begin (w.heap.size) (by kernel_rfl) ?_
  change wpAnyH _ _ _ _ _ 10 #[false, false, false, false, false, false, false, false, false, false] _ _
  refine regB_take (i := 0) (d := some 7) (v := (.slice A l c)) rfl rfl (by kernel_rfl) (by kernel_rfl) (by kernel_rfl) (fun _ _ _ h => h) (by rfl) (by intro w' hSw; go_simp) ?_
  try simp only [Act.put, List.setIfInBounds_toArray, List.set_cons_zero, List.set_cons_succ]
  refine regB_take (i := 1) (d := some 8) (v := (.int .i64 (k : Int))) rfl rfl (by kernel_rfl) (by kernel_rfl) (by kernel_rfl) (fun _ _ _ h => h) (by rfl) (by intro w' hSw; go_simp) ?_
  try simp only [Act.put, List.setIfInBounds_toArray, List.set_cons_zero, List.set_cons_succ]
  refine regB_take (i := 2) (d := some 9) (v := (.slice A k c)) rfl rfl (by kernel_rfl) (by kernel_rfl) (by kernel_rfl) (fun _ _ _ h => h) (by rfl) (by intro w' hSw; have h9 := HTO.out w'; go_simp) ?_
  try simp only [Act.put, List.setIfInBounds_toArray, List.set_cons_zero, List.set_cons_succ]
  refine regB_take (i := 4) (d := some 11) (v := (.slice A l c)) rfl rfl (by kernel_rfl) (by kernel_rfl) (by kernel_rfl) (fun _ _ _ h => h) (by rfl) (by intro w' hSw; go_simp) ?_
  try simp only [Act.put, List.setIfInBounds_toArray, List.set_cons_zero, List.set_cons_succ]
  refine regB_take (i := 5) (d := some 12) (v := (.int .i64 (k : Int))) rfl rfl (by kernel_rfl) (by kernel_rfl) (by kernel_rfl) (fun _ _ _ h => h) (by rfl) (by intro w' hSw; go_simp) ?_
  try simp only [Act.put, List.setIfInBounds_toArray, List.set_cons_zero, List.set_cons_succ]
  refine regB_take (i := 6) (d := some 13) (v := (.slice A2 q c2)) rfl rfl (by kernel_rfl) (by kernel_rfl) (by kernel_rfl) (fun _ _ _ h => h) (by rfl) (by intro w' hSw; have h9 := HFR.out w'; go_simp) ?_
  try simp only [Act.put, List.setIfInBounds_toArray, List.set_cons_zero, List.set_cons_succ]
  refine regB_call (i := 3) rfl (by kernel_rfl) (by rfl) fun K hK => ?_
  go_simp
  refine (refRoot_any l A k c (ss.take k) (by omega) _ HP.out (sP.below b0) (HD.out.take k) (by omega) (by omega)).mono ?_
  rintro e w2 ⟨rfl, hb2⟩
  have b2 := b0.trans (hb2.mono b0.size)
  refine hK.out _ _ (hb2.mono b0.size) ?_
  clear hK K
  try simp only [List.setIfInBounds_toArray, List.set_cons_zero, List.set_cons_succ]
  refine regB_call (i := 7) rfl (by kernel_rfl) (by rfl) fun K hK => ?_
  go_simp
  refine (refRoot_any l A2 q c2 (ss.drop k) (by omega) _ HQ.out (sQ.below b2) (HD.out.drop k) (by omega) (by omega)).mono ?_
  rintro e w3 ⟨rfl, hb3⟩
  have b3 := b2.trans (hb3.mono b2.size)
  refine hK.out _ _ (hb3.mono b2.size) ?_
  clear hK K
  try simp only [List.setIfInBounds_toArray, List.set_cons_zero, List.set_cons_succ]
  refine regB_call (i := 8) rfl (by kernel_rfl) (by rfl) fun K hK => ?_
  go_simp
  refine (refBytes8 (rt (ss.take k)) (rt (ss.drop k)) _ (by rw [ZP.out, ZQ.out]; omega)).mono ?_
  rintro e w4 ⟨A4, c4, rfl, s4, k4, m4, a4, hb4⟩
  have b4 := b3.trans (hb4.mono b3.size)
  rw [ZP.out, ZQ.out] at k4 ⊢
  have hz := b3.size
  refine hK.out _ _ (hb4.mono b3.size) ?_
  clear hK K
  try simp only [List.setIfInBounds_toArray, List.set_cons_zero, List.set_cons_succ]
  refine regB_take (i := 9) (d := some 2) (v := (.slice A4 65 c4)) rfl rfl (by kernel_rfl) (by kernel_rfl) (by kernel_rfl) (fun _ _ _ h => h) (by rfl) (by intro w' hSw; go_simp) ?_
  try simp only [Act.put, List.setIfInBounds_toArray, List.set_cons_zero, List.set_cons_succ]
  refine wpAnyH_done (by kernel_rfl) ?_ _
  go_wp2_with fail
  go_ret
  exact ⟨A4, c4, rfl, by rw [HTP.out]; exact s4, k4, m4, fun b o s h => Nat.le_trans hz (a4 b o s h), b4⟩

end Go.Proofs.YtihkfomldbjpoaaDoor.ClW

/- tree: Leaves. -/
namespace Go.Proofs.YtihkfomldbjpoaaDoor.TrW
open Go.RowKit TreeW
open ShaW Sha
/-- The digest of a leaf. -/
def lf (b : List UInt8) : ByteArray := ⟨(sha (0 :: b)).toArray⟩
theorem lf_size (b : List UInt8) : (lf b).size = 32 := SealW.sha_size _
theorem lf_digs (bss : List (List UInt8)) : Digs (bss.map lf) := by
  intro x hx
  obtain ⟨b, _, rfl⟩ := List.mem_map.1 hx
  exact lf_size b
theorem lf_snoc {bss : List (List UInt8)} {j : Nat} (h : j < bss.length) : (bss.take (j + 1)).map lf = (bss.take j).map lf ++ [lf (bss.getD j [])] := by
  rw [List.take_add_one, List.map_append]
  simp [h]
set_option maxRecDepth 100000 in
set_option maxHeartbeats 2000000 in
theorem leaves_any (A : Option Addr) (l c : Nat) (vs : List Value) (bss : List (List UInt8)) (w : World) (hT : Tab w) (hl : bss.length = l) (hA : Sl w A vs) (hR : RowsAt w vs bss) (hl40 : l ≤ 1099511627776) (hle : ∀ b ∈ bss, b.length ≤ 1000000000000) :
    Calls Tryd.prog 33 #[.slice A l c] w fun e w' => ∃ v, e = .returned v ∧ OwS w.heap.size w' v (bss.map lf) ∧ Below w.heap.size w w' := by
  have hpos := hT.pos
  have HT := Lib.hid (fun W (hb : Below w.heap.size w W) => hT.below hb hpos)
  have HL := Lib.hid hl
  have HRL := Lib.hid hR.1
  have HR2 := Lib.hid hR.2
  have HLE := Lib.hid hle
  clear hl hT hpos hR hle
  go_enter Tryd.func33, Tryd.ntmps33
  go_wp2_with (refine wpList_mk rfl (.const (.int .i64 0)) (.tmp 7) rfl strsTy w.heap.size .i64 .i64 l l rfl rfl rfl (by omega) (Nat.le_refl _) ?_; intro w1 hown1 hgr1)
  have hb1 : Below w.heap.size w w1 := (Below.refl _ _).grown hgr1 (Nat.le_refl _) (fun k hk => by cases hk)
  clear hgr1
  go_loopw [3, 5, 11] (fun v _ i wr => ∃ j : Nat, j ≤ l ∧ i = .int .i64 (j : Int) ∧ OwS w.heap.size wr v ((bss.take j).map lf) ∧ Below w.heap.size w wr) (fun _ _ i _ => l - (intOf i).toNat)
  case atStart => exact ⟨0, by omega, rfl, hown1, hb1⟩
  case round =>
    clear hown1 hb1
    obtain ⟨j, hj, rfl, hown, hbel⟩ := hrel
    by_cases hlt : j < l
    · have hjb : j < bss.length := by rw [HL.out]; exact hlt
      obtain ⟨b, o, rfl, hblt, hcell⟩ := hA.get (j := j) (by rw [HRL.out]; exact hjb)
      obtain ⟨B, d, hv, hB, hBd, hd⟩ := HR2.out j hjb
      have hc0 := (hbel.cell (p := ⟨b, o + j, none⟩) hblt).trans (hcell j _ hv)
      have hB1 := hB.below hbel
      have HX := Lib.hid (lf_snoc hjb)
      have hle := HLE.out (bss.getD j []) (by simp [List.getD, hjb])
      obtain ⟨x, hx⟩ : ∃ x, bss.getD j [] = x := ⟨_, rfl⟩
      rw [hx] at hc0 hB1 hle HX hBd
      obtain ⟨q, hq⟩ : ∃ q, x.length = q := ⟨_, rfl⟩
      rw [hq] at hc0 hle hBd
      have HQ := Lib.hid hq
      obtain ⟨m, hm⟩ : ∃ m, m = ((bss.take j).map lf).length := ⟨_, rfl⟩
      have HM := Lib.hid hm
      have hmj : m ≤ j := by rw [hm, List.length_map, List.length_take]; omega
      unfold OwS at hown
      rw [← hm] at hown
      clear hcell hv hB hx hq hm hjb
      go_wp2_with fail
      refine (SealW.leaf_any B q d x _ (HT.out _ hbel) HQ.out hB1 hle).mono ?_
      rintro e w2 ⟨rfl, hb2⟩
      have b2 := hbel.trans (hb2.mono hbel.size)
      have hown2 := own_below hown hb2
      obtain ⟨s, hs⟩ : ∃ s, (⟨(sha (0 :: x)).toArray⟩ : ByteArray) = s := ⟨_, rfl⟩
      have HS : Hid (lf x = s) := hs
      rw [hs]
      have HSL := Lib.hid (fun (W : World) => new_str W s)
      have hbx := b2.alloc b2.size (.cells #[.string s] 9)
      clear hb2 hown hs hc0 hB1
      go_wp2_with (refine wpList_app rfl (.tmp 15) (.tmp 18) 24 rfl strsTy w.heap.size _ m (scells ((bss.take j).map lf)) rfl (hown2.alloc _) _ 1 1 (scells [s]) rfl rfl (HSL.out _) (scells_one _) (by omega) hbx.size ?_; intro v3 w3 hown3 hgr3 hbl3)
      have hb3 := below_app hbx hgr3 (hown2.alloc (.cells #[.string s] 9)) (Nat.le_refl _) hbx.size
      have hown4 := snoc_ownS HM.out hown3
      clear hown2 hown3 hgr3 hbl3 hbx
      go_roundw
      case rel => exact ⟨j + 1, by omega, by go_num, by rw [HX.out, HS.out]; exact hown4, hb3⟩
      case measure => simp [intOf]; omega
    · have hfl : bss.take j = bss := List.take_of_length_le (by rw [HL.out]; omega)
      rw [hfl] at hown
      go_wp2_with fail
      go_ret
      exact ⟨_, rfl, hown, hbel⟩
end Go.Proofs.YtihkfomldbjpoaaDoor.TrW

/- A path's last digest, and those ahead of it. -/
namespace Go.Proofs.YtihkfomldbjpoaaDoor.TrW
open Go.RowKit TreeW
open ShaW Sha
/-- A path's last digest, and those ahead of it. -/
theorem path_parts {w : World} {A : Option Addr} {ss : List ByteArray} {l c m : Nat} (hl : ss.length = l) (hs : Sl w A (scells ss)) (hc : l ≤ c) (hm : l = 1 + m) (hd : Digs ss) :
    ∃ (q0 : List ByteArray) (d : ByteArray) (b o : Nat), ss = q0 ++ [d] ∧ q0.length = m ∧ A = some ⟨b, o, none⟩ ∧ b < w.heap.size ∧ (∀ w', Below w.heap.size w w' → w'.cell? ⟨b, o + m, none⟩ = some (.string d)) ∧ Sl w A (scells q0) ∧ Digs q0 ∧ d.size = 32 ∧
      (∀ w', (Instr.slice 24 (.slice A l c) none (some (.int .i64 (m : Int))) none).run Tryd.prog w' = .ok (.slice A m c) w') := by
  obtain ⟨q0, d, rfl, hq⟩ := snoc_of (p := ss) (m := m) (by omega)
  obtain ⟨b, o, rfl, hblt, hcell⟩ := hs.get (j := m) (by rw [scells_len]; omega)
  have hx : (q0 ++ [d])[m]? = some d := by rw [← hq, List.getElem?_concat_length]
  refine ⟨q0, d, b, o, rfl, hq, rfl, hblt, fun w' hb => (hb.cell (p := ⟨b, o + m, none⟩) hblt).trans (hcell m _ (scells_at hx)), ?_, fun x hx => hd x (List.mem_append_left _ hx), hd d (by simp), fun w' => run_to strsTy w' _ l c m .i64 (by omega)⟩
  have := hs.take q0.length
  rwa [scells_take, List.take_left] at this
end Go.Proofs.YtihkfomldbjpoaaDoor.TrW

/- Digests as texts and as lists of bytes. -/
namespace Go.Proofs.YtihkfomldbjpoaaDoor.ClW
open Go.RowKit TreeW ConsW TrW ClashW
open ShaW Sha
def dl (x : ByteArray) : List UInt8 := x.data.toList
theorem dl_nd (x y : ByteArray) : dl (nd x y) = nodeN sha (dl x) (dl y) := rfl
theorem dl_ed : dl ed = noneE sha := rfl
theorem dl_lf (b : List UInt8) : dl (lf b) = leafN sha b := rfl
theorem dl_rt (ss : List ByteArray) : dl (rt ss) = root (nodeN sha) (noneE sha) (ss.map dl) := root_map nd ed (nodeN sha) (noneE sha) dl dl_nd dl_ed ss.length ss (Nat.le_refl _)
theorem dl_climb (x : ByteArray) (i n : Nat) (p : List ByteArray) : dl (climb nd ed x i n p) = climb (nodeN sha) (noneE sha) (dl x) i n (p.map dl) := climb_map nd ed (nodeN sha) (noneE sha) dl dl_nd dl_ed n x i n p (Nat.le_refl _)
theorem dl_path (ss : List ByteArray) (i : Nat) : (path nd ed ss i).map dl = path (nodeN sha) (noneE sha) (ss.map dl) i := path_map nd ed (nodeN sha) (noneE sha) dl dl_nd dl_ed ss.length ss i (Nat.le_refl _)
theorem nb_dl (l r : ByteArray) : nb l r = nodeB (dl l) (dl r) := rfl
theorem lfs_dl (bss : List (List UInt8)) : (bss.map lf).map dl = bss.map (leafN sha) := by rw [List.map_map]; rfl
theorem tp_dl (ss : List ByteArray) : tp ss = topB sha (ss.map dl) := by
  unfold tp topB
  rw [nb_dl, dl_rt, dl_rt, List.map_take, List.map_drop, List.length_map]
/-- The clash of a leaf, of two lists, in this program's words. -/
def lc (bss : List (List UInt8)) (i : Nat) (x : List UInt8) (p : List ByteArray) : Option (List UInt8 × List UInt8) := leafC sha bss i x (p.map dl)
def tc (a b : List (List UInt8)) : Option (List UInt8 × List UInt8) := twoC sha a b
theorem lc_one {bss : List (List UInt8)} {i : Nat} {x : List UInt8} {p : List ByteArray} (h : bss.length = 1) : lc bss i x p = btw sha (0 :: x) (0 :: bss.getD 0 []) := leaf_one sha bss i x _ h
theorem lc_left {bss : List (List UInt8)} {i k : Nat} {x : List UInt8} {p : List ByteArray} {d : ByteArray} (hk : k = split bss.length) (h2 : 2 ≤ bss.length) (h : i < k) : lc bss i x (p ++ [d]) = orE (btw sha (nb (climb nd ed (lf x) i k p) d) (tp (bss.map lf))) (lc (bss.take k) i x p) := by
  subst hk
  unfold lc
  rw [leaf_two sha bss i x _ h2, if_pos h, List.map_append, List.map_cons, List.map_nil, List.dropLast_concat, List.getLast?_concat, Option.getD_some, nb_dl, dl_climb, tp_dl, lfs_dl, dl_lf]
theorem lc_right {bss : List (List UInt8)} {i k : Nat} {x : List UInt8} {p : List ByteArray} {d : ByteArray} (hk : k = split bss.length) (h2 : 2 ≤ bss.length) (h : ¬ i < k) : lc bss i x (p ++ [d]) = orE (btw sha (nb d (climb nd ed (lf x) (i - k) (bss.length - k) p)) (tp (bss.map lf))) (lc (bss.drop k) (i - k) x p) := by
  subst hk
  unfold lc
  rw [leaf_two sha bss i x _ h2, if_neg h, List.map_append, List.map_cons, List.map_nil, List.dropLast_concat, List.getLast?_concat, Option.getD_some, nb_dl, dl_climb, tp_dl, lfs_dl, dl_lf]
theorem tc_one {a b : List (List UInt8)} (h : a.length = 1) : tc a b = btw sha (0 :: a.getD 0 []) (0 :: b.getD 0 []) := two_one sha a b h
theorem tc_two {a b : List (List UInt8)} {k : Nat} (hk : k = split a.length) (h2 : 2 ≤ a.length) : tc a b = orE (btw sha (tp (a.map lf)) (tp (b.map lf))) (orE (tc (a.take k) (b.take k)) (tc (a.drop k) (b.drop k))) := by
  subst hk
  unfold tc
  rw [two_two sha a b h2, tp_dl, tp_dl, lfs_dl, lfs_dl]
/-- What is told of two, one behind the other. -/
theorem TC.first {base : Nat} {w : World} {o o' : Option (List UInt8 × List UInt8)} {A : Option Addr} {n c : Nat} {B : Option Addr} {m d : Nat} (h : TC base w o A n c B m d true) : TC base w (orE o o') A n c B m d true := by
  cases o with
  | none => exact absurd h.yes (by simp)
  | some x => exact h
theorem TC.second {base : Nat} {w w0 : World} {o o' : Option (List UInt8 × List UInt8)} {A0 B0 : Option Addr} {n0 c0 m0 d0 : Nat} {A : Option Addr} {n c : Nat} {B : Option Addr} {m d : Nat} {q : Bool} {base0 : Nat} (h0 : TC base0 w0 o A0 n0 c0 B0 m0 d0 false) (h : TC base w o' A n c B m d q) : TC base w (orE o o') A n c B m d q := by
  cases o with
  | none => exact h
  | some x => exact absurd h0.yes (by simp)
end Go.Proofs.YtihkfomldbjpoaaDoor.ClW

/- rubrickref03.Leaf; the digests that the statements look at. -/
namespace Go.Proofs.YtihkfomldbjpoaaDoor.TrW
open Go.RowKit TreeW
open ShaW Sha
/-- The digests that the statements look at. -/
def dg (bss : List (List UInt8)) : List ByteArray := (bss.filter fun b => decide (b.length ≤ 1000)).map lf
theorem dg_digs (bss : List (List UInt8)) : Digs (dg bss) := lf_digs _
theorem dg_len (bss : List (List UInt8)) : (dg bss).length ≤ bss.length := by unfold dg; rw [List.length_map]; exact List.length_filter_le _ _
theorem dg_more {bss : List (List UInt8)} {j : Nat} {x : List UInt8} (h : bss[j]? = some x) (hx : x.length ≤ 1000) : dg (bss.take (j + 1)) = dg (bss.take j) ++ [lf x] := by
  unfold dg
  rw [List.take_add_one, h, List.filter_append, List.map_append]
  simp [hx]
theorem dg_same {bss : List (List UInt8)} {j : Nat} {x : List UInt8} (h : bss[j]? = some x) (hx : ¬ x.length ≤ 1000) : dg (bss.take (j + 1)) = dg (bss.take j) := by
  unfold dg
  rw [List.take_add_one, h, List.filter_append, List.map_append]
  simp [hx]
theorem refLeaf_any (B : Option Addr) (l d : Nat) (bs : List UInt8) (w : World) (hl : bs.length = l) (hb : Sl w B (bcells bs)) (h40 : l ≤ 1000000000000) :
    Calls Tryd.prog 26 #[.slice B l d] w fun e w' => e = .returned (.string (lf bs)) ∧ Below w.heap.size w w' := by
  have HL := Lib.hid hl
  clear hl
  go_enter Tryd.func26, Tryd.ntmps26
  go_wp2_with fail
  refine (SealW.refOf_any 0 B l d bs _ HL.out hb h40).mono ?_
  rintro e w1 ⟨rfl, hb1⟩
  go_wp2_with fail
  go_ret
  exact ⟨rfl, hb1⟩
end Go.Proofs.YtihkfomldbjpoaaDoor.TrW

/- Rows of rows of bytes in two parts; rubrickref06.Leaves. -/
namespace Go.Proofs.YtihkfomldbjpoaaDoor.ClW
open Go.RowKit TreeW TrW
open ShaW Sha
theorem rowsTy : ElemTy Tryd.prog 22 23 (.slice none 0 0) 24 := ⟨by kernel_rfl, info_parts (by kernel_rfl), rfl, by omega⟩
theorem rows_take {w : World} {vs : List Value} {bss : List (List UInt8)} (h : RowsAt w vs bss) (k : Nat) : RowsAt w (vs.take k) (bss.take k) := by
  refine ⟨by rw [List.length_take, List.length_take, h.1], fun j hj => ?_⟩
  have hj2 : j < bss.length := by rw [List.length_take] at hj; omega
  have hjk : j < k := by rw [List.length_take] at hj; omega
  obtain ⟨B, d, h1, h2⟩ := h.2 j hj2
  have e : (bss.take k).getD j [] = bss.getD j [] := by simp [List.getD, hjk]
  rw [e]
  exact ⟨B, d, by rw [List.getElem?_take, if_pos hjk]; exact h1, h2⟩
theorem rows_drop {w : World} {vs : List Value} {bss : List (List UInt8)} (h : RowsAt w vs bss) (k : Nat) : RowsAt w (vs.drop k) (bss.drop k) := by
  refine ⟨by rw [List.length_drop, List.length_drop, h.1], fun j hj => ?_⟩
  have hj2 : k + j < bss.length := by rw [List.length_drop] at hj; omega
  obtain ⟨B, d, h1, h2⟩ := h.2 (k + j) hj2
  have e : (bss.drop k).getD j [] = bss.getD (k + j) [] := by simp [List.getD]
  rw [e]
  exact ⟨B, d, by rw [List.getElem?_drop]; exact h1, h2⟩
/-- The two parts of a list of rows, as slices. -/
theorem halvesV {w : World} {A : Option Addr} {vs : List Value} {bss : List (List UInt8)} {l c k : Nat} (hl : bss.length = l) (hs : Sl w A vs) (hR : RowsAt w vs bss) (hk : k < l) (hc : l ≤ c) :
    ∃ (q c2 : Nat) (A2 : Option Addr), k + q = l ∧ q ≤ c2 ∧ c2 ≤ c ∧ (bss.take k).length = k ∧ (bss.drop k).length = q ∧ Sl w A (vs.take k) ∧ Sl w A2 (vs.drop k) ∧ RowsAt w (vs.take k) (bss.take k) ∧ RowsAt w (vs.drop k) (bss.drop k) ∧
      (∀ w', (Instr.slice 22 (.slice A l c) none (some (.int .i64 (k : Int))) none).run Tryd.prog w' = .ok (.slice A k c) w') ∧
      (∀ w', (Instr.slice 22 (.slice A l c) (some (.int .i64 (k : Int))) none none).run Tryd.prog w' = .ok (.slice A2 q c2) w') := by
  refine ⟨l - k, c - k, if c = k then A else A.map (·.add k), by omega, by omega, by omega, by rw [List.length_take]; omega, by rw [List.length_drop]; omega, hs.take _, ?_, rows_take hR k, rows_drop hR k, fun w' => ?_, fun w' => ?_⟩
  · exact hs.cut _ _ (by rw [hR.1]; omega)
  · exact run_to rowsTy w' A l c k .i64 (by omega)
  · exact run_from rowsTy w' A l c k .i64 (by omega)
set_option maxRecDepth 100000 in
set_option maxHeartbeats 2000000 in
theorem refLeaves_any (A : Option Addr) (l c : Nat) (vs : List Value) (bss : List (List UInt8)) (w : World) (hl : bss.length = l) (hA : Sl w A vs) (hR : RowsAt w vs bss) (hl40 : l ≤ 1099511627776) (hle : ∀ b ∈ bss, b.length ≤ 1000000000000) :
    Calls Tryd.prog 24 #[.slice A l c] w fun e w' => ∃ v, e = .returned v ∧ OwS w.heap.size w' v (bss.map lf) ∧ Below w.heap.size w w' := by
  have HL := Lib.hid hl
  have HRL := Lib.hid hR.1
  have HR2 := Lib.hid hR.2
  have HLE := Lib.hid hle
  have h0 : Below w.heap.size w w := Below.refl _ _
  clear hl hR hle
  go_enter Tryd.func24, Tryd.ntmps24
  go_wp2_with fail
  go_loopw [3, 4] (fun v i wr => ∃ j : Nat, j ≤ l ∧ i = .int .i64 (j : Int) ∧ OwS w.heap.size wr v ((bss.take j).map lf) ∧ Below w.heap.size w wr) (fun _ i _ => l - (intOf i).toNat)
  case atStart => exact ⟨0, by omega, rfl, OwS.nil _ _, h0⟩
  case round =>
    clear h0
    obtain ⟨j, hj, rfl, hown, hbel⟩ := hrel
    by_cases hlt : j < l
    · have hjb : j < bss.length := by rw [HL.out]; exact hlt
      obtain ⟨b, o, rfl, hblt, hcell⟩ := hA.get (j := j) (by rw [HRL.out]; exact hjb)
      obtain ⟨B, d, hv, hB, hBd, hd⟩ := HR2.out j hjb
      have hc0 := (hbel.cell (p := ⟨b, o + j, none⟩) hblt).trans (hcell j _ hv)
      have hB1 := hB.below hbel
      have HX := Lib.hid (lf_snoc hjb)
      have hle := HLE.out (bss.getD j []) (by simp [List.getD, hjb])
      obtain ⟨x, hx⟩ : ∃ x, bss.getD j [] = x := ⟨_, rfl⟩
      rw [hx] at hc0 hB1 hle HX hBd
      obtain ⟨q, hq⟩ : ∃ q, x.length = q := ⟨_, rfl⟩
      rw [hq] at hc0 hle hBd
      have HQ := Lib.hid hq
      obtain ⟨m, hm⟩ : ∃ m, m = ((bss.take j).map lf).length := ⟨_, rfl⟩
      have HM := Lib.hid hm
      have hmj : m ≤ j := by rw [hm, List.length_map, List.length_take]; omega
      unfold OwS at hown
      rw [← hm] at hown
      clear hcell hv hB hx hq hm hjb
      go_wp2_with fail
      refine (refLeaf_any B q d x _ HQ.out hB1 hle).mono ?_
      rintro e w2 ⟨rfl, hb2⟩
      have b2 := hbel.trans (hb2.mono hbel.size)
      have hown2 := own_below hown hb2
      obtain ⟨s, hs⟩ : ∃ s, lf x = s := ⟨_, rfl⟩
      have HS := Lib.hid hs
      rw [hs]
      have HSL := Lib.hid (fun (W : World) => new_str W s)
      have hbx := b2.alloc b2.size (.cells #[.string s] 9)
      clear hb2 hown hs hc0 hB1
      go_wp2_with (refine wpList_app rfl (.tmp 11) (.tmp 17) 24 rfl strsTy w.heap.size _ m (scells ((bss.take j).map lf)) rfl (hown2.alloc _) _ 1 1 (scells [s]) rfl rfl (HSL.out _) (scells_one _) (by omega) hbx.size ?_; intro v3 w3 hown3 hgr3 hbl3)
      have hb3 := below_app hbx hgr3 (hown2.alloc (.cells #[.string s] 9)) (Nat.le_refl _) hbx.size
      have hown4 := snoc_ownS HM.out hown3
      clear hown2 hown3 hgr3 hbl3 hbx
      go_roundw
      case rel => exact ⟨j + 1, by omega, by go_num, by rw [HX.out, HS.out]; exact hown4, hb3⟩
      case measure => simp [intOf]; omega
    · have hfl : bss.take j = bss := List.take_of_length_le (by rw [HL.out]; omega)
      rw [hfl] at hown
      go_wp2_with fail
      go_ret
      exact ⟨_, rfl, hown, hbel⟩
end Go.Proofs.YtihkfomldbjpoaaDoor.ClW

/- Proofs in the words of this program's digests: no function of the dump. -/
namespace Go.Proofs.YtihkfomldbjpoaaDoor.CoW
open Go.RowKit TreeW ConsW TrW
open ShaW Sha
/-- Of which lists a proof is, in the words of this program's digests. -/
def pt (ss : List ByteArray) (m : Nat) (wh : Bool) : List ByteArray := ConsW.part nd ed ss m wh
theorem pt_all (ss : List ByteArray) (wh : Bool) : pt ss ss.length wh = if wh then [] else [rt ss] := part_all nd ed ss wh
theorem own_one (w : World) (base : Nat) (s : ByteArray) (hb : base ≤ w.heap.size) : OwS base (w.alloc (.cells #[.string s] 9)) (.slice (some ⟨w.heap.size, 0, none⟩) 1 1) [s] :=
  by
    have := World.ownsRow_lit (base := base) (e := 9) (size := 1) w #[.string s] 1 hb (by simp [maxLen]) (by simp)
    unfold OwS
    simpa [scells] using this
theorem pt_le (ss : List ByteArray) (m : Nat) (wh : Bool) (h1 : 1 ≤ m) (h2 : m ≤ ss.length) : (pt ss m wh).length ≤ ss.length := part_le nd ed ss.length ss m wh (Nat.le_refl _) h1 h2
/-- The proof. -/
def pv (ss : List ByteArray) (m : Nat) : List ByteArray := ConsW.prove nd ed ss m
theorem pv_le (ss : List ByteArray) (m : Nat) (h : m ≤ ss.length) : (pv ss m).length ≤ ss.length := by
  unfold pv ConsW.prove
  split
  · simp
  · exact pt_le ss m true (by omega) h
/-- Both roots that a proof leads to. -/
def ro (m n : Nat) (wh : Bool) (one : ByteArray) (p : List ByteArray) : Option (ByteArray × ByteArray) := ConsW.roots nd m n wh one p
/-- Is a proof accepted? -/
def acc (m n : Nat) (one two : ByteArray) (p : List ByteArray) : Prop := accept nd ed m n one two p
/-- May it be asked? -/
def fair (m n : Int) (one two : ByteArray) : Prop := 0 ≤ m ∧ m ≤ n ∧ n ≤ 1099511627776 ∧ one.size = 32 ∧ two.size = 32
instance (m n : Int) (one two : ByteArray) : Decidable (fair m n one two) := by unfold fair; infer_instance
theorem pt_digs : ∀ (f : Nat) (ss : List ByteArray) (m : Nat) (wh : Bool), ss.length ≤ f → 1 ≤ m → m ≤ ss.length → Digs ss → Digs (pt ss m wh)
  | f, ss, m, wh, hf, h1, h2, hd => by
    by_cases h : m = ss.length
    · subst h
      rw [pt_all]
      cases wh with
      | true => intro x hx; simp at hx
      | false => intro x hx; simp at hx; subst hx; exact rt_size _ _ (Nat.le_refl _) hd
    · obtain ⟨a, b, _, _⟩ := split_spec (n := ss.length) (by omega)
      cases f with
      | zero => omega
      | succ f =>
        unfold pt
        by_cases hm : m ≤ split ss.length
        · rw [part_left nd ed rfl h1 (by omega) hm]
          exact digs_push (pt_digs f (ss.take (split ss.length)) m wh (by rw [List.length_take]; omega) h1 (by rw [List.length_take]; omega) (hd.take _)) (rt_size _ _ (Nat.le_refl _) (hd.drop _))
        · rw [part_right nd ed rfl h1 (by omega) hm]
          exact digs_push (pt_digs f (ss.drop (split ss.length)) (m - split ss.length) false (by rw [List.length_drop]; omega) (by omega) (by rw [List.length_drop]; omega) (hd.drop _)) (rt_size _ _ (Nat.le_refl _) (hd.take _))
theorem pv_digs (ss : List ByteArray) (m : Nat) (h : m ≤ ss.length) (hd : Digs ss) : Digs (pv ss m) := by
  unfold pv ConsW.prove
  split
  · intro x hx; simp at hx
  · exact pt_digs ss.length ss m true (Nat.le_refl _) (by omega) h hd
theorem pv_all (ss : List ByteArray) : pv ss ss.length = [] := by
  unfold pv ConsW.prove
  split
  · rfl
  · rw [part_all]; rfl
theorem pv_zero (ss : List ByteArray) : pv ss 0 = [] := rfl
end Go.Proofs.YtihkfomldbjpoaaDoor.CoW

/- rubrickref07: Roots, Fair, Check. -/
namespace Go.Proofs.YtihkfomldbjpoaaDoor.CoW
open Go.RowKit TreeW ConsW TrW
open ShaW Sha
/-- What the reference tells of them. -/
structure Told3 (m n : Nat) (wh : Bool) (one : ByteArray) (p : List ByteArray) (x y : ByteArray) (b : Bool) : Prop where
  size : x.size ≤ 32 ∧ y.size ≤ 32
  is : ro m n wh one p = if b then some (x, y) else none
theorem Told3.left {m n k : Nat} {wh : Bool} {one d x y : ByteArray} {p : List ByteArray} {b : Bool} (hk : k = split n) (h1 : 1 ≤ m) (h2 : m < n) (h : m ≤ k) (t : Told3 m k wh one p x y b) : Told3 m n wh one (p ++ [d]) x (nd y d) b :=
  ⟨⟨t.size.1, Nat.le_of_eq (nd_size _ _)⟩, by
    have e := roots_left nd (wh := wh) (one := one) (d := d) (p := p) hk h1 h2 h
    have t2 := t.is
    unfold ro at t2 ⊢
    rw [e, t2]
    cases b <;> rfl⟩
theorem Told3.right {m n k : Nat} {wh : Bool} {one d x y : ByteArray} {p : List ByteArray} {b : Bool} (hk : k = split n) (h1 : 1 ≤ m) (h2 : m < n) (h : ¬ m ≤ k) (t : Told3 (m - k) (n - k) false one p x y b) : Told3 m n wh one (p ++ [d]) (nd d x) (nd d y) b :=
  ⟨⟨Nat.le_of_eq (nd_size _ _), Nat.le_of_eq (nd_size _ _)⟩, by
    have e := roots_right nd (wh := wh) (one := one) (d := d) (p := p) hk h1 h2 h
    have t2 := t.is
    unfold ro at t2 ⊢
    rw [e, t2]
    cases b <;> rfl⟩
set_option maxRecDepth 1000000 in
set_option maxHeartbeats 4000000 in
theorem refRoots_any : ∀ (f m n : Nat) (wh : Bool) (one : ByteArray) (A : Option Addr) (l c : Nat) (ss : List ByteArray) (_hf : n ≤ f) (w : World) (_h1 : 1 ≤ m) (_h2 : m ≤ n) (_hn : n ≤ 1099511627776) (_ho : one.size ≤ 32) (_hl : ss.length = l) (_hs : Sl w A (scells ss)) (_hd : Digs ss) (_hlc : l ≤ c) (_hc63 : c ≤ 9223372036854775807),
    Calls Tryd.prog 83 #[.int .i64 (m : Int), .int .i64 (n : Int), .bool wh, .string one, .slice A l c] w fun e w' => ∃ x y b, e = .returned (.tuple #[.string x, .string y, .bool b]) ∧ Told3 m n wh one ss x y b ∧ Below w.heap.size w w' := by
  intro f
  induction f with
  | zero => intro m n wh one A l c ss hf w h1 h2; omega
  | succ f ih =>
    intro m n wh one A l c ss hf w h1 h2 hn ho hl hs hd hlc hc63
    by_cases hmn : m = n
    · subst hmn
      have HO := Lib.hid ho
      clear ih
      cases wh with
      | true =>
        by_cases hz : l = 0
        · have HR : Hid (ro m m true one ss = some (one, one)) := (ConsW.roots_true nd m one ss).trans (if_pos (by omega))
          subst hz
          clear hl hs
          go_enter Tryd.func83, Tryd.ntmps83
          go_wp2_with fail
          go_ret3
          exact ⟨one, one, true, rfl, ⟨⟨HO.out, HO.out⟩, HR.out⟩, Below.refl _ _⟩
        · have HR : Hid (ro m m true one ss = none) := (ConsW.roots_true nd m one ss).trans (if_neg (by omega))
          have hne : ((l : Int) == 0) = false := by simpa using hz
          clear hl hs
          go_enter Tryd.func83, Tryd.ntmps83
          go_wp2_with fail
          go_ret3
          exact ⟨one, one, false, rfl, ⟨⟨HO.out, HO.out⟩, HR.out⟩, Below.refl _ _⟩
      | false =>
        by_cases h1l : l = 1
        · subst h1l
          obtain ⟨x, rfl⟩ : ∃ x, ss = [x] := by
            match ss, hl with
            | [x], _ => exact ⟨x, rfl⟩
          have HR : Hid (ro m m false one [x] = some (x, x)) := ConsW.roots_one nd m one x
          obtain ⟨b, o, rfl, hblt, hcell⟩ := hs.get (j := 0) (by simp [scells])
          have hc0 : w.cell? ⟨b, o, none⟩ = some (.string x) := hcell 0 _ rfl
          have HX : Hid (x.size ≤ 32) := Nat.le_of_eq (hd x (by simp))
          clear hcell hl hs
          go_enter Tryd.func83, Tryd.ntmps83
          go_wp2_with fail
          go_quiet (fail)
          go_wp2_with fail
          go_ret3
          exact ⟨x, x, true, rfl, ⟨⟨HX.out, HX.out⟩, HR.out⟩, below_drewN (Below.refl _ _) _⟩
        · have HR : Hid (ro m m false one ss = none) := ConsW.roots_not nd m one ss (by omega)
          have hne : ((l : Int) == 1) = false := by simpa using (show ¬ (l : Int) = 1 by omega)
          clear hl hs
          go_enter Tryd.func83, Tryd.ntmps83
          go_wp2_with fail
          go_ret3
          exact ⟨⟨#[]⟩, ⟨#[]⟩, false, rfl, ⟨⟨by show (0 : Nat) ≤ 32; omega, by show (0 : Nat) ≤ 32; omega⟩, HR.out⟩, Below.refl _ _⟩
    have hne : ((m : Int) == (n : Int)) = false := by simpa using (show ¬ (m : Int) = (n : Int) by omega)
    by_cases hz : l = 0
    · have HR : Hid (ro m n wh one ss = none) := by
        show _ = _
        rw [List.eq_nil_of_length_eq_zero (show ss.length = 0 by omega)]
        exact roots_nil nd h1 (by omega)
      subst hz
      clear hl hs hd ih
      go_enter Tryd.func83, Tryd.ntmps83
      go_wp2_with fail
      go_ret3
      exact ⟨⟨#[]⟩, ⟨#[]⟩, false, rfl, ⟨⟨by show (0 : Nat) ≤ 32; omega, by show (0 : Nat) ≤ 32; omega⟩, HR.out⟩, Below.refl _ _⟩
    obtain ⟨p, hl1⟩ : ∃ p, l = 1 + p := ⟨l - 1, by omega⟩
    obtain ⟨q0, d, b, o, rfl, hq, rfl, hblt, hcell, hsq, hdq, hd32, hto⟩ := path_parts hl hs hlc hl1 hd
    obtain ⟨sa, sb, _, _⟩ := split_spec (n := n) (by omega)
    obtain ⟨k, hk⟩ : ∃ k, k = split n := ⟨_, rfl⟩
    rw [← hk] at sa sb
    have HK := Lib.hid hk
    have HQ := Lib.hid hq
    have HCELL := Lib.hid hcell
    have HDQ := Lib.hid hdq
    have HD32 := Lib.hid hd32
    have HTO := Lib.hid hto
    have HO := Lib.hid ho
    have hne0 : ((1 : Int) + (p : Int) == 0) = false := by simpa using (show ¬ (1 : Int) + (p : Int) = 0 by omega)
    have hd0 := hcell w (Below.refl _ _)
    have q1 : (1 : Int) + (p : Int) - 1 = (p : Int) := by omega
    have q3 : ¬ ((1 : Int) + (p : Int) ≤ (p : Int)) := by omega
    have q4 : ¬ ((p : Int) < 0) := by omega
    subst hl1
    clear hl hs hd hq hcell hdq hd32 ho hz
    by_cases hmk : m ≤ k
    · have k5 : (m : Int) ≤ (k : Int) := by omega
      have HT3 := Lib.hid (fun (x y : ByteArray) (b : Bool) (t : Told3 m k wh one q0 x y b) => Told3.left (d := d) hk h1 (by omega) hmk t)
      clear hk
      go_enter Tryd.func83, Tryd.ntmps83
      go_wp2_with fail
      refine (refSplit_in n _ (by omega) hn).mono ?_
      rintro e w1 ⟨rfl, rfl⟩
      rw [← HK.out]
      go_wp2_with fail
      refine (ih m k wh one (some ⟨b, o, none⟩) p c q0 (by omega) _ h1 hmk (by omega) HO.out HQ.out hsq HDQ.out (by omega) hc63).mono ?_
      rintro e w2 ⟨x, y, bb, rfl, t3, hb2⟩
      have T3 := Lib.hid t3
      clear t3
      go_wp2_with fail
      refine (refNode_nd y d _ (by rw [HD32.out]; have := T3.out.size.2; omega)).mono ?_
      rintro e w3 ⟨rfl, hb3⟩
      have b3 := hb2.trans (hb3.mono hb2.size)
      go_wp2_with fail
      go_ret3
      exact ⟨x, nd y d, bb, rfl, HT3.out _ _ _ T3.out, b3⟩
    · obtain ⟨r, hr⟩ : ∃ r, m - k = r := ⟨_, rfl⟩
      obtain ⟨z, hz⟩ : ∃ z, n - k = z := ⟨_, rfl⟩
      have HT3 := Lib.hid (fun (x y : ByteArray) (b : Bool) (t : Told3 r z false one q0 x y b) => Told3.right (wh := wh) (d := d) (x := x) (y := y) (b := b) (one := one) (p := q0) hk h1 (by omega) hmk (by rw [hr, hz]; exact t))
      have k5 : ¬ (m : Int) ≤ (k : Int) := by omega
      have k6 : (m : Int) - (k : Int) = (r : Int) := by omega
      have k7 : (n : Int) - (k : Int) = (z : Int) := by omega
      clear hk
      go_enter Tryd.func83, Tryd.ntmps83
      go_wp2_with fail
      refine (refSplit_in n _ (by omega) hn).mono ?_
      rintro e w1 ⟨rfl, rfl⟩
      rw [← HK.out]
      go_wp2_with fail
      refine (ih r z false one (some ⟨b, o, none⟩) p c q0 (by omega) _ (by omega) (by omega) (by omega) HO.out HQ.out hsq HDQ.out (by omega) hc63).mono ?_
      rintro e w2 ⟨x, y, bb, rfl, t3, hb2⟩
      have T3 := Lib.hid t3
      clear t3
      go_wp2_with fail
      refine (refNode_nd d x _ (by rw [HD32.out]; have := T3.out.size.1; omega)).mono ?_
      rintro e w3 ⟨rfl, hb3⟩
      have b3 := hb2.trans (hb3.mono hb2.size)
      go_wp2_with fail
      refine (refNode_nd d y _ (by rw [HD32.out]; have := T3.out.size.2; omega)).mono ?_
      rintro e w4 ⟨rfl, hb4⟩
      have b4 := b3.trans (hb4.mono b3.size)
      go_wp2_with fail
      go_ret3
      exact ⟨nd d x, nd d y, bb, rfl, HT3.out _ _ _ T3.out, b4⟩
end Go.Proofs.YtihkfomldbjpoaaDoor.CoW

/- rubrickref08: old, fresh. -/
namespace Go.Proofs.YtihkfomldbjpoaaDoor.ClW
open Go.RowKit TreeW ConsW TrW ClashW CoW
open ShaW Sha
/-- The clash of the nodes for the one root, and for the other, in this program's words. -/
def ol (ss : List ByteArray) (m n : Nat) (wh : Bool) (one : ByteArray) (p : List ByteArray) : Option (List UInt8 × List UInt8) := oldF sha (n + 1) (ss.map dl) m n wh (dl one) (p.map dl)
def fr (ss : List ByteArray) (m n : Nat) (wh : Bool) (one : ByteArray) (p : List ByteArray) : Option (List UInt8 × List UInt8) := freshF sha (n + 1) (ss.map dl) m n wh (dl one) (p.map dl)
theorem oldF_fuel : ∀ (f g : Nat) (a : List (List UInt8)) (m n : Nat) (wh : Bool) (one : List UInt8) (p : List (List UInt8)), 1 ≤ m → m ≤ n → n < f → n < g → oldF sha f a m n wh one p = oldF sha g a m n wh one p
  | 0, _, _, _, _, _, _, _, _, _, h, _ => by omega
  | _ + 1, 0, _, _, _, _, _, _, _, _, _, h => by omega
  | f + 1, g + 1, a, m, n, wh, one, p, h1, h2, hf, hg => by
    unfold oldF
    by_cases h : m = n
    · rw [if_pos h, if_pos h]
    · rw [if_neg h, if_neg h]
      obtain ⟨x, y, _, _⟩ := split_spec (n := n) (by omega)
      by_cases hm : m ≤ split n
      · rw [if_pos hm, if_pos hm, oldF_fuel f g a m (split n) wh one _ h1 hm (by omega) (by omega)]
      · rw [if_neg hm, if_neg hm, oldF_fuel f g _ (m - split n) (n - split n) false one _ (by omega) (by omega) (by omega) (by omega)]
theorem freshF_fuel : ∀ (f g : Nat) (a : List (List UInt8)) (m n : Nat) (wh : Bool) (one : List UInt8) (p : List (List UInt8)), 1 ≤ m → m ≤ n → n < f → n < g → freshF sha f a m n wh one p = freshF sha g a m n wh one p
  | 0, _, _, _, _, _, _, _, _, _, h, _ => by omega
  | _ + 1, 0, _, _, _, _, _, _, _, _, _, h => by omega
  | f + 1, g + 1, a, m, n, wh, one, p, h1, h2, hf, hg => by
    unfold freshF
    by_cases h : m = n
    · rw [if_pos h, if_pos h]
    · rw [if_neg h, if_neg h]
      obtain ⟨x, y, _, _⟩ := split_spec (n := n) (by omega)
      by_cases hm : m ≤ split n
      · rw [if_pos hm, if_pos hm, freshF_fuel f g _ m (split n) wh one _ h1 hm (by omega) (by omega)]
      · rw [if_neg hm, if_neg hm, freshF_fuel f g _ (m - split n) (n - split n) false one _ (by omega) (by omega) (by omega) (by omega)]
theorem ol_all (ss : List ByteArray) (n : Nat) (wh : Bool) (one : ByteArray) (p : List ByteArray) : ol ss n n wh one p = none := by unfold ol oldF; rw [if_pos rfl]
theorem fr_all (ss : List ByteArray) (n : Nat) (wh : Bool) (one : ByteArray) (p : List ByteArray) : fr ss n n wh one p = none := by unfold fr freshF; rw [if_pos rfl]
theorem ro_dl {m n : Nat} {wh : Bool} {one x y : ByteArray} {p : List ByteArray} (h1 : 1 ≤ m) (h2 : m ≤ n) (h : ro m n wh one p = some (x, y)) : ConsW.roots (nodeN sha) m n wh (dl one) (p.map dl) = some (dl x, dl y) := by
  rw [← roots_map nd (nodeN sha) dl dl_nd n m n wh one p (Nat.le_refl _) h1 h2]
  unfold ro at h
  rw [h]; rfl
theorem last_dl (p : List ByteArray) (d : ByteArray) : ((p ++ [d]).map dl).getLast?.getD (noneE sha) = dl d ∧ ((p ++ [d]).map dl).dropLast = p.map dl := by
  rw [List.map_append, List.map_cons, List.map_nil, List.getLast?_concat, List.dropLast_concat]
  exact ⟨rfl, rfl⟩
theorem ol_left {ss : List ByteArray} {m n k : Nat} {wh : Bool} {one d : ByteArray} {p : List ByteArray} (hk : k = split n) (h1 : 1 ≤ m) (h2 : m < n) (h : m ≤ k) : ol ss m n wh one (p ++ [d]) = ol ss m k wh one p := by
  subst hk
  obtain ⟨x, y, _, _⟩ := split_spec (n := n) (by omega)
  unfold ol
  conv => lhs; unfold oldF
  rw [if_neg (by omega), if_pos h, (last_dl p d).2, oldF_fuel n (split n + 1) _ m (split n) wh _ _ h1 h (by omega) (by omega)]
theorem ol_right {ss : List ByteArray} {m n k : Nat} {wh : Bool} {one d x y : ByteArray} {p : List ByteArray} (hk : k = split n) (h1 : 1 ≤ m) (h2 : m < n) (h : ¬ m ≤ k) (hr : ro (m - k) (n - k) false one p = some (x, y)) : ol ss m n wh one (p ++ [d]) = orE (btw sha (nb d x) (tp ss)) (ol (ss.drop k) (m - k) (n - k) false one p) := by
  subst hk
  obtain ⟨a, b, _, _⟩ := split_spec (n := n) (by omega)
  unfold ol
  conv => lhs; unfold oldF
  rw [if_neg (by omega), if_neg h, (last_dl p d).2, (last_dl p d).1, ro_dl (by omega) (by omega) hr, oldF_fuel n (n - split n + 1) _ (m - split n) (n - split n) false _ _ (by omega) (by omega) (by omega) (by omega), nb_dl, tp_dl, List.map_drop]
  rfl
theorem fr_left {ss : List ByteArray} {m n k : Nat} {wh : Bool} {one d x y : ByteArray} {p : List ByteArray} (hk : k = split n) (h1 : 1 ≤ m) (h2 : m < n) (h : m ≤ k) (hr : ro m k wh one p = some (x, y)) : fr ss m n wh one (p ++ [d]) = orE (btw sha (nb y d) (tp ss)) (fr (ss.take k) m k wh one p) := by
  subst hk
  obtain ⟨a, b, _, _⟩ := split_spec (n := n) (by omega)
  unfold fr
  conv => lhs; unfold freshF
  rw [if_neg (by omega), if_pos h, (last_dl p d).2, (last_dl p d).1, ro_dl h1 h hr, freshF_fuel n (split n + 1) _ m (split n) wh _ _ h1 h (by omega) (by omega), nb_dl, tp_dl, List.map_take]
  rfl
theorem fr_right {ss : List ByteArray} {m n k : Nat} {wh : Bool} {one d x y : ByteArray} {p : List ByteArray} (hk : k = split n) (h1 : 1 ≤ m) (h2 : m < n) (h : ¬ m ≤ k) (hr : ro (m - k) (n - k) false one p = some (x, y)) : fr ss m n wh one (p ++ [d]) = orE (btw sha (nb d y) (tp ss)) (fr (ss.drop k) (m - k) (n - k) false one p) := by
  subst hk
  obtain ⟨a, b, _, _⟩ := split_spec (n := n) (by omega)
  unfold fr
  conv => lhs; unfold freshF
  rw [if_neg (by omega), if_neg h, (last_dl p d).2, (last_dl p d).1, ro_dl (by omega) (by omega) hr, freshF_fuel n (n - split n + 1) _ (m - split n) (n - split n) false _ _ (by omega) (by omega) (by omega) (by omega), nb_dl, tp_dl, List.map_drop]
  rfl
set_option maxRecDepth 1000000 in
set_option maxHeartbeats 4000000 in
theorem refOld : ∀ (f : Nat) (A : Option Addr) (l c : Nat) (ss : List ByteArray) (m n : Nat) (wh : Bool) (one : ByteArray) (C : Option Addr) (lp cp : Nat) (ps : List ByteArray) (_hf : n ≤ f) (w : World) (_hl : ss.length = l) (_hA : Sl w A (scells ss)) (_hd : Digs ss) (_hlc : l ≤ c) (_hll : m = l) (_h1 : 1 ≤ m) (_h2 : m ≤ n) (_hn : n ≤ 1099511627776) (_ho : one.size ≤ 32) (_hlp : ps.length = lp) (_hC : Sl w C (scells ps)) (_hdp : Digs ps) (_hlpc : lp ≤ cp) (_hcp : cp ≤ 9223372036854775807) (_hro : ro m n wh one ps ≠ none),
    Calls Tryd.prog 53 #[.slice A l c, .int .i64 (m : Int), .int .i64 (n : Int), .bool wh, .string one, .slice C lp cp] w fun e w' => ∃ A' n' c' B' m' d' q, e = .returned (.tuple #[.agg #[.slice A' n' c', .slice B' m' d'], .bool q]) ∧ TC w.heap.size w' (ol ss m n wh one ps) A' n' c' B' m' d' q ∧ Below w.heap.size w w' := by
  intro f
  induction f with
  | zero => intro A l c ss m n wh one C lp cp ps hf w hl hA hd hlc hll h1 h2; omega
  | succ f ih =>
    intro A l c ss m n wh one C lp cp ps hf w hl hA hd hlc hll h1 h2 hn ho hlp hC hdp hlpc hcp hro
    subst hll
    have h0 : At (w.alloc (.cells #[.slice none 0 0, .slice none 0 0] 33)) w.heap.size 33 [.slice none 0 0, .slice none 0 0] := At.new_ w _ 33 _ rfl
    have b0 : Below w.heap.size w (w.alloc (.cells #[.slice none 0 0, .slice none 0 0] 33)) := (Below.refl _ _).alloc (Nat.le_refl _) _
    by_cases hmn : m = n
    · have HE : Hid (ol ss m n wh one ps = none) := by show _ = _; rw [hmn]; exact ol_all ss n wh one ps
      have hee : ((m : Int) == (n : Int)) = true := by rw [hmn]; simp
      clear hl hA hd hro hlp hC hdp ih
      go_enter Tryd.func53, Tryd.ntmps53
      go_wp2_with (refine wpList_storeB rfl rfl 33 (.tmp 12) (.tmp 25) rfl clTy w.heap.size rfl [.slice none 0 0, .slice none 0 0] rfl 33 _ h0 rfl rfl slices_one ?_; intro x1 k1 o1)
      have b1 := o1.below _ _ b0 (Nat.le_refl _)
      exact bodyPost_ret (v := .tuple #[.agg #[.slice none 0 0, .slice none 0 0], .bool false]) (results_cellA2 rfl clTy _ _ w.heap.size 33 [.slice none 0 0, .slice none 0 0] rfl k1 rfl _ rfl) rfl ⟨none, 0, 0, none, 0, 0, false, rfl, by rw [HE.out]; exact TC.none_ _ _, b1⟩
    obtain ⟨p, hl1⟩ : ∃ p, lp = 1 + p := by
      rcases Nat.eq_zero_or_pos lp with h | h
      · exact absurd (by rw [List.eq_nil_of_length_eq_zero (show ps.length = 0 by omega)]; exact roots_nil nd h1 (by omega)) hro
      · exact ⟨lp - 1, by omega⟩
    obtain ⟨q0, d, b, o, rfl, hq, rfl, hblt, hcell, hsq, hdq, hd32, hto⟩ := path_parts hlp hC hlpc hl1 hdp
    have sspec := split_spec (n := n) (by omega)
    obtain ⟨k, hk⟩ : ∃ k, k = split n := ⟨_, rfl⟩
    rw [← hk] at sspec
    obtain ⟨k1, kl, kd, _⟩ := sspec
    have HTO := Lib.hid hto
    have hcd := hcell _ b0
    have HQ := Lib.hid hq
    have HDQ := Lib.hid hdq
    have HD32 := Lib.hid hd32
    have HK := Lib.hid hk
    have HO := Lib.hid ho
    have HL := Lib.hid hl
    have HD := Lib.hid hd
    have hne1 : ((m : Int) == (n : Int)) = false := by simpa using (show ¬ (m : Int) = (n : Int) by omega)
    have q1 : (1 : Int) + (p : Int) - 1 = (p : Int) := by omega
    have q3 : ¬ ((1 : Int) + (p : Int) ≤ (p : Int)) := by omega
    have q4 : ¬ ((p : Int) < 0) := by omega
    subst hl1
    by_cases hmk : m ≤ k
    · have k5 : (m : Int) ≤ (k : Int) := by omega
      have HEQ := Lib.hid (ol_left (ss := ss) (wh := wh) (one := one) (d := d) (p := q0) hk h1 (by omega) hmk)
      have hro2 : ro m k wh one q0 ≠ none := fun h => hro (by
        have e := roots_left nd (wh := wh) (one := one) (d := d) (p := q0) hk h1 (by omega) hmk
        unfold ro at h ⊢
        rw [e, h]; rfl)
      clear hk hro hd hl hlp hC hdp hq hcell hdq hd32 hto
      go_enter Tryd.func53, Tryd.ntmps53
      go_wp2_with fail
      refine (refSplit_in n _ (by omega) hn).mono ?_
      rintro e w1 ⟨rfl, rfl⟩
      rw [← HK.out]
      go_wp2_with fail
      clear hcd
      refine (ih A m c ss m k wh one (some ⟨b, o, none⟩) p cp q0 (by omega) _ HL.out (hA.below b0) HD.out hlc rfl h1 hmk (by omega) HO.out HQ.out (hsq.below b0) HDQ.out (by omega) hcp hro2).mono ?_
      rintro e w9 ⟨A9, n9, c9, B9, m9, d9, q9, rfl, t9, hb9⟩
      have b9 := b0.trans (hb9.mono b0.size)
      have h9 := h0.below hb9 h0.lt
      have hz8 := h0.lt
      go_wp2_with (refine wpList_storeB rfl rfl 33 (.tmp 12) (.tmp 49) rfl clTy w.heap.size rfl [.slice A9 n9 c9, .slice B9 m9 d9] rfl 33 _ h9 rfl rfl slices_one ?_; intro x10 k10 o10)
      have b10 := o10.below _ _ b9 (Nat.le_refl _)
      have t10 := t9.only o10 (by omega)
      exact bodyPost_ret (v := .tuple #[.agg #[.slice A9 n9 c9, .slice B9 m9 d9], .bool q9]) (results_cellA2 rfl clTy _ _ w.heap.size 33 [.slice A9 n9 c9, .slice B9 m9 d9] rfl k10 rfl _ rfl) rfl ⟨A9, n9, c9, B9, m9, d9, q9, rfl, by rw [HEQ.out]; exact t10.base (by omega), b10⟩
    · obtain ⟨r, hr⟩ : ∃ r, m - k = r := ⟨_, rfl⟩
      obtain ⟨z, hz⟩ : ∃ z, n - k = z := ⟨_, rfl⟩
      have k5 : ¬ (m : Int) ≤ (k : Int) := by omega
      have k6 : (m : Int) - (k : Int) = (r : Int) := by omega
      have k7' : (n : Int) - (k : Int) = (z : Int) := by omega
      have HRO : Hid (¬ ro r z false one q0 = none) := fun h => hro (by
        have e := roots_right nd (wh := wh) (one := one) (d := d) (p := q0) hk h1 (by omega) hmk
        unfold ro at h ⊢
        rw [e, hr, hz, h]; rfl)
      have hfr := fun w' => run_from (P := Tryd.prog) strsTy w' A m c k .i64 (by omega)
      have vD : Sl w (if c = k then A else A.map (·.add k)) (scells (ss.drop k)) := by rw [← scells_drop]; exact hA.cut _ _ (by rw [scells_len]; omega)
      obtain ⟨A2, hA2⟩ : ∃ A2, A2 = (if c = k then A else A.map (·.add k)) := ⟨_, rfl⟩
      rw [← hA2] at vD
      simp only [← hA2] at hfr
      obtain ⟨c2, hc2⟩ : ∃ c2, c - k = c2 := ⟨_, rfl⟩
      simp only [hr, hc2] at hfr
      have HDK : Hid ((ss.drop k).length = r) := by show _ = _; rw [List.length_drop, hl]; exact hr
      have HEQ0 := fun (x y : ByteArray) (h : ro r z false one q0 = some (x, y)) => ol_right (ss := ss) (wh := wh) (one := one) (d := d) (x := x) (y := y) (p := q0) hk h1 (by omega) hmk (by rw [hr, hz]; exact h)
      rw [hr, hz] at HEQ0
      have HEQ1 := Lib.hid HEQ0
      clear hk hro hd hl hlp hC hdp hq hcell hdq hd32 hto HEQ0 hA2
      go_enter Tryd.func53, Tryd.ntmps53
      go_wp2_with fail
      refine (refSplit_in n _ (by omega) hn).mono ?_
      rintro e w1 ⟨rfl, rfl⟩
      rw [← HK.out]
      go_wp2_with fail
      clear hcd
      refine (refRoots_any z r z false one (some ⟨b, o, none⟩) p cp q0 (Nat.le_refl _) _ (by omega) (by omega) (by omega) HO.out HQ.out (hsq.below b0) HDQ.out (by omega) hcp).mono ?_
      rintro e w2 ⟨X, Y, bb, rfl, t3, hb2⟩
      have T3 := Lib.hid t3
      have b2 := b0.trans (hb2.mono b0.size)
      have h2' := h0.below hb2 h0.lt
      obtain rfl : bb = true := by
        cases bb with
        | true => rfl
        | false => exact absurd T3.out.is (HRO.out)
      clear t3 hb2 h0
      go_wp2_with fail
      have HEQ := Lib.hid (HEQ1.out X Y (by have := T3.out.is; exact this))
      refine (refBytes8 d X _ (by have := T3.out.size; have := HD32.out; omega)).mono ?_
      rintro e w3 ⟨A3, c3, rfl, s3, k3, m3, a3, hb3⟩
      have b3 := b2.trans (hb3.mono b2.size)
      have h3 := h2'.below hb3 h2'.lt
      have a3b : ∀ b o s, A3 = some ⟨b, o, s⟩ → w.heap.size + 1 ≤ b := fun b o s h => Nat.le_trans h2'.lt (a3 b o s h)
      have NBL : Hid ((nb d X).length = d.size + X.size + 1) := nb_len _ _
      clear hb3 h2' b2
      go_wp2_with fail
      refine (refTop A m c ss _ HL.out (hA.below b3) HD.out (by omega) hlc (by omega)).mono ?_
      rintro e w4 ⟨A4, c4, rfl, s4, k4, m4, a4, hb4⟩
      have b4 := b3.trans (hb4.mono b3.size)
      have h4 := h3.below hb4 h3.lt
      have s34 := s3.below hb4
      have a4b : ∀ b o s, A4 = some ⟨b, o, s⟩ → w.heap.size + 1 ≤ b := fun b o s h => Nat.le_trans h3.lt (a4 b o s h)
      clear hb4 h3 s3 b3
      go_wp2_with fail
      refine (refBetween_any (w.heap.size + 1) A3 (d.size + X.size + 1) c3 (nb d X) A4 65 c4 (tp ss) _ NBL.out s34 (tp_len HD.out) s4 (by have := T3.out.size; have := HD32.out; omega) (by omega) k3 m3 k4 m4 a3b a4b).mono ?_
      rintro e w6 ⟨A6, n6, c6, B6, m6, d6, q6, rfl, t6, hb6⟩
      have b6 := b4.trans (hb6.mono b4.size)
      have h6 := h4.below hb6 h4.lt
      have k7 : At (w6.alloc (.cells #[.slice none 0 0, .slice none 0 0] 33)) w6.heap.size 33 [.slice none 0 0, .slice none 0 0] := At.new_ w6 _ 33 _ rfl
      have l7 : Below w6.heap.size w6 (w6.alloc (.cells #[.slice none 0 0, .slice none 0 0] 33)) := (Below.refl _ _).alloc (Nat.le_refl _) _
      have h7 := h6.below l7 h6.lt
      have hg7 : w.heap.size < w6.heap.size := h6.lt
      clear hb6 h4 s34 s4 b4 h6
      obtain ⟨g7, hg⟩ : ∃ g7, w6.heap.size = g7 := ⟨_, rfl⟩
      rw [hg] at k7 hg7
      have HG7 := Lib.hid hg
      clear hg
      cases q6 with
      | true =>
        go_wp2_with (first
          | (refine wpList_storeB rfl rfl 33 (.tmp 20) (.tmp 71) rfl clTy g7 (by rw [← HG7.out]; rfl) [.slice A6 n6 c6, .slice B6 m6 d6] rfl 33 _ k7 rfl rfl slices_one ?_; intro x8 k8 o8)
          | (refine wpList_loadA rfl 33 (.tmp 20) rfl clTy g7 0 (by rw [← HG7.out]; rfl) 33 _ k8 [.slice A6 n6 c6, .slice B6 m6 d6] rfl (all_at _) ?_)
          | (refine wpList_storeB rfl rfl 33 (.tmp 12) (.tmp 74) rfl clTy w.heap.size rfl [.slice A6 n6 c6, .slice B6 m6 d6] rfl 33 _ (o8.at_ h7 (by omega)) rfl rfl slices_one ?_; intro x9 k9 o9))
        have l8 := o8.below _ _ l7 (by rw [HG7.out]; exact Nat.le_refl _)
        have b9 := o9.below _ _ (b6.trans (l8.mono b6.size)) (Nat.le_refl _)
        have t9 := ((t6.below l8).only o9 (by omega)).first (o' := ol (ss.drop k) r z false one q0)
        exact bodyPost_ret (v := .tuple #[.agg #[.slice A6 n6 c6, .slice B6 m6 d6], .bool true]) (results_cellA2 rfl clTy _ _ w.heap.size 33 [.slice A6 n6 c6, .slice B6 m6 d6] rfl k9 rfl _ rfl) rfl ⟨A6, n6, c6, B6, m6, d6, true, rfl, by rw [HEQ.out]; exact t9.base (by omega), b9⟩
      | false =>
        go_wp2_with (refine wpList_storeB rfl rfl 33 (.tmp 20) (.tmp 71) rfl clTy g7 (by rw [← HG7.out]; rfl) [.slice A6 n6 c6, .slice B6 m6 d6] rfl 33 _ k7 rfl rfl slices_one ?_; intro x8 k8 o8)
        have l8 := o8.below _ _ l7 (by rw [HG7.out]; exact Nat.le_refl _)
        have b8 := b6.trans (l8.mono b6.size)
        have h8 := o8.at_ h7 (by omega)
        refine (ih A2 r c2 (ss.drop k) r z false one (some ⟨b, o, none⟩) p cp q0 (by omega) _ HDK.out (vD.below b8) (HD.out.drop k) (by omega) (by omega) (by omega) (by omega) (by omega) HO.out HQ.out (hsq.below b8) HDQ.out (by omega) hcp HRO.out).mono ?_
        rintro e w9 ⟨A9, n9, c9, B9, m9, d9, q9, rfl, t9, hb9⟩
        have b9 := b8.trans (hb9.mono b8.size)
        have h9 := h8.below hb9 h8.lt
        have hz8 := h8.lt
        go_wp2_with (refine wpList_storeB rfl rfl 33 (.tmp 12) (.tmp 87) rfl clTy w.heap.size rfl [.slice A9 n9 c9, .slice B9 m9 d9] rfl 33 _ h9 rfl rfl slices_one ?_; intro x10 k10 o10)
        have b10 := o10.below _ _ b9 (Nat.le_refl _)
        have t10 := TC.second t6 (t9.only o10 (by omega))
        exact bodyPost_ret (v := .tuple #[.agg #[.slice A9 n9 c9, .slice B9 m9 d9], .bool q9]) (results_cellA2 rfl clTy _ _ w.heap.size 33 [.slice A9 n9 c9, .slice B9 m9 d9] rfl k10 rfl _ rfl) rfl ⟨A9, n9, c9, B9, m9, d9, q9, rfl, by rw [HEQ.out]; exact t10.base (by omega), b10⟩
set_option maxRecDepth 1000000 in
set_option maxHeartbeats 4000000 in
theorem refFresh : ∀ (f : Nat) (A : Option Addr) (l c : Nat) (ss : List ByteArray) (m n : Nat) (wh : Bool) (one : ByteArray) (C : Option Addr) (lp cp : Nat) (ps : List ByteArray) (_hf : n ≤ f) (w : World) (_hl : ss.length = l) (_hA : Sl w A (scells ss)) (_hd : Digs ss) (_hlc : l ≤ c) (_hll : n = l) (_h1 : 1 ≤ m) (_h2 : m ≤ n) (_hn : n ≤ 1099511627776) (_ho : one.size ≤ 32) (_hlp : ps.length = lp) (_hC : Sl w C (scells ps)) (_hdp : Digs ps) (_hlpc : lp ≤ cp) (_hcp : cp ≤ 9223372036854775807) (_hro : ro m n wh one ps ≠ none),
    Calls Tryd.prog 54 #[.slice A l c, .int .i64 (m : Int), .int .i64 (n : Int), .bool wh, .string one, .slice C lp cp] w fun e w' => ∃ A' n' c' B' m' d' q, e = .returned (.tuple #[.agg #[.slice A' n' c', .slice B' m' d'], .bool q]) ∧ TC w.heap.size w' (fr ss m n wh one ps) A' n' c' B' m' d' q ∧ Below w.heap.size w w' := by
  intro f
  induction f with
  | zero => intro A l c ss m n wh one C lp cp ps hf w hl hA hd hlc hll h1 h2; omega
  | succ f ih =>
    intro A l c ss m n wh one C lp cp ps hf w hl hA hd hlc hll h1 h2 hn ho hlp hC hdp hlpc hcp hro
    subst hll
    have h0 : At (w.alloc (.cells #[.slice none 0 0, .slice none 0 0] 33)) w.heap.size 33 [.slice none 0 0, .slice none 0 0] := At.new_ w _ 33 _ rfl
    have b0 : Below w.heap.size w (w.alloc (.cells #[.slice none 0 0, .slice none 0 0] 33)) := (Below.refl _ _).alloc (Nat.le_refl _) _
    by_cases hmn : m = n
    · have HE : Hid (fr ss m n wh one ps = none) := by show _ = _; rw [hmn]; exact fr_all ss n wh one ps
      have hee : ((m : Int) == (n : Int)) = true := by rw [hmn]; simp
      clear hl hA hd hro hlp hC hdp ih
      go_enter Tryd.func54, Tryd.ntmps54
      go_wp2_with (refine wpList_storeB rfl rfl 33 (.tmp 12) (.tmp 30) rfl clTy w.heap.size rfl [.slice none 0 0, .slice none 0 0] rfl 33 _ h0 rfl rfl slices_one ?_; intro x1 k1 o1)
      have b1 := o1.below _ _ b0 (Nat.le_refl _)
      exact bodyPost_ret (v := .tuple #[.agg #[.slice none 0 0, .slice none 0 0], .bool false]) (results_cellA2 rfl clTy _ _ w.heap.size 33 [.slice none 0 0, .slice none 0 0] rfl k1 rfl _ rfl) rfl ⟨none, 0, 0, none, 0, 0, false, rfl, by rw [HE.out]; exact TC.none_ _ _, b1⟩
    obtain ⟨p, hl1⟩ : ∃ p, lp = 1 + p := by
      rcases Nat.eq_zero_or_pos lp with h | h
      · exact absurd (by rw [List.eq_nil_of_length_eq_zero (show ps.length = 0 by omega)]; exact roots_nil nd h1 (by omega)) hro
      · exact ⟨lp - 1, by omega⟩
    obtain ⟨q0, d, b, o, rfl, hq, rfl, hblt, hcell, hsq, hdq, hd32, hto⟩ := path_parts hlp hC hlpc hl1 hdp
    have sspec := split_spec (n := n) (by omega)
    obtain ⟨k, hk⟩ : ∃ k, k = split n := ⟨_, rfl⟩
    rw [← hk] at sspec
    obtain ⟨k1, kl, kd, _⟩ := sspec
    have HTO := Lib.hid hto
    have hcd := hcell _ b0
    have HQ := Lib.hid hq
    have HDQ := Lib.hid hdq
    have HD32 := Lib.hid hd32
    have HK := Lib.hid hk
    have HO := Lib.hid ho
    have HL := Lib.hid hl
    have HD := Lib.hid hd
    have hne1 : ((m : Int) == (n : Int)) = false := by simpa using (show ¬ (m : Int) = (n : Int) by omega)
    have q1 : (1 : Int) + (p : Int) - 1 = (p : Int) := by omega
    have q3 : ¬ ((1 : Int) + (p : Int) ≤ (p : Int)) := by omega
    have q4 : ¬ ((p : Int) < 0) := by omega
    subst hl1
    by_cases hmk : m ≤ k
    · have k5 : (m : Int) ≤ (k : Int) := by omega
      have HRO : Hid (¬ ro m k wh one q0 = none) := fun h => hro (by
        have e := roots_left nd (wh := wh) (one := one) (d := d) (p := q0) hk h1 (by omega) hmk
        unfold ro at h ⊢
        rw [e, h]; rfl)
      have hto2 := fun w' => run_to (P := Tryd.prog) strsTy w' A n c k .i64 (by omega)
      have vT : Sl w A (scells (ss.take k)) := by rw [← scells_take]; exact hA.take k
      have HTK : Hid ((ss.take k).length = k) := by show _ = _; rw [List.length_take]; omega
      have HEQ1 := Lib.hid (fun (x y : ByteArray) (h : ro m k wh one q0 = some (x, y)) => fr_left (ss := ss) (wh := wh) (one := one) (d := d) (x := x) (y := y) (p := q0) hk h1 (by omega) hmk h)
      clear hk hro hd hl hlp hC hdp hq hcell hdq hd32 hto
      go_enter Tryd.func54, Tryd.ntmps54
      go_wp2_with fail
      refine (refSplit_in n _ (by omega) hn).mono ?_
      rintro e w1 ⟨rfl, rfl⟩
      rw [← HK.out]
      go_wp2_with fail
      clear hcd
      refine (refRoots_any k m k wh one (some ⟨b, o, none⟩) p cp q0 (Nat.le_refl _) _ (by omega) (by omega) (by omega) HO.out HQ.out (hsq.below b0) HDQ.out (by omega) hcp).mono ?_
      rintro e w2 ⟨X, Y, bb, rfl, t3, hb2⟩
      have T3 := Lib.hid t3
      have b2 := b0.trans (hb2.mono b0.size)
      have h2' := h0.below hb2 h0.lt
      obtain rfl : bb = true := by
        cases bb with
        | true => rfl
        | false => exact absurd T3.out.is (HRO.out)
      clear t3 hb2 h0
      go_wp2_with fail
      have HEQ := Lib.hid (HEQ1.out X Y (by have := T3.out.is; exact this))
      refine (refBytes8 Y d _ (by have := T3.out.size; have := HD32.out; omega)).mono ?_
      rintro e w3 ⟨A3, c3, rfl, s3, k3, m3, a3, hb3⟩
      have b3 := b2.trans (hb3.mono b2.size)
      have h3 := h2'.below hb3 h2'.lt
      have a3b : ∀ b o s, A3 = some ⟨b, o, s⟩ → w.heap.size + 1 ≤ b := fun b o s h => Nat.le_trans h2'.lt (a3 b o s h)
      have NBL : Hid ((nb Y d).length = Y.size + d.size + 1) := nb_len _ _
      clear hb3 h2' b2
      go_wp2_with fail
      refine (refTop A n c ss _ HL.out (hA.below b3) HD.out (by omega) hlc (by omega)).mono ?_
      rintro e w4 ⟨A4, c4, rfl, s4, k4, m4, a4, hb4⟩
      have b4 := b3.trans (hb4.mono b3.size)
      have h4 := h3.below hb4 h3.lt
      have s34 := s3.below hb4
      have a4b : ∀ b o s, A4 = some ⟨b, o, s⟩ → w.heap.size + 1 ≤ b := fun b o s h => Nat.le_trans h3.lt (a4 b o s h)
      clear hb4 h3 s3 b3
      go_wp2_with fail
      refine (refBetween_any (w.heap.size + 1) A3 (Y.size + d.size + 1) c3 (nb Y d) A4 65 c4 (tp ss) _ NBL.out s34 (tp_len HD.out) s4 (by have := T3.out.size; have := HD32.out; omega) (by omega) k3 m3 k4 m4 a3b a4b).mono ?_
      rintro e w6 ⟨A6, n6, c6, B6, m6, d6, q6, rfl, t6, hb6⟩
      have b6 := b4.trans (hb6.mono b4.size)
      have h6 := h4.below hb6 h4.lt
      have k7 : At (w6.alloc (.cells #[.slice none 0 0, .slice none 0 0] 33)) w6.heap.size 33 [.slice none 0 0, .slice none 0 0] := At.new_ w6 _ 33 _ rfl
      have l7 : Below w6.heap.size w6 (w6.alloc (.cells #[.slice none 0 0, .slice none 0 0] 33)) := (Below.refl _ _).alloc (Nat.le_refl _) _
      have h7 := h6.below l7 h6.lt
      have hg7 : w.heap.size < w6.heap.size := h6.lt
      clear hb6 h4 s34 s4 b4 h6
      obtain ⟨g7, hg⟩ : ∃ g7, w6.heap.size = g7 := ⟨_, rfl⟩
      rw [hg] at k7 hg7
      have HG7 := Lib.hid hg
      clear hg
      cases q6 with
      | true =>
        go_wp2_with (first
          | (refine wpList_storeB rfl rfl 33 (.tmp 20) (.tmp 64) rfl clTy g7 (by rw [← HG7.out]; rfl) [.slice A6 n6 c6, .slice B6 m6 d6] rfl 33 _ k7 rfl rfl slices_one ?_; intro x8 k8 o8)
          | (refine wpList_loadA rfl 33 (.tmp 20) rfl clTy g7 0 (by rw [← HG7.out]; rfl) 33 _ k8 [.slice A6 n6 c6, .slice B6 m6 d6] rfl (all_at _) ?_)
          | (refine wpList_storeB rfl rfl 33 (.tmp 12) (.tmp 67) rfl clTy w.heap.size rfl [.slice A6 n6 c6, .slice B6 m6 d6] rfl 33 _ (o8.at_ h7 (by omega)) rfl rfl slices_one ?_; intro x9 k9 o9))
        have l8 := o8.below _ _ l7 (by rw [HG7.out]; exact Nat.le_refl _)
        have b9 := o9.below _ _ (b6.trans (l8.mono b6.size)) (Nat.le_refl _)
        have t9 := ((t6.below l8).only o9 (by omega)).first (o' := fr (ss.take k) m k wh one q0)
        exact bodyPost_ret (v := .tuple #[.agg #[.slice A6 n6 c6, .slice B6 m6 d6], .bool true]) (results_cellA2 rfl clTy _ _ w.heap.size 33 [.slice A6 n6 c6, .slice B6 m6 d6] rfl k9 rfl _ rfl) rfl ⟨A6, n6, c6, B6, m6, d6, true, rfl, by rw [HEQ.out]; exact t9.base (by omega), b9⟩
      | false =>
        go_wp2_with (refine wpList_storeB rfl rfl 33 (.tmp 20) (.tmp 64) rfl clTy g7 (by rw [← HG7.out]; rfl) [.slice A6 n6 c6, .slice B6 m6 d6] rfl 33 _ k7 rfl rfl slices_one ?_; intro x8 k8 o8)
        have l8 := o8.below _ _ l7 (by rw [HG7.out]; exact Nat.le_refl _)
        have b8 := b6.trans (l8.mono b6.size)
        have h8 := o8.at_ h7 (by omega)
        refine (ih A k c (ss.take k) m k wh one (some ⟨b, o, none⟩) p cp q0 (by omega) _ HTK.out (vT.below b8) (HD.out.take k) (by omega) rfl h1 hmk (by omega) HO.out HQ.out (hsq.below b8) HDQ.out (by omega) hcp HRO.out).mono ?_
        rintro e w9 ⟨A9, n9, c9, B9, m9, d9, q9, rfl, t9, hb9⟩
        have b9 := b8.trans (hb9.mono b8.size)
        have h9 := h8.below hb9 h8.lt
        have hz8 := h8.lt
        go_wp2_with (refine wpList_storeB rfl rfl 33 (.tmp 12) (.tmp 77) rfl clTy w.heap.size rfl [.slice A9 n9 c9, .slice B9 m9 d9] rfl 33 _ h9 rfl rfl slices_one ?_; intro x10 k10 o10)
        have b10 := o10.below _ _ b9 (Nat.le_refl _)
        have t10 := TC.second t6 (t9.only o10 (by omega))
        exact bodyPost_ret (v := .tuple #[.agg #[.slice A9 n9 c9, .slice B9 m9 d9], .bool q9]) (results_cellA2 rfl clTy _ _ w.heap.size 33 [.slice A9 n9 c9, .slice B9 m9 d9] rfl k10 rfl _ rfl) rfl ⟨A9, n9, c9, B9, m9, d9, q9, rfl, by rw [HEQ.out]; exact t10.base (by omega), b10⟩
    · obtain ⟨r, hr⟩ : ∃ r, m - k = r := ⟨_, rfl⟩
      obtain ⟨z, hz⟩ : ∃ z, n - k = z := ⟨_, rfl⟩
      have k5 : ¬ (m : Int) ≤ (k : Int) := by omega
      have k6 : (m : Int) - (k : Int) = (r : Int) := by omega
      have k7' : (n : Int) - (k : Int) = (z : Int) := by omega
      have HRO : Hid (¬ ro r z false one q0 = none) := fun h => hro (by
        have e := roots_right nd (wh := wh) (one := one) (d := d) (p := q0) hk h1 (by omega) hmk
        unfold ro at h ⊢
        rw [e, hr, hz, h]; rfl)
      have hfr := fun w' => run_from (P := Tryd.prog) strsTy w' A n c k .i64 (by omega)
      have vD : Sl w (if c = k then A else A.map (·.add k)) (scells (ss.drop k)) := by rw [← scells_drop]; exact hA.cut _ _ (by rw [scells_len]; omega)
      obtain ⟨A2, hA2⟩ : ∃ A2, A2 = (if c = k then A else A.map (·.add k)) := ⟨_, rfl⟩
      rw [← hA2] at vD
      simp only [← hA2] at hfr
      obtain ⟨c2, hc2⟩ : ∃ c2, c - k = c2 := ⟨_, rfl⟩
      simp only [hz, hc2] at hfr
      have HDK : Hid ((ss.drop k).length = z) := by show _ = _; rw [List.length_drop, hl]; exact hz
      have HEQ0 := fun (x y : ByteArray) (h : ro r z false one q0 = some (x, y)) => fr_right (ss := ss) (wh := wh) (one := one) (d := d) (x := x) (y := y) (p := q0) hk h1 (by omega) hmk (by rw [hr, hz]; exact h)
      rw [hr, hz] at HEQ0
      have HEQ1 := Lib.hid HEQ0
      clear hk hro hd hl hlp hC hdp hq hcell hdq hd32 hto HEQ0 hA2
      go_enter Tryd.func54, Tryd.ntmps54
      go_wp2_with fail
      refine (refSplit_in n _ (by omega) hn).mono ?_
      rintro e w1 ⟨rfl, rfl⟩
      rw [← HK.out]
      go_wp2_with fail
      clear hcd
      refine (refRoots_any z r z false one (some ⟨b, o, none⟩) p cp q0 (Nat.le_refl _) _ (by omega) (by omega) (by omega) HO.out HQ.out (hsq.below b0) HDQ.out (by omega) hcp).mono ?_
      rintro e w2 ⟨X, Y, bb, rfl, t3, hb2⟩
      have T3 := Lib.hid t3
      have b2 := b0.trans (hb2.mono b0.size)
      have h2' := h0.below hb2 h0.lt
      obtain rfl : bb = true := by
        cases bb with
        | true => rfl
        | false => exact absurd T3.out.is (HRO.out)
      clear t3 hb2 h0
      go_wp2_with fail
      have HEQ := Lib.hid (HEQ1.out X Y (by have := T3.out.is; exact this))
      refine (refBytes8 d Y _ (by have := T3.out.size; have := HD32.out; omega)).mono ?_
      rintro e w3 ⟨A3, c3, rfl, s3, k3, m3, a3, hb3⟩
      have b3 := b2.trans (hb3.mono b2.size)
      have h3 := h2'.below hb3 h2'.lt
      have a3b : ∀ b o s, A3 = some ⟨b, o, s⟩ → w.heap.size + 1 ≤ b := fun b o s h => Nat.le_trans h2'.lt (a3 b o s h)
      have NBL : Hid ((nb d Y).length = d.size + Y.size + 1) := nb_len _ _
      clear hb3 h2' b2
      go_wp2_with fail
      refine (refTop A n c ss _ HL.out (hA.below b3) HD.out (by omega) hlc (by omega)).mono ?_
      rintro e w4 ⟨A4, c4, rfl, s4, k4, m4, a4, hb4⟩
      have b4 := b3.trans (hb4.mono b3.size)
      have h4 := h3.below hb4 h3.lt
      have s34 := s3.below hb4
      have a4b : ∀ b o s, A4 = some ⟨b, o, s⟩ → w.heap.size + 1 ≤ b := fun b o s h => Nat.le_trans h3.lt (a4 b o s h)
      clear hb4 h3 s3 b3
      go_wp2_with fail
      refine (refBetween_any (w.heap.size + 1) A3 (d.size + Y.size + 1) c3 (nb d Y) A4 65 c4 (tp ss) _ NBL.out s34 (tp_len HD.out) s4 (by have := T3.out.size; have := HD32.out; omega) (by omega) k3 m3 k4 m4 a3b a4b).mono ?_
      rintro e w6 ⟨A6, n6, c6, B6, m6, d6, q6, rfl, t6, hb6⟩
      have b6 := b4.trans (hb6.mono b4.size)
      have h6 := h4.below hb6 h4.lt
      have k7 : At (w6.alloc (.cells #[.slice none 0 0, .slice none 0 0] 33)) w6.heap.size 33 [.slice none 0 0, .slice none 0 0] := At.new_ w6 _ 33 _ rfl
      have l7 : Below w6.heap.size w6 (w6.alloc (.cells #[.slice none 0 0, .slice none 0 0] 33)) := (Below.refl _ _).alloc (Nat.le_refl _) _
      have h7 := h6.below l7 h6.lt
      have hg7 : w.heap.size < w6.heap.size := h6.lt
      clear hb6 h4 s34 s4 b4 h6
      obtain ⟨g7, hg⟩ : ∃ g7, w6.heap.size = g7 := ⟨_, rfl⟩
      rw [hg] at k7 hg7
      have HG7 := Lib.hid hg
      clear hg
      cases q6 with
      | true =>
        go_wp2_with (first
          | (refine wpList_storeB rfl rfl 33 (.tmp 25) (.tmp 99) rfl clTy g7 (by rw [← HG7.out]; rfl) [.slice A6 n6 c6, .slice B6 m6 d6] rfl 33 _ k7 rfl rfl slices_one ?_; intro x8 k8 o8)
          | (refine wpList_loadA rfl 33 (.tmp 25) rfl clTy g7 0 (by rw [← HG7.out]; rfl) 33 _ k8 [.slice A6 n6 c6, .slice B6 m6 d6] rfl (all_at _) ?_)
          | (refine wpList_storeB rfl rfl 33 (.tmp 12) (.tmp 102) rfl clTy w.heap.size rfl [.slice A6 n6 c6, .slice B6 m6 d6] rfl 33 _ (o8.at_ h7 (by omega)) rfl rfl slices_one ?_; intro x9 k9 o9))
        have l8 := o8.below _ _ l7 (by rw [HG7.out]; exact Nat.le_refl _)
        have b9 := o9.below _ _ (b6.trans (l8.mono b6.size)) (Nat.le_refl _)
        have t9 := ((t6.below l8).only o9 (by omega)).first (o' := fr (ss.drop k) r z false one q0)
        exact bodyPost_ret (v := .tuple #[.agg #[.slice A6 n6 c6, .slice B6 m6 d6], .bool true]) (results_cellA2 rfl clTy _ _ w.heap.size 33 [.slice A6 n6 c6, .slice B6 m6 d6] rfl k9 rfl _ rfl) rfl ⟨A6, n6, c6, B6, m6, d6, true, rfl, by rw [HEQ.out]; exact t9.base (by omega), b9⟩
      | false =>
        go_wp2_with (refine wpList_storeB rfl rfl 33 (.tmp 25) (.tmp 99) rfl clTy g7 (by rw [← HG7.out]; rfl) [.slice A6 n6 c6, .slice B6 m6 d6] rfl 33 _ k7 rfl rfl slices_one ?_; intro x8 k8 o8)
        have l8 := o8.below _ _ l7 (by rw [HG7.out]; exact Nat.le_refl _)
        have b8 := b6.trans (l8.mono b6.size)
        have h8 := o8.at_ h7 (by omega)
        refine (ih A2 z c2 (ss.drop k) r z false one (some ⟨b, o, none⟩) p cp q0 (by omega) _ HDK.out (vD.below b8) (HD.out.drop k) (by omega) (by omega) (by omega) (by omega) (by omega) HO.out HQ.out (hsq.below b8) HDQ.out (by omega) hcp HRO.out).mono ?_
        rintro e w9 ⟨A9, n9, c9, B9, m9, d9, q9, rfl, t9, hb9⟩
        have b9 := b8.trans (hb9.mono b8.size)
        have h9 := h8.below hb9 h8.lt
        have hz8 := h8.lt
        go_wp2_with (refine wpList_storeB rfl rfl 33 (.tmp 12) (.tmp 115) rfl clTy w.heap.size rfl [.slice A9 n9 c9, .slice B9 m9 d9] rfl 33 _ h9 rfl rfl slices_one ?_; intro x10 k10 o10)
        have b10 := o10.below _ _ b9 (Nat.le_refl _)
        have t10 := TC.second t6 (t9.only o10 (by omega))
        exact bodyPost_ret (v := .tuple #[.agg #[.slice A9 n9 c9, .slice B9 m9 d9], .bool q9]) (results_cellA2 rfl clTy _ _ w.heap.size 33 [.slice A9 n9 c9, .slice B9 m9 d9] rfl k10 rfl _ rfl) rfl ⟨A9, n9, c9, B9, m9, d9, q9, rfl, by rw [HEQ.out]; exact t10.base (by omega), b10⟩
end Go.Proofs.YtihkfomldbjpoaaDoor.ClW

/- rubrickref08: Two. -/
namespace Go.Proofs.YtihkfomldbjpoaaDoor.ClW
open Go.RowKit TreeW ConsW TrW ClashW
open ShaW Sha
set_option maxRecDepth 1000000 in
set_option maxHeartbeats 4000000 in
theorem refTwo8 : ∀ (f : Nat) (A : Option Addr) (l c : Nat) (vs : List Value) (a : List (List UInt8)) (B : Option Addr) (cb : Nat) (us : List Value) (b : List (List UInt8)) (_hf : l ≤ f) (w : World)
    (_hl : a.length = l) (_hA : Sl w A vs) (_hR : RowsAt w vs a) (_hlb : b.length = l) (_hB : Sl w B us) (_hS : RowsAt w us b) (_h1 : 1 ≤ l) (_hlc : l ≤ c) (_hlcb : l ≤ cb) (_hl40 : l ≤ 1099511627776) (_hbd : ∀ x ∈ a, x.length ≤ 100000000000) (_hbb : ∀ x ∈ b, x.length ≤ 100000000000),
    Calls Tryd.prog 21 #[.slice A l c, .slice B l cb] w fun e w' => ∃ A' n' c' B' m' d' q, e = .returned (.tuple #[.agg #[.slice A' n' c', .slice B' m' d'], .bool q]) ∧ TC w.heap.size w' (tc a b) A' n' c' B' m' d' q ∧ Below w.heap.size w w' := by
  intro f
  induction f with
  | zero => intro A l c vs a B cb us b hf w hl hA hR hlb hB hS h1; omega
  | succ f ih =>
    intro A l c vs a B cb us b hf w hl hA hR hlb hB hS h1 hlc hlcb hl40 hbd hbb
    have h0 : At (w.alloc (.cells #[.slice none 0 0, .slice none 0 0] 33)) w.heap.size 33 [.slice none 0 0, .slice none 0 0] := At.new_ w _ 33 _ rfl
    have b0 : Below w.heap.size w (w.alloc (.cells #[.slice none 0 0, .slice none 0 0] 33)) := (Below.refl _ _).alloc (Nat.le_refl _) _
    by_cases h1l : l = 1
    · subst h1l
      have HONE := Lib.hid (tc_one (b := b) hl)
      obtain ⟨ba, oa, rfl, hblt, hcell⟩ := hA.get (j := 0) (by rw [hR.1]; omega)
      obtain ⟨R0, dq, hv, hR0, hRd, hdd⟩ := hR.2 0 (by omega)
      have hc0 : w.cell? ⟨ba, oa, none⟩ = some (.slice R0 (a.getD 0 []).length dq) := hcell 0 _ hv
      have hr40 := hbd (a.getD 0 []) (by simp [List.getD, show 0 < a.length by omega])
      obtain ⟨r0, hr0⟩ : ∃ r0, a.getD 0 [] = r0 := ⟨_, rfl⟩
      rw [hr0] at HONE hR0 hRd hc0 hr40
      obtain ⟨q0, hq0⟩ : ∃ q0, r0.length = q0 := ⟨_, rfl⟩
      rw [hq0] at hRd hc0 hr40
      have HQ0 := Lib.hid hq0
      have HQ1 : Hid ((0 :: r0).length = q0 + 1) := by show _ = _; rw [List.length_cons, hq0]
      have HCELL : Hid (∀ w', Below w.heap.size w w' → w'.cell? ⟨ba, oa, none⟩ = some (.slice R0 q0 dq)) := fun w' hb => (hb.cell (p := ⟨ba, oa, none⟩) hblt).trans hc0
      obtain ⟨bb, ob, rfl, hbltb, hcellb⟩ := hB.get (j := 0) (by rw [hS.1]; omega)
      obtain ⟨S0, dp, hvb, hS0, hSd, hdp⟩ := hS.2 0 (by omega)
      have hc1 : w.cell? ⟨bb, ob, none⟩ = some (.slice S0 (b.getD 0 []).length dp) := hcellb 0 _ hvb
      have hs40 := hbb (b.getD 0 []) (by simp [List.getD, show 0 < b.length by omega])
      obtain ⟨s0, hs0⟩ : ∃ s0, b.getD 0 [] = s0 := ⟨_, rfl⟩
      rw [hs0] at HONE hS0 hSd hc1 hs40
      obtain ⟨p0, hp0⟩ : ∃ p0, s0.length = p0 := ⟨_, rfl⟩
      rw [hp0] at hSd hc1 hs40
      have HP0 := Lib.hid hp0
      have HP1 : Hid ((0 :: s0).length = p0 + 1) := by show _ = _; rw [List.length_cons, hp0]
      have HCELB : Hid (∀ w', Below w.heap.size w w' → w'.cell? ⟨bb, ob, none⟩ = some (.slice S0 p0 dp)) := fun w' hb => (hb.cell (p := ⟨bb, ob, none⟩) hbltb).trans hc1
      have hsz : w.heap.size + 1 ≤ (w.alloc (.cells #[.slice none 0 0, .slice none 0 0] 33)).drew.heap.size := by show _ ≤ (w.alloc _).heap.size; simp
      have b1 := b0.drew
      have h1 := h0.drew
      clear hl hA hR hbd hlb hB hS hbb hcell hv hc0 hr0 hq0 hcellb hvb hc1 hs0 hp0 ih h0
      go_enter Tryd.func21, Tryd.ntmps21
      go_wp2_with fail
      refine regB_begin (w.heap.size) (by kernel_rfl) ?_
      change wpAnyH _ _ _ _ _ 13 #[false, false, false, false, false, false, false, false, false, false, false, false, false] _ _
      refine regB_take (i := 0) (d := some 14) (v := (.slice (some ⟨ba, oa, none⟩) 1 c)) rfl rfl (by kernel_rfl) (by kernel_rfl) (by kernel_rfl) (fun _ _ _ h => h) (by rfl) (by intro w' hSw; go_simp) ?_
      try simp only [Act.put, List.setIfInBounds_toArray, List.set_cons_zero, List.set_cons_succ]
      refine regB_take (i := 1) (d := some 15) (v := (.pointer (some ⟨ba, oa, none⟩))) rfl rfl (by kernel_rfl) (by kernel_rfl) (by kernel_rfl) (fun _ _ _ h => h) (by rfl) (by intro w' hSw; go_simp) ?_
      try simp only [Act.put, List.setIfInBounds_toArray, List.set_cons_zero, List.set_cons_succ]
      refine regB_take (i := 2) (d := some 16) (v := (.slice R0 q0 dq)) rfl rfl (by kernel_rfl) (by kernel_rfl) (by kernel_rfl) (fun _ _ _ h => h) (by rfl) (by intro w' hSw; have h9 := HCELL.out w' (b1.trans hSw); go_simp) ?_
      try simp only [Act.put, List.setIfInBounds_toArray, List.set_cons_zero, List.set_cons_succ]
      refine regB_take (i := 4) (d := some 18) (v := (.slice (some ⟨bb, ob, none⟩) 1 cb)) rfl rfl (by kernel_rfl) (by kernel_rfl) (by kernel_rfl) (fun _ _ _ h => h) (by rfl) (by intro w' hSw; go_simp) ?_
      try simp only [Act.put, List.setIfInBounds_toArray, List.set_cons_zero, List.set_cons_succ]
      refine regB_take (i := 5) (d := some 19) (v := (.pointer (some ⟨bb, ob, none⟩))) rfl rfl (by kernel_rfl) (by kernel_rfl) (by kernel_rfl) (fun _ _ _ h => h) (by rfl) (by intro w' hSw; go_simp) ?_
      try simp only [Act.put, List.setIfInBounds_toArray, List.set_cons_zero, List.set_cons_succ]
      refine regB_take (i := 6) (d := some 20) (v := (.slice S0 p0 dp)) rfl rfl (by kernel_rfl) (by kernel_rfl) (by kernel_rfl) (fun _ _ _ h => h) (by rfl) (by intro w' hSw; have h9 := HCELB.out w' (b1.trans hSw); go_simp) ?_
      try simp only [Act.put, List.setIfInBounds_toArray, List.set_cons_zero, List.set_cons_succ]
      refine regB_call (i := 3) rfl (by kernel_rfl) (by rfl) fun K hK => ?_
      go_simp
      refine (SealW.refBytes_new 0 R0 q0 dq r0 _ HQ0.out (hR0.below b1) (by omega)).mono ?_
      rintro e w2 ⟨A2, c2, rfl, s2, k2, m2, a2, hb2⟩
      have b2 := b1.trans (hb2.mono b1.size)
      have a2b : ∀ b o s, A2 = some ⟨b, o, s⟩ → w.heap.size + 1 ≤ b := fun b o s h => Nat.le_trans hsz (a2 b o s h)
      have h2 := h1.below hb2 h1.lt
      refine hK.out _ _ (hb2.mono b1.size) ?_
      clear hK K
      try simp only [List.setIfInBounds_toArray, List.set_cons_zero, List.set_cons_succ]
      refine regB_call (i := 7) rfl (by kernel_rfl) (by rfl) fun K hK => ?_
      go_simp
      refine (SealW.refBytes_new 0 S0 p0 dp s0 _ HP0.out (hS0.below b2) (by omega)).mono ?_
      rintro e w3 ⟨A3, c3, rfl, s3, k3, m3, a3, hb3⟩
      have b3 := b2.trans (hb3.mono b2.size)
      have a3b : ∀ b o s, A3 = some ⟨b, o, s⟩ → w.heap.size + 1 ≤ b := fun b o s h => Nat.le_trans (Nat.le_trans hsz hb2.size) (a3 b o s h)
      have h3 := h2.below hb3 h2.lt
      have s23 := s2.below hb3
      clear s2 h2
      refine hK.out _ _ (hb3.mono b2.size) ?_
      clear hK K
      try simp only [List.setIfInBounds_toArray, List.set_cons_zero, List.set_cons_succ]
      refine regB_call (i := 8) rfl (by kernel_rfl) (by rfl) fun K hK => ?_
      go_simp
      refine (refBetween_any (w.heap.size + 1) A2 (q0 + 1) c2 (0 :: r0) A3 (p0 + 1) c3 (0 :: s0) _ HQ1.out s23 HP1.out s3 (by omega) (by omega) k2 m2 k3 m3 a2b a3b).mono ?_
      rintro e w5 ⟨A5, n5, c5, B5, m5, d5, q5, rfl, t5, hb5⟩
      have b5 := b3.trans (hb5.mono b3.size)
      have h5 := h3.below hb5 h3.lt
      clear h3 s23 s3
      refine hK.out _ _ (hb5.mono b3.size) ?_
      clear hK K
      try simp only [List.setIfInBounds_toArray, List.set_cons_zero, List.set_cons_succ]
      refine regB_take (i := 9) (d := some 23) (v := (.agg #[.slice A5 n5 c5, .slice B5 m5 d5])) rfl rfl (by kernel_rfl) (by kernel_rfl) (by kernel_rfl) (fun _ _ _ h => h) (by rfl) (by intro w' hSw; go_simp) ?_
      try simp only [Act.put, List.setIfInBounds_toArray, List.set_cons_zero, List.set_cons_succ]
      refine regB_take (i := 10) (d := some 24) (v := (.bool q5)) rfl rfl (by kernel_rfl) (by kernel_rfl) (by kernel_rfl) (fun _ _ _ h => h) (by rfl) (by intro w' hSw; go_simp) ?_
      try simp only [Act.put, List.setIfInBounds_toArray, List.set_cons_zero, List.set_cons_succ]
      refine regB_call (i := 11) rfl (by kernel_rfl) (by rfl) fun K hK => ?_
      refine oper_storeB rfl 33 (.tmp 4) (.tmp 23) rfl clTy w.heap.size (by first | rfl | (rw [← HG7.out]; rfl)) [.slice A5 n5 c5, .slice B5 m5 d5] rfl 33 _ h5 rfl rfl slices_one ?_
      intro x6 k6 o6
      have b6 := o6.below _ _ b5 (Nat.le_refl _)
      have t6 := t5.only o6 (by omega)
      refine hK.out _ _ (o6.below _ _ (Below.refl _ _) (Nat.le_refl _)) ?_
      clear hK K
      try simp only [List.setIfInBounds_toArray, List.set_cons_zero, List.set_cons_succ]
      refine regB_take (i := 12) (d := some 5) (v := (.bool q5)) rfl rfl (by kernel_rfl) (by kernel_rfl) (by kernel_rfl) (fun _ _ _ h => h) (by rfl) (by intro w' hSw; go_simp) ?_
      try simp only [Act.put, List.setIfInBounds_toArray, List.set_cons_zero, List.set_cons_succ]
      refine wpAnyH_done (by kernel_rfl) ?_ _
      go_wp2_with fail
      exact bodyPost_ret (v := .tuple #[.agg #[.slice A5 n5 c5, .slice B5 m5 d5], .bool q5]) (results_cellA2 rfl clTy _ _ w.heap.size 33 [.slice A5 n5 c5, .slice B5 m5 d5] rfl k6 rfl _ rfl) rfl ⟨A5, n5, c5, B5, m5, d5, q5, rfl, by rw [HONE.out]; exact t6.base (by omega), b6⟩

    have sspec := split_spec (n := l) (by omega)
    obtain ⟨k, hk⟩ : ∃ k, k = split l := ⟨_, rfl⟩
    rw [← hk] at sspec
    obtain ⟨k1, kl, _, _⟩ := sspec
    obtain ⟨q, c2, A2, kq, qc, cc, tk, dq, vT, vD, RT, RD, htoA, hfrA⟩ := halvesV (c := c) hl hA hR kl hlc
    obtain ⟨q', c3, B2, kq', qc', cc', tkb, dqb, uT, uD, ST, SD, htoB, hfrB⟩ := halvesV (c := cb) hlb hB hS kl hlcb
    obtain rfl : q = q' := by omega
    have HK := Lib.hid hk
    have HTK := Lib.hid tk
    have HDK := Lib.hid dq
    have HTKB := Lib.hid tkb
    have HDKB := Lib.hid dqb
    have HTA := Lib.hid htoA
    have HFA := Lib.hid hfrA
    have HTB := Lib.hid htoB
    have HFB := Lib.hid hfrB
    have HBD := Lib.hid hbd
    have HBB := Lib.hid hbb
    have HTWO := Lib.hid (tc_two (a := a) (b := b) (k := k) (by rw [hl]; exact hk) (by omega))
    have HTLA : Hid ((tp (a.map lf)).length = 65) := tp_len (lf_digs a)
    have HTLB : Hid ((tp (b.map lf)).length = 65) := tp_len (lf_digs b)
    have HLLA : Hid ((a.map lf).length = l) := by show _ = _; rw [List.length_map, hl]
    have HLLB : Hid ((b.map lf).length = l) := by show _ = _; rw [List.length_map, hlb]
    have hne1 : ((l : Int) == 1) = false := by simpa using (show ¬ (l : Int) = 1 by omega)
    have HLV := Lib.hid (fun (W : World) (hb : Below w.heap.size w W) => refLeaves_any A l c vs a W hl (hA.below hb) (hR.below hb) hl40 (fun x hx => Nat.le_trans (hbd x hx) (by omega)))
    have HLW := Lib.hid (fun (W : World) (hb : Below w.heap.size w W) => refLeaves_any B l cb us b W hlb (hB.below hb) (hS.below hb) hl40 (fun x hx => Nat.le_trans (hbb x hx) (by omega)))
    clear hl hA hR hbd hlb hB hS hbb hk tk dq tkb dqb htoA hfrA htoB hfrB
    go_enter Tryd.func21, Tryd.ntmps21
    go_wp2_with fail
    refine (HLV.out _ b0).mono ?_
    rintro e w2 ⟨v2, rfl, hown2, hb2⟩
    have b2 := b0.trans (hb2.mono b0.size)
    have h2 := h0.below hb2 h0.lt
    obtain ⟨A4, c4, rfl, sl4, hc4, hm4, _⟩ := hown2.slice
    rw [HLLA.out] at hc4 ⊢
    clear hown2 hb2 h0
    go_wp2_with fail
    refine (refTop A4 l c4 (a.map lf) _ HLLA.out sl4 (lf_digs a) (by omega) hc4 hl40).mono ?_
    rintro e w3 ⟨A3, c5, rfl, s3, k3, m3, a3, hb3⟩
    have b3 := b2.trans (hb3.mono b2.size)
    have h3 := h2.below hb3 h2.lt
    have a3b : ∀ b o s, A3 = some ⟨b, o, s⟩ → w.heap.size + 1 ≤ b := fun b o s h => Nat.le_trans h2.lt (a3 b o s h)
    clear hb3 h2 sl4
    go_wp2_with fail
    refine (HLW.out _ b3).mono ?_
    rintro e w4 ⟨v4, rfl, hown4, hb4⟩
    have b4 := b3.trans (hb4.mono b3.size)
    have h4 := h3.below hb4 h3.lt
    have s4 := s3.below hb4
    obtain ⟨A5, c6, rfl, sl5, hc5, hm5, _⟩ := hown4.slice
    rw [HLLB.out] at hc5 ⊢
    clear hown4 hb4 h3 s3
    go_wp2_with fail
    refine (refTop A5 l c6 (b.map lf) _ HLLB.out sl5 (lf_digs b) (by omega) hc5 hl40).mono ?_
    rintro e w5 ⟨A7, c7, rfl, s5, k5, m5, a5, hb5⟩
    have b5 := b4.trans (hb5.mono b4.size)
    have h5 := h4.below hb5 h4.lt
    have s45 := s4.below hb5
    have a5b : ∀ b o s, A7 = some ⟨b, o, s⟩ → w.heap.size + 1 ≤ b := fun b o s h => Nat.le_trans h4.lt (a5 b o s h)
    clear hb5 h4 sl5 s4
    go_wp2_with fail
    refine (refBetween_any (w.heap.size + 1) A3 65 c5 (tp (a.map lf)) A7 65 c7 (tp (b.map lf)) _ HTLA.out s45 HTLB.out s5 (by omega) (by omega) k3 m3 k5 m5 a3b a5b).mono ?_
    rintro e w6 ⟨A6, n6, c6, B6, m6, d6, q6, rfl, t6, hb6⟩
    have b6 := b5.trans (hb6.mono b5.size)
    have h6 := h5.below hb6 h5.lt
    have k7 : At (w6.alloc (.cells #[.slice none 0 0, .slice none 0 0] 33)) w6.heap.size 33 [.slice none 0 0, .slice none 0 0] := At.new_ w6 _ 33 _ rfl
    have l7 : Below w6.heap.size w6 (w6.alloc (.cells #[.slice none 0 0, .slice none 0 0] 33)) := (Below.refl _ _).alloc (Nat.le_refl _) _
    have h7 := h6.below l7 h6.lt
    have hg7 : w.heap.size < w6.heap.size := h6.lt
    clear hb6 h5 s45 s5 b5 h6 b2 b3 b4
    obtain ⟨g7, hg⟩ : ∃ g7, w6.heap.size = g7 := ⟨_, rfl⟩
    rw [hg] at k7 hg7
    have HG7 := Lib.hid hg
    clear hg
    cases q6 with
    | true =>
      go_wp2_with (first
        | (refine wpList_storeB rfl rfl 33 (.tmp 6) (.tmp 33) rfl clTy g7 (by rw [← HG7.out]; rfl) [.slice A6 n6 c6, .slice B6 m6 d6] rfl 33 _ k7 rfl rfl slices_one ?_; intro x8 k8 o8)
        | (refine wpList_loadA rfl 33 (.tmp 6) rfl clTy g7 0 (by rw [← HG7.out]; rfl) 33 _ k8 [.slice A6 n6 c6, .slice B6 m6 d6] rfl (all_at _) ?_)
        | (refine wpList_storeB rfl rfl 33 (.tmp 4) (.tmp 36) rfl clTy w.heap.size rfl [.slice A6 n6 c6, .slice B6 m6 d6] rfl 33 _ (o8.at_ h7 (by omega)) rfl rfl slices_one ?_; intro x9 k9 o9))
      have l8 := o8.below _ _ l7 (by rw [HG7.out]; exact Nat.le_refl _)
      have b9 := o9.below _ _ (b6.trans (l8.mono b6.size)) (Nat.le_refl _)
      have t9 := ((t6.below l8).only o9 (by omega)).first (o' := orE (tc (a.take k) (b.take k)) (tc (a.drop k) (b.drop k)))
      exact bodyPost_ret (v := .tuple #[.agg #[.slice A6 n6 c6, .slice B6 m6 d6], .bool true]) (results_cellA2 rfl clTy _ _ w.heap.size 33 [.slice A6 n6 c6, .slice B6 m6 d6] rfl k9 rfl _ rfl) rfl ⟨A6, n6, c6, B6, m6, d6, true, rfl, by rw [HTWO.out]; exact t9.base (by omega), b9⟩
    | false =>
      go_wp2_with (first
        | (refine wpList_storeB rfl rfl 33 (.tmp 6) (.tmp 33) rfl clTy g7 (by rw [← HG7.out]; rfl) [.slice A6 n6 c6, .slice B6 m6 d6] rfl 33 _ k7 rfl rfl slices_one ?_; intro x8 k8 o8))
      have l8 := o8.below _ _ l7 (by rw [HG7.out]; exact Nat.le_refl _)
      have b8 := b6.trans (l8.mono b6.size)
      have h8 := o8.at_ h7 (by omega)
      refine (refSplit_in l _ (by omega) hl40).mono ?_
      rintro e w8 ⟨rfl, rfl⟩
      rw [← HK.out]
      have b8d := b8.drew
      have h8d := h8.drew
      go_wp2_with fail
      refine regB_begin (w.heap.size) (by kernel_rfl) ?_
      change wpAnyH _ _ _ _ _ 13 #[false, false, false, false, false, false, false, false, false, false, false, false, false] _ _
      refine regB_take (i := 0) (d := some 41) (v := (.slice A l c)) rfl rfl (by kernel_rfl) (by kernel_rfl) (by kernel_rfl) (fun _ _ _ h => h) (by rfl) (by intro w' hSw; go_simp) ?_
      try simp only [Act.put, List.setIfInBounds_toArray, List.set_cons_zero, List.set_cons_succ]
      refine regB_take (i := 1) (d := some 42) (v := (.int .i64 (k : Int))) rfl rfl (by kernel_rfl) (by kernel_rfl) (by kernel_rfl) (fun _ _ _ h => h) (by rfl) (by intro w' hSw; go_simp) ?_
      try simp only [Act.put, List.setIfInBounds_toArray, List.set_cons_zero, List.set_cons_succ]
      refine regB_take (i := 2) (d := some 43) (v := (.slice A k c)) rfl rfl (by kernel_rfl) (by kernel_rfl) (by kernel_rfl) (fun _ _ _ h => h) (by rfl) (by intro w' hSw; have h9 := HTA.out w'; go_simp) ?_
      try simp only [Act.put, List.setIfInBounds_toArray, List.set_cons_zero, List.set_cons_succ]
      refine regB_take (i := 3) (d := some 44) (v := (.slice B l cb)) rfl rfl (by kernel_rfl) (by kernel_rfl) (by kernel_rfl) (fun _ _ _ h => h) (by rfl) (by intro w' hSw; go_simp) ?_
      try simp only [Act.put, List.setIfInBounds_toArray, List.set_cons_zero, List.set_cons_succ]
      refine regB_take (i := 4) (d := some 45) (v := (.int .i64 (k : Int))) rfl rfl (by kernel_rfl) (by kernel_rfl) (by kernel_rfl) (fun _ _ _ h => h) (by rfl) (by intro w' hSw; go_simp) ?_
      try simp only [Act.put, List.setIfInBounds_toArray, List.set_cons_zero, List.set_cons_succ]
      refine regB_take (i := 5) (d := some 46) (v := (.slice B k cb)) rfl rfl (by kernel_rfl) (by kernel_rfl) (by kernel_rfl) (fun _ _ _ h => h) (by rfl) (by intro w' hSw; have h9 := HTB.out w'; go_simp) ?_
      try simp only [Act.put, List.setIfInBounds_toArray, List.set_cons_zero, List.set_cons_succ]
      refine regB_two (i := 6) (j := 10) rfl rfl (by kernel_rfl) (by rfl) (by rfl) (fun K hK => ?_) (fun K hK => ?_)
      · go_simp
        refine (ih A k c (vs.take k) (a.take k) B cb (us.take k) (b.take k) (by omega) _ HTK.out (vT.below b8d) (RT.below b8d) HTKB.out (uT.below b8d) (ST.below b8d) k1 (by omega) (by omega) (by omega) (fun x hx => HBD.out x (List.mem_of_mem_take hx)) (fun x hx => HBB.out x (List.mem_of_mem_take hx))).mono ?_
        rintro e w9 ⟨A9, n9, c9, B9, m9, d9, q9, rfl, t9, hb9⟩
        have b9 := b8d.trans (hb9.mono b8d.size)
        have h9 := h8d.below hb9 h8d.lt
        refine hK.out _ _ (hb9.mono b8d.size) ?_
        clear hK K
        try simp only [List.setIfInBounds_toArray, List.set_cons_zero, List.set_cons_succ]
        refine regB_take (i := 7) (d := some 40) (v := (.tuple #[.agg #[.slice A9 n9 c9, .slice B9 m9 d9], .bool q9])) rfl rfl (by kernel_rfl) (by kernel_rfl) (by kernel_rfl) (fun _ _ _ h => h) (by rfl) (by intro w' hSw; go_simp) ?_
        try simp only [Act.put, List.setIfInBounds_toArray, List.set_cons_zero, List.set_cons_succ]
        refine regB_take (i := 8) (d := some 48) (v := (.agg #[.slice A9 n9 c9, .slice B9 m9 d9])) rfl rfl (by kernel_rfl) (by kernel_rfl) (by kernel_rfl) (fun _ _ _ h => h) (by rfl) (by intro w' hSw; go_simp) ?_
        try simp only [Act.put, List.setIfInBounds_toArray, List.set_cons_zero, List.set_cons_succ]
        refine regB_take (i := 9) (d := some 49) (v := (.bool q9)) rfl rfl (by kernel_rfl) (by kernel_rfl) (by kernel_rfl) (fun _ _ _ h => h) (by rfl) (by intro w' hSw; go_simp) ?_
        try simp only [Act.put, List.setIfInBounds_toArray, List.set_cons_zero, List.set_cons_succ]
        refine regB_call (i := 10) rfl (by kernel_rfl) (by rfl) fun K hK => ?_
        have b10 := b9.alloc b9.size (.cells #[.slice none 0 0, .slice none 0 0] 33)
        have l10 : Below w9.heap.size w9 (w9.alloc (.cells #[.slice none 0 0, .slice none 0 0] 33)) := (Below.refl _ _).alloc (Nat.le_refl _) _
        have k10 : At (w9.alloc (.cells #[.slice none 0 0, .slice none 0 0] 33)) w9.heap.size 33 [.slice none 0 0, .slice none 0 0] := At.new_ w9 _ 33 _ rfl
        have h10 := h9.below l10 h9.lt
        have t10 := t9.below l10
        have hg10 : w.heap.size < w9.heap.size := h9.lt
        go_simp
        refine hK.out _ _ ((Below.refl _ _).alloc b9.size _) ?_
        clear hK K
        try simp only [List.setIfInBounds_toArray, List.set_cons_zero, List.set_cons_succ]
        refine regB_call (i := 11) rfl (by kernel_rfl) (by rfl) fun K hK => ?_
        refine oper_storeB rfl 33 (.tmp 9) (.tmp 48) rfl clTy (w9.heap.size) rfl [.slice A9 n9 c9, .slice B9 m9 d9] rfl 33 _ k10 rfl rfl slices_one ?_
        intro x11 k11 o11
        have b11 := o11.below _ _ b10 (Nat.le_of_lt hg10)
        have h11 := o11.at_ h10 (by omega)
        have t11 := t9.below (o11.below _ _ l10 (Nat.le_refl _))
        refine hK.out _ _ (o11.below _ _ (Below.refl _ _) (Nat.le_of_lt hg10)) ?_
        clear hK K
        try simp only [List.setIfInBounds_toArray, List.set_cons_zero, List.set_cons_succ]
        refine regB_take (i := 12) (d := some 10) (v := (.bool q9)) rfl rfl (by kernel_rfl) (by kernel_rfl) (by kernel_rfl) (fun _ _ _ h => h) (by rfl) (by intro w' hSw; go_simp) ?_
        try simp only [Act.put, List.setIfInBounds_toArray, List.set_cons_zero, List.set_cons_succ]
        refine wpAnyH_done (by kernel_rfl) ?_ _
        cases q9 with
        | true =>
          go_wp2_with (first
            | (refine wpList_loadA rfl 33 (.tmp 9) rfl clTy (w9.heap.size) 0 rfl 33 _ k11 [.slice A9 n9 c9, .slice B9 m9 d9] rfl (all_at _) ?_)
            | (refine wpList_storeB rfl rfl 33 (.tmp 4) (.tmp 51) rfl clTy w.heap.size rfl [.slice A9 n9 c9, .slice B9 m9 d9] rfl 33 _ h11 rfl rfl slices_one ?_; intro x12 k12 o12))
          have b12 := o12.below _ _ b11 (Nat.le_refl _)
          have hz8 := h8d.lt
          have t12 := TC.second t6 (((t11.only o12 (by simp at hz8 ⊢; omega)).first (o' := tc (a.drop k) (b.drop k))))
          exact bodyPost_ret (v := .tuple #[.agg #[.slice A9 n9 c9, .slice B9 m9 d9], .bool true]) (results_cellA2 rfl clTy _ _ w.heap.size 33 [.slice A9 n9 c9, .slice B9 m9 d9] rfl k12 rfl _ rfl) rfl ⟨A9, n9, c9, B9, m9, d9, true, rfl, by rw [HTWO.out]; exact t12.base (by simp at hz8 ⊢; omega), b12⟩
        | false =>
          have b11d := b11.drew
          have h11d := h11.drew
          go_wp2_with fail
          refine regB_begin (w.heap.size) (by kernel_rfl) ?_
          change wpAnyH _ _ _ _ _ 11 #[false, false, false, false, false, false, false, false, false, false, false] _ _
          refine regB_take (i := 0) (d := some 52) (v := (.slice A l c)) rfl rfl (by kernel_rfl) (by kernel_rfl) (by kernel_rfl) (fun _ _ _ h => h) (by rfl) (by intro w' hSw; go_simp) ?_
          try simp only [Act.put, List.setIfInBounds_toArray, List.set_cons_zero, List.set_cons_succ]
          refine regB_take (i := 1) (d := some 53) (v := (.int .i64 (k : Int))) rfl rfl (by kernel_rfl) (by kernel_rfl) (by kernel_rfl) (fun _ _ _ h => h) (by rfl) (by intro w' hSw; go_simp) ?_
          try simp only [Act.put, List.setIfInBounds_toArray, List.set_cons_zero, List.set_cons_succ]
          refine regB_take (i := 2) (d := some 54) (v := (.slice A2 q c2)) rfl rfl (by kernel_rfl) (by kernel_rfl) (by kernel_rfl) (fun _ _ _ h => h) (by rfl) (by intro w' hSw; have h9 := HFA.out w'; go_simp) ?_
          try simp only [Act.put, List.setIfInBounds_toArray, List.set_cons_zero, List.set_cons_succ]
          refine regB_take (i := 3) (d := some 55) (v := (.slice B l cb)) rfl rfl (by kernel_rfl) (by kernel_rfl) (by kernel_rfl) (fun _ _ _ h => h) (by rfl) (by intro w' hSw; go_simp) ?_
          try simp only [Act.put, List.setIfInBounds_toArray, List.set_cons_zero, List.set_cons_succ]
          refine regB_take (i := 4) (d := some 56) (v := (.int .i64 (k : Int))) rfl rfl (by kernel_rfl) (by kernel_rfl) (by kernel_rfl) (fun _ _ _ h => h) (by rfl) (by intro w' hSw; go_simp) ?_
          try simp only [Act.put, List.setIfInBounds_toArray, List.set_cons_zero, List.set_cons_succ]
          refine regB_take (i := 5) (d := some 57) (v := (.slice B2 q c3)) rfl rfl (by kernel_rfl) (by kernel_rfl) (by kernel_rfl) (fun _ _ _ h => h) (by rfl) (by intro w' hSw; have h9 := HFB.out w'; go_simp) ?_
          try simp only [Act.put, List.setIfInBounds_toArray, List.set_cons_zero, List.set_cons_succ]
          refine regB_call (i := 6) rfl (by kernel_rfl) (by rfl) fun K hK => ?_
          go_simp
          refine (ih A2 q c2 (vs.drop k) (a.drop k) B2 c3 (us.drop k) (b.drop k) (by omega) _ HDK.out (vD.below b11d) (RD.below b11d) HDKB.out (uD.below b11d) (SD.below b11d) (by omega) (by omega) (by omega) (by omega) (fun x hx => HBD.out x (List.mem_of_mem_drop hx)) (fun x hx => HBB.out x (List.mem_of_mem_drop hx))).mono ?_
          rintro e w12 ⟨A12, n12, c12, B12, m12, d12, q12, rfl, t12, hb12⟩
          have b12 := b11d.trans (hb12.mono b11d.size)
          have h12 := h11d.below hb12 h11d.lt
          have hz11 := h11d.lt
          refine hK.out _ _ (hb12.mono b11d.size) ?_
          clear hK K
          try simp only [List.setIfInBounds_toArray, List.set_cons_zero, List.set_cons_succ]
          refine regB_take (i := 7) (d := some 59) (v := (.agg #[.slice A12 n12 c12, .slice B12 m12 d12])) rfl rfl (by kernel_rfl) (by kernel_rfl) (by kernel_rfl) (fun _ _ _ h => h) (by rfl) (by intro w' hSw; go_simp) ?_
          try simp only [Act.put, List.setIfInBounds_toArray, List.set_cons_zero, List.set_cons_succ]
          refine regB_take (i := 8) (d := some 60) (v := (.bool q12)) rfl rfl (by kernel_rfl) (by kernel_rfl) (by kernel_rfl) (fun _ _ _ h => h) (by rfl) (by intro w' hSw; go_simp) ?_
          try simp only [Act.put, List.setIfInBounds_toArray, List.set_cons_zero, List.set_cons_succ]
          refine regB_call (i := 9) rfl (by kernel_rfl) (by rfl) fun K hK => ?_
          refine oper_storeB rfl 33 (.tmp 4) (.tmp 59) rfl clTy w.heap.size (by first | rfl | (rw [← HG7.out]; rfl)) [.slice A12 n12 c12, .slice B12 m12 d12] rfl 33 _ h12 rfl rfl slices_one ?_
          intro x13 k13 o13
          have b13 := o13.below _ _ b12 (Nat.le_refl _)
          have t13 := TC.second t6 (TC.second t9 (t12.only o13 (by omega)))
          refine hK.out _ _ (o13.below _ _ (Below.refl _ _) (Nat.le_refl _)) ?_
          clear hK K
          try simp only [List.setIfInBounds_toArray, List.set_cons_zero, List.set_cons_succ]
          refine regB_take (i := 10) (d := some 5) (v := (.bool q12)) rfl rfl (by kernel_rfl) (by kernel_rfl) (by kernel_rfl) (fun _ _ _ h => h) (by rfl) (by intro w' hSw; go_simp) ?_
          try simp only [Act.put, List.setIfInBounds_toArray, List.set_cons_zero, List.set_cons_succ]
          refine wpAnyH_done (by kernel_rfl) ?_ _
          go_wp2_with fail
          exact bodyPost_ret (v := .tuple #[.agg #[.slice A12 n12 c12, .slice B12 m12 d12], .bool q12]) (results_cellA2 rfl clTy _ _ w.heap.size 33 [.slice A12 n12 c12, .slice B12 m12 d12] rfl k13 rfl _ rfl) rfl ⟨A12, n12, c12, B12, m12, d12, q12, rfl, by rw [HTWO.out]; exact t13.base (by omega), b13⟩
      · have b8e := b8d.alloc b8d.size (.cells #[.slice none 0 0, .slice none 0 0] 33)
        have l8e : Below x8.drew.heap.size x8.drew (x8.drew.alloc (.cells #[.slice none 0 0, .slice none 0 0] 33)) := (Below.refl _ _).alloc (Nat.le_refl _) _
        have k8e : At (x8.drew.alloc (.cells #[.slice none 0 0, .slice none 0 0] 33)) x8.drew.heap.size 33 [.slice none 0 0, .slice none 0 0] := At.new_ x8.drew _ 33 _ rfl
        have h8e := h8d.below l8e h8d.lt
        have hg10 : w.heap.size < x8.drew.heap.size := h8d.lt
        have k8el := k8e.lt
        go_simp
        refine hK.out _ _ ((Below.refl _ _).alloc b8d.size _) ?_
        clear hK K
        try simp only [List.setIfInBounds_toArray, List.set_cons_zero, List.set_cons_succ]
        refine regB_call (i := 6) rfl (by kernel_rfl) (by rfl) fun K hK => ?_
        go_simp
        refine (ih A k c (vs.take k) (a.take k) B cb (us.take k) (b.take k) (by omega) _ HTK.out (vT.below b8e) (RT.below b8e) HTKB.out (uT.below b8e) (ST.below b8e) k1 (by omega) (by omega) (by omega) (fun x hx => HBD.out x (List.mem_of_mem_take hx)) (fun x hx => HBB.out x (List.mem_of_mem_take hx))).mono ?_
        rintro e w9 ⟨A9, n9, c9, B9, m9, d9, q9, rfl, t9, hb9⟩
        have b9 := b8e.trans (hb9.mono b8e.size)
        have h9 := h8e.below hb9 h8e.lt
        have k10 := k8e.below hb9 k8e.lt
        have t10 := t9
        have h10 := h9
        have b10 := b9
        refine hK.out _ _ (hb9.mono b8e.size) ?_
        clear hK K
        try simp only [List.setIfInBounds_toArray, List.set_cons_zero, List.set_cons_succ]
        refine regB_take (i := 7) (d := some 40) (v := (.tuple #[.agg #[.slice A9 n9 c9, .slice B9 m9 d9], .bool q9])) rfl rfl (by kernel_rfl) (by kernel_rfl) (by kernel_rfl) (fun _ _ _ h => h) (by rfl) (by intro w' hSw; go_simp) ?_
        try simp only [Act.put, List.setIfInBounds_toArray, List.set_cons_zero, List.set_cons_succ]
        refine regB_take (i := 8) (d := some 48) (v := (.agg #[.slice A9 n9 c9, .slice B9 m9 d9])) rfl rfl (by kernel_rfl) (by kernel_rfl) (by kernel_rfl) (fun _ _ _ h => h) (by rfl) (by intro w' hSw; go_simp) ?_
        try simp only [Act.put, List.setIfInBounds_toArray, List.set_cons_zero, List.set_cons_succ]
        refine regB_take (i := 9) (d := some 49) (v := (.bool q9)) rfl rfl (by kernel_rfl) (by kernel_rfl) (by kernel_rfl) (fun _ _ _ h => h) (by rfl) (by intro w' hSw; go_simp) ?_
        try simp only [Act.put, List.setIfInBounds_toArray, List.set_cons_zero, List.set_cons_succ]
        refine regB_call (i := 11) rfl (by kernel_rfl) (by rfl) fun K hK => ?_
        refine oper_storeB rfl 33 (.tmp 9) (.tmp 48) rfl clTy (x8.drew.heap.size) rfl [.slice A9 n9 c9, .slice B9 m9 d9] rfl 33 _ k10 rfl rfl slices_one ?_
        intro x11 k11 o11
        have b11 := o11.below _ _ b10 (Nat.le_of_lt hg10)
        have h11 := o11.at_ h10 (by omega)
        have t11 := t10.only o11 k8el
        refine hK.out _ _ (o11.below _ _ (Below.refl _ _) (Nat.le_of_lt hg10)) ?_
        clear hK K
        try simp only [List.setIfInBounds_toArray, List.set_cons_zero, List.set_cons_succ]
        refine regB_take (i := 12) (d := some 10) (v := (.bool q9)) rfl rfl (by kernel_rfl) (by kernel_rfl) (by kernel_rfl) (fun _ _ _ h => h) (by rfl) (by intro w' hSw; go_simp) ?_
        try simp only [Act.put, List.setIfInBounds_toArray, List.set_cons_zero, List.set_cons_succ]
        refine wpAnyH_done (by kernel_rfl) ?_ _
        cases q9 with
        | true =>
          go_wp2_with (first
            | (refine wpList_loadA rfl 33 (.tmp 9) rfl clTy (x8.drew.heap.size) 0 rfl 33 _ k11 [.slice A9 n9 c9, .slice B9 m9 d9] rfl (all_at _) ?_)
            | (refine wpList_storeB rfl rfl 33 (.tmp 4) (.tmp 51) rfl clTy w.heap.size rfl [.slice A9 n9 c9, .slice B9 m9 d9] rfl 33 _ h11 rfl rfl slices_one ?_; intro x12 k12 o12))
          have b12 := o12.below _ _ b11 (Nat.le_refl _)
          have hz8 := h8d.lt
          have t12 := TC.second t6 (((t11.only o12 (by simp at hz8 ⊢; omega)).first (o' := tc (a.drop k) (b.drop k))))
          exact bodyPost_ret (v := .tuple #[.agg #[.slice A9 n9 c9, .slice B9 m9 d9], .bool true]) (results_cellA2 rfl clTy _ _ w.heap.size 33 [.slice A9 n9 c9, .slice B9 m9 d9] rfl k12 rfl _ rfl) rfl ⟨A9, n9, c9, B9, m9, d9, true, rfl, by rw [HTWO.out]; exact t12.base (by simp at hz8 ⊢; omega), b12⟩
        | false =>
          have b11d := b11.drew
          have h11d := h11.drew
          go_wp2_with fail
          refine regB_begin (w.heap.size) (by kernel_rfl) ?_
          change wpAnyH _ _ _ _ _ 11 #[false, false, false, false, false, false, false, false, false, false, false] _ _
          refine regB_take (i := 0) (d := some 52) (v := (.slice A l c)) rfl rfl (by kernel_rfl) (by kernel_rfl) (by kernel_rfl) (fun _ _ _ h => h) (by rfl) (by intro w' hSw; go_simp) ?_
          try simp only [Act.put, List.setIfInBounds_toArray, List.set_cons_zero, List.set_cons_succ]
          refine regB_take (i := 1) (d := some 53) (v := (.int .i64 (k : Int))) rfl rfl (by kernel_rfl) (by kernel_rfl) (by kernel_rfl) (fun _ _ _ h => h) (by rfl) (by intro w' hSw; go_simp) ?_
          try simp only [Act.put, List.setIfInBounds_toArray, List.set_cons_zero, List.set_cons_succ]
          refine regB_take (i := 2) (d := some 54) (v := (.slice A2 q c2)) rfl rfl (by kernel_rfl) (by kernel_rfl) (by kernel_rfl) (fun _ _ _ h => h) (by rfl) (by intro w' hSw; have h9 := HFA.out w'; go_simp) ?_
          try simp only [Act.put, List.setIfInBounds_toArray, List.set_cons_zero, List.set_cons_succ]
          refine regB_take (i := 3) (d := some 55) (v := (.slice B l cb)) rfl rfl (by kernel_rfl) (by kernel_rfl) (by kernel_rfl) (fun _ _ _ h => h) (by rfl) (by intro w' hSw; go_simp) ?_
          try simp only [Act.put, List.setIfInBounds_toArray, List.set_cons_zero, List.set_cons_succ]
          refine regB_take (i := 4) (d := some 56) (v := (.int .i64 (k : Int))) rfl rfl (by kernel_rfl) (by kernel_rfl) (by kernel_rfl) (fun _ _ _ h => h) (by rfl) (by intro w' hSw; go_simp) ?_
          try simp only [Act.put, List.setIfInBounds_toArray, List.set_cons_zero, List.set_cons_succ]
          refine regB_take (i := 5) (d := some 57) (v := (.slice B2 q c3)) rfl rfl (by kernel_rfl) (by kernel_rfl) (by kernel_rfl) (fun _ _ _ h => h) (by rfl) (by intro w' hSw; have h9 := HFB.out w'; go_simp) ?_
          try simp only [Act.put, List.setIfInBounds_toArray, List.set_cons_zero, List.set_cons_succ]
          refine regB_call (i := 6) rfl (by kernel_rfl) (by rfl) fun K hK => ?_
          go_simp
          refine (ih A2 q c2 (vs.drop k) (a.drop k) B2 c3 (us.drop k) (b.drop k) (by omega) _ HDK.out (vD.below b11d) (RD.below b11d) HDKB.out (uD.below b11d) (SD.below b11d) (by omega) (by omega) (by omega) (by omega) (fun x hx => HBD.out x (List.mem_of_mem_drop hx)) (fun x hx => HBB.out x (List.mem_of_mem_drop hx))).mono ?_
          rintro e w12 ⟨A12, n12, c12, B12, m12, d12, q12, rfl, t12, hb12⟩
          have b12 := b11d.trans (hb12.mono b11d.size)
          have h12 := h11d.below hb12 h11d.lt
          have hz11 := h11d.lt
          refine hK.out _ _ (hb12.mono b11d.size) ?_
          clear hK K
          try simp only [List.setIfInBounds_toArray, List.set_cons_zero, List.set_cons_succ]
          refine regB_take (i := 7) (d := some 59) (v := (.agg #[.slice A12 n12 c12, .slice B12 m12 d12])) rfl rfl (by kernel_rfl) (by kernel_rfl) (by kernel_rfl) (fun _ _ _ h => h) (by rfl) (by intro w' hSw; go_simp) ?_
          try simp only [Act.put, List.setIfInBounds_toArray, List.set_cons_zero, List.set_cons_succ]
          refine regB_take (i := 8) (d := some 60) (v := (.bool q12)) rfl rfl (by kernel_rfl) (by kernel_rfl) (by kernel_rfl) (fun _ _ _ h => h) (by rfl) (by intro w' hSw; go_simp) ?_
          try simp only [Act.put, List.setIfInBounds_toArray, List.set_cons_zero, List.set_cons_succ]
          refine regB_call (i := 9) rfl (by kernel_rfl) (by rfl) fun K hK => ?_
          refine oper_storeB rfl 33 (.tmp 4) (.tmp 59) rfl clTy w.heap.size (by first | rfl | (rw [← HG7.out]; rfl)) [.slice A12 n12 c12, .slice B12 m12 d12] rfl 33 _ h12 rfl rfl slices_one ?_
          intro x13 k13 o13
          have b13 := o13.below _ _ b12 (Nat.le_refl _)
          have t13 := TC.second t6 (TC.second t9 (t12.only o13 (by omega)))
          refine hK.out _ _ (o13.below _ _ (Below.refl _ _) (Nat.le_refl _)) ?_
          clear hK K
          try simp only [List.setIfInBounds_toArray, List.set_cons_zero, List.set_cons_succ]
          refine regB_take (i := 10) (d := some 5) (v := (.bool q12)) rfl rfl (by kernel_rfl) (by kernel_rfl) (by kernel_rfl) (fun _ _ _ h => h) (by rfl) (by intro w' hSw; go_simp) ?_
          try simp only [Act.put, List.setIfInBounds_toArray, List.set_cons_zero, List.set_cons_succ]
          refine wpAnyH_done (by kernel_rfl) ?_ _
          go_wp2_with fail
          exact bodyPost_ret (v := .tuple #[.agg #[.slice A12 n12 c12, .slice B12 m12 d12], .bool q12]) (results_cellA2 rfl clTy _ _ w.heap.size 33 [.slice A12 n12 c12, .slice B12 m12 d12] rfl k13 rfl _ rfl) rfl ⟨A12, n12, c12, B12, m12, d12, q12, rfl, by rw [HTWO.out]; exact t13.base (by omega), b13⟩

end Go.Proofs.YtihkfomldbjpoaaDoor.ClW

/- rubrickref08: parts. -/
namespace Go.Proofs.YtihkfomldbjpoaaDoor.ClW
open Go.RowKit TreeW ConsW TrW ClashW
open ShaW Sha
/-- The clash of the parts that a proof tells of. -/
def pr (a b : List (List UInt8)) (m n : Nat) : Option (List UInt8 × List UInt8) := partsF sha (n + 1) a b m n
theorem partsF_fuel : ∀ (f g : Nat) (a b : List (List UInt8)) (m n : Nat), 1 ≤ m → m ≤ n → n < f → n < g → partsF sha f a b m n = partsF sha g a b m n
  | 0, _, _, _, _, _, _, _, h, _ => by omega
  | _ + 1, 0, _, _, _, _, _, _, _, h => by omega
  | f + 1, g + 1, a, b, m, n, h1, h2, hf, hg => by
    unfold partsF
    by_cases h : m = n
    · rw [if_pos h, if_pos h]
    · rw [if_neg h, if_neg h]
      obtain ⟨x, y, _, _⟩ := split_spec (n := n) (by omega)
      by_cases hm : m ≤ split n
      · rw [if_pos hm, if_pos hm, partsF_fuel f g a b m (split n) h1 hm (by omega) (by omega)]
      · rw [if_neg hm, if_neg hm, partsF_fuel f g _ _ (m - split n) (n - split n) (by omega) (by omega) (by omega) (by omega)]
theorem pr_all {a b : List (List UInt8)} {m : Nat} (ha : a.length = m) : pr a b m m = tc a (b.take m) := by
  unfold pr partsF
  rw [if_pos rfl, List.take_of_length_le (by omega)]; rfl
theorem pr_left {a b : List (List UInt8)} {m n k : Nat} (hk : k = split n) (h1 : 1 ≤ m) (h2 : m < n) (h : m ≤ k) : pr a b m n = pr a b m k := by
  subst hk
  obtain ⟨x, y, _, _⟩ := split_spec (n := n) (by omega)
  unfold pr
  conv => lhs; unfold partsF
  rw [if_neg (by omega), if_pos h, partsF_fuel n (split n + 1) a b m (split n) h1 h (by omega) (by omega)]
theorem pr_right {a b : List (List UInt8)} {m n k : Nat} (hk : k = split n) (h1 : 1 ≤ m) (h2 : m < n) (h : ¬ m ≤ k) : pr a b m n = orE (tc (a.take k) (b.take k)) (pr (a.drop k) (b.drop k) (m - k) (n - k)) := by
  subst hk
  obtain ⟨x, y, _, _⟩ := split_spec (n := n) (by omega)
  unfold pr
  conv => lhs; unfold partsF
  rw [if_neg (by omega), if_neg h, partsF_fuel n (n - split n + 1) _ _ (m - split n) (n - split n) (by omega) (by omega) (by omega) (by omega)]
  rfl
set_option maxRecDepth 1000000 in
set_option maxHeartbeats 4000000 in
theorem refParts : ∀ (f : Nat) (A : Option Addr) (m c : Nat) (vs : List Value) (a : List (List UInt8)) (B : Option Addr) (lb cb : Nat) (us : List Value) (b : List (List UInt8)) (n : Nat) (_hf : n ≤ f) (w : World)
    (_hl : a.length = m) (_hA : Sl w A vs) (_hR : RowsAt w vs a) (_hlb : b.length = lb) (_hB : Sl w B us) (_hS : RowsAt w us b) (_h1 : 1 ≤ m) (_h2 : m ≤ n) (_h3 : n ≤ lb) (_hlc : m ≤ c) (_hlcb : lb ≤ cb) (_hl40 : n ≤ 1099511627776) (_hbd : ∀ x ∈ a, x.length ≤ 100000000000) (_hbb : ∀ x ∈ b, x.length ≤ 100000000000),
    Calls Tryd.prog 55 #[.slice A m c, .slice B lb cb, .int .i64 (m : Int), .int .i64 (n : Int)] w fun e w' => ∃ A' n' c' B' m' d' q, e = .returned (.tuple #[.agg #[.slice A' n' c', .slice B' m' d'], .bool q]) ∧ TC w.heap.size w' (pr a b m n) A' n' c' B' m' d' q ∧ Below w.heap.size w w' := by
  intro f
  induction f with
  | zero => intro A m c vs a B lb cb us b n hf w hl hA hR hlb hB hS h1 h2; omega
  | succ f ih =>
    intro A m c vs a B lb cb us b n hf w hl hA hR hlb hB hS h1 h2 h3 hlc hlcb hl40 hbd hbb
    have h0 : At (w.alloc (.cells #[.slice none 0 0, .slice none 0 0] 33)) w.heap.size 33 [.slice none 0 0, .slice none 0 0] := At.new_ w _ 33 _ rfl
    have b0 : Below w.heap.size w (w.alloc (.cells #[.slice none 0 0, .slice none 0 0] 33)) := (Below.refl _ _).alloc (Nat.le_refl _) _
    have HBD := Lib.hid hbd
    have HBB := Lib.hid hbb
    have HL := Lib.hid hl
    by_cases hmn : m = n
    · have hee : ((m : Int) == (n : Int)) = true := by rw [hmn]; simp
      have HEQ : Hid (pr a b m n = tc a (b.take m)) := by show _ = _; rw [← hmn]; exact pr_all hl
      have HTA := Lib.hid (fun w' => run_to (P := Tryd.prog) rowsTy w' A m c m .i64 (by omega))
      have HTB := Lib.hid (fun w' => run_to (P := Tryd.prog) rowsTy w' B lb cb m .i64 (by omega))
      have HTKB : Hid ((b.take m).length = m) := by show _ = _; rw [List.length_take]; omega
      have uT := hB.take m
      have ST := rows_take hS m
      have b1 := b0.drew
      have h1d := h0.drew
      have hm40 : m ≤ 1099511627776 := by omega
      have hmcb : m ≤ cb := by omega
      clear hl hbd hlb hbb ih h0 hmn
      go_enter Tryd.func55, Tryd.ntmps55
      go_wp2_with fail
      refine regB_begin (w.heap.size) (by kernel_rfl) ?_
      change wpAnyH _ _ _ _ _ 11 #[false, false, false, false, false, false, false, false, false, false, false] _ _
      refine regB_take (i := 0) (d := some 16) (v := (.slice A m c)) rfl rfl (by kernel_rfl) (by kernel_rfl) (by kernel_rfl) (fun _ _ _ h => h) (by rfl) (by intro w' hSw; go_simp) ?_
      try simp only [Act.put, List.setIfInBounds_toArray, List.set_cons_zero, List.set_cons_succ]
      refine regB_take (i := 1) (d := some 17) (v := (.int .i64 (m : Int))) rfl rfl (by kernel_rfl) (by kernel_rfl) (by kernel_rfl) (fun _ _ _ h => h) (by rfl) (by intro w' hSw; go_simp) ?_
      try simp only [Act.put, List.setIfInBounds_toArray, List.set_cons_zero, List.set_cons_succ]
      refine regB_take (i := 2) (d := some 18) (v := (.slice A m c)) rfl rfl (by kernel_rfl) (by kernel_rfl) (by kernel_rfl) (fun _ _ _ h => h) (by rfl) (by intro w' hSw; have h9 := HTA.out w'; go_simp) ?_
      try simp only [Act.put, List.setIfInBounds_toArray, List.set_cons_zero, List.set_cons_succ]
      refine regB_take (i := 3) (d := some 19) (v := (.slice B lb cb)) rfl rfl (by kernel_rfl) (by kernel_rfl) (by kernel_rfl) (fun _ _ _ h => h) (by rfl) (by intro w' hSw; go_simp) ?_
      try simp only [Act.put, List.setIfInBounds_toArray, List.set_cons_zero, List.set_cons_succ]
      refine regB_take (i := 4) (d := some 20) (v := (.int .i64 (m : Int))) rfl rfl (by kernel_rfl) (by kernel_rfl) (by kernel_rfl) (fun _ _ _ h => h) (by rfl) (by intro w' hSw; go_simp) ?_
      try simp only [Act.put, List.setIfInBounds_toArray, List.set_cons_zero, List.set_cons_succ]
      refine regB_take (i := 5) (d := some 21) (v := (.slice B m cb)) rfl rfl (by kernel_rfl) (by kernel_rfl) (by kernel_rfl) (fun _ _ _ h => h) (by rfl) (by intro w' hSw; have h9 := HTB.out w'; go_simp) ?_
      try simp only [Act.put, List.setIfInBounds_toArray, List.set_cons_zero, List.set_cons_succ]
      refine regB_call (i := 6) rfl (by kernel_rfl) (by rfl) fun K hK => ?_
      go_simp
      refine (refTwo8 m A m c vs a B cb (us.take m) (b.take m) (Nat.le_refl _) _ HL.out (hA.below b1) (hR.below b1) HTKB.out (uT.below b1) (ST.below b1) h1 hlc (by omega) (by omega) HBD.out (fun x hx => HBB.out x (List.mem_of_mem_take hx))).mono ?_
      rintro e w9 ⟨A9, n9, c9, B9, m9, d9, q9, rfl, t9, hb9⟩
      have b9 := b1.trans (hb9.mono b1.size)
      have h9 := h1d.below hb9 h1d.lt
      have hz := h1d.lt
      refine hK.out _ _ (hb9.mono b1.size) ?_
      clear hK K
      try simp only [List.setIfInBounds_toArray, List.set_cons_zero, List.set_cons_succ]
      refine regB_take (i := 7) (d := some 23) (v := (.agg #[.slice A9 n9 c9, .slice B9 m9 d9])) rfl rfl (by kernel_rfl) (by kernel_rfl) (by kernel_rfl) (fun _ _ _ h => h) (by rfl) (by intro w' hSw; go_simp) ?_
      try simp only [Act.put, List.setIfInBounds_toArray, List.set_cons_zero, List.set_cons_succ]
      refine regB_take (i := 8) (d := some 24) (v := (.bool q9)) rfl rfl (by kernel_rfl) (by kernel_rfl) (by kernel_rfl) (fun _ _ _ h => h) (by rfl) (by intro w' hSw; go_simp) ?_
      try simp only [Act.put, List.setIfInBounds_toArray, List.set_cons_zero, List.set_cons_succ]
      refine regB_call (i := 9) rfl (by kernel_rfl) (by rfl) fun K hK => ?_
      refine oper_storeB rfl 33 (.tmp 8) (.tmp 23) rfl clTy (w.heap.size) rfl [.slice A9 n9 c9, .slice B9 m9 d9] rfl 33 _ h9 rfl rfl slices_one ?_
      intro x10 k10 o10
      have b10 := o10.below _ _ b9 (Nat.le_refl _)
      have t10 := t9.only o10 hz
      refine hK.out _ _ (o10.below _ _ (Below.refl _ _) (Nat.le_refl _)) ?_
      clear hK K
      try simp only [List.setIfInBounds_toArray, List.set_cons_zero, List.set_cons_succ]
      refine regB_take (i := 10) (d := some 9) (v := (.bool q9)) rfl rfl (by kernel_rfl) (by kernel_rfl) (by kernel_rfl) (fun _ _ _ h => h) (by rfl) (by intro w' hSw; go_simp) ?_
      try simp only [Act.put, List.setIfInBounds_toArray, List.set_cons_zero, List.set_cons_succ]
      refine wpAnyH_done (by kernel_rfl) ?_ _
      go_wp2_with fail
      exact bodyPost_ret (v := .tuple #[.agg #[.slice A9 n9 c9, .slice B9 m9 d9], .bool q9]) (results_cellA2 rfl clTy _ _ w.heap.size 33 [.slice A9 n9 c9, .slice B9 m9 d9] rfl k10 rfl _ rfl) rfl ⟨A9, n9, c9, B9, m9, d9, q9, rfl, by rw [HEQ.out]; exact t10.base (Nat.le_of_lt hz), b10⟩

    have sspec := split_spec (n := n) (by omega)
    obtain ⟨k, hk⟩ : ∃ k, k = split n := ⟨_, rfl⟩
    rw [← hk] at sspec
    obtain ⟨k1, kl, kd, _⟩ := sspec
    have HK := Lib.hid hk
    have hne1 : ((m : Int) == (n : Int)) = false := by simpa using (show ¬ (m : Int) = (n : Int) by omega)
    by_cases hmk : m ≤ k
    · have k5 : (m : Int) ≤ (k : Int) := by omega
      have HEQ := Lib.hid (pr_left (a := a) (b := b) hk h1 (by omega) hmk)
      clear hk hl hbd hbb
      go_enter Tryd.func55, Tryd.ntmps55
      go_wp2_with fail
      refine (refSplit_in n _ (by omega) hl40).mono ?_
      rintro e w1 ⟨rfl, rfl⟩
      rw [← HK.out]
      go_wp2_with fail
      refine (ih A m c vs a B lb cb us b k (by omega) _ HL.out (hA.below b0) (hR.below b0) hlb (hB.below b0) (hS.below b0) h1 hmk (by omega) hlc hlcb (by omega) HBD.out HBB.out).mono ?_
      rintro e w9 ⟨A9, n9, c9, B9, m9, d9, q9, rfl, t9, hb9⟩
      have b9 := b0.trans (hb9.mono b0.size)
      have h9 := h0.below hb9 h0.lt
      have hz8 := h0.lt
      go_wp2_with (refine wpList_storeB rfl rfl 33 (.tmp 8) (.tmp 35) rfl clTy w.heap.size rfl [.slice A9 n9 c9, .slice B9 m9 d9] rfl 33 _ h9 rfl rfl slices_one ?_; intro x10 k10 o10)
      have b10 := o10.below _ _ b9 (Nat.le_refl _)
      have t10 := t9.only o10 (by omega)
      exact bodyPost_ret (v := .tuple #[.agg #[.slice A9 n9 c9, .slice B9 m9 d9], .bool q9]) (results_cellA2 rfl clTy _ _ w.heap.size 33 [.slice A9 n9 c9, .slice B9 m9 d9] rfl k10 rfl _ rfl) rfl ⟨A9, n9, c9, B9, m9, d9, q9, rfl, by rw [HEQ.out]; exact t10.base (by omega), b10⟩
    · obtain ⟨r, hr⟩ : ∃ r, m - k = r := ⟨_, rfl⟩
      obtain ⟨z, hz⟩ : ∃ z, n - k = z := ⟨_, rfl⟩
      have HEQ0 := pr_right (a := a) (b := b) hk h1 (by omega) hmk
      rw [hr, hz] at HEQ0
      have HEQ := Lib.hid HEQ0
      obtain ⟨r', c2, A2, kr, qc, cc, tk, dq, vT, vD, RT, RD, htoA, hfrA⟩ := halvesV (c := c) hl hA hR (show k < m by omega) hlc
      obtain ⟨lz, c3, B2, kz, qc', cc', tkb, dqb, uT, uD, ST, SD, htoB, hfrB⟩ := halvesV (c := cb) hlb hB hS (show k < lb by omega) hlcb
      obtain rfl : r = r' := by omega
      have HTK := Lib.hid tk
      have HDK := Lib.hid dq
      have HTKB := Lib.hid tkb
      have HDKB := Lib.hid dqb
      have HTA := Lib.hid htoA
      have HFA := Lib.hid hfrA
      have HTB := Lib.hid htoB
      have HFB := Lib.hid hfrB
      have k5 : ¬ (m : Int) ≤ (k : Int) := by omega
      have k6 : (m : Int) - (k : Int) = (r : Int) := by omega
      have k7 : (n : Int) - (k : Int) = (z : Int) := by omega
      have k8 : IntKind.i64.wrap (r : Int) = (r : Int) := IntWalk.i64_in _ (by omega)
      have k9 : IntKind.i64.wrap (z : Int) = (z : Int) := IntWalk.i64_in _ (by omega)
      obtain ⟨w8, hw8⟩ : ∃ w8, (w.alloc (.cells #[.slice none 0 0, .slice none 0 0] 33)).drew = w8 := ⟨_, rfl⟩
      have HW8 := Lib.hid hw8
      have b8d : Below w.heap.size w w8 := by rw [← hw8]; exact b0.drew
      have h8d : At w8 w.heap.size 33 [.slice none 0 0, .slice none 0 0] := by rw [← hw8]; exact h0.drew
      clear hk hl hbd hbb hlb HEQ0 tk dq tkb dqb htoA hfrA htoB hfrB hw8
      go_enter Tryd.func55, Tryd.ntmps55
      go_wp2_with fail
      refine (refSplit_in n _ (by omega) hl40).mono ?_
      rintro e w1 ⟨rfl, rfl⟩
      rw [← HK.out]
      go_wp2_with fail
      refine regB_begin (w.heap.size) (by kernel_rfl) ?_
      rw [HW8.out]
      change wpAnyH _ _ _ _ _ 13 #[false, false, false, false, false, false, false, false, false, false, false, false, false] _ _
      refine regB_take (i := 0) (d := some 38) (v := (.slice A m c)) rfl rfl (by kernel_rfl) (by kernel_rfl) (by kernel_rfl) (fun _ _ _ h => h) (by rfl) (by intro w' hSw; go_simp) ?_
      try simp only [Act.put, List.setIfInBounds_toArray, List.set_cons_zero, List.set_cons_succ]
      refine regB_take (i := 1) (d := some 39) (v := (.int .i64 (k : Int))) rfl rfl (by kernel_rfl) (by kernel_rfl) (by kernel_rfl) (fun _ _ _ h => h) (by rfl) (by intro w' hSw; go_simp) ?_
      try simp only [Act.put, List.setIfInBounds_toArray, List.set_cons_zero, List.set_cons_succ]
      refine regB_take (i := 2) (d := some 40) (v := (.slice A k c)) rfl rfl (by kernel_rfl) (by kernel_rfl) (by kernel_rfl) (fun _ _ _ h => h) (by rfl) (by intro w' hSw; have h9 := HTA.out w'; go_simp) ?_
      try simp only [Act.put, List.setIfInBounds_toArray, List.set_cons_zero, List.set_cons_succ]
      refine regB_take (i := 3) (d := some 41) (v := (.slice B lb cb)) rfl rfl (by kernel_rfl) (by kernel_rfl) (by kernel_rfl) (fun _ _ _ h => h) (by rfl) (by intro w' hSw; go_simp) ?_
      try simp only [Act.put, List.setIfInBounds_toArray, List.set_cons_zero, List.set_cons_succ]
      refine regB_take (i := 4) (d := some 42) (v := (.int .i64 (k : Int))) rfl rfl (by kernel_rfl) (by kernel_rfl) (by kernel_rfl) (fun _ _ _ h => h) (by rfl) (by intro w' hSw; go_simp) ?_
      try simp only [Act.put, List.setIfInBounds_toArray, List.set_cons_zero, List.set_cons_succ]
      refine regB_take (i := 5) (d := some 43) (v := (.slice B k cb)) rfl rfl (by kernel_rfl) (by kernel_rfl) (by kernel_rfl) (fun _ _ _ h => h) (by rfl) (by intro w' hSw; have h9 := HTB.out w'; go_simp) ?_
      try simp only [Act.put, List.setIfInBounds_toArray, List.set_cons_zero, List.set_cons_succ]
      refine regB_two (i := 6) (j := 10) rfl rfl (by kernel_rfl) (by rfl) (by rfl) (fun K hK => ?_) (fun K hK => ?_)
      · go_simp
        refine (refTwo8 k A k c (vs.take k) (a.take k) B cb (us.take k) (b.take k) (Nat.le_refl _) _ HTK.out (vT.below b8d) (RT.below b8d) HTKB.out (uT.below b8d) (ST.below b8d) k1 (by omega) (by omega) (by omega) (fun x hx => HBD.out x (List.mem_of_mem_take hx)) (fun x hx => HBB.out x (List.mem_of_mem_take hx))).mono ?_
        rintro e w9 ⟨A9, n9, c9, B9, m9, d9, q9, rfl, t9, hb9⟩
        have b9 := b8d.trans (hb9.mono b8d.size)
        have h9 := h8d.below hb9 h8d.lt
        refine hK.out _ _ (hb9.mono b8d.size) ?_
        clear hK K
        try simp only [List.setIfInBounds_toArray, List.set_cons_zero, List.set_cons_succ]
        refine regB_take (i := 7) (d := some 37) (v := (.tuple #[.agg #[.slice A9 n9 c9, .slice B9 m9 d9], .bool q9])) rfl rfl (by kernel_rfl) (by kernel_rfl) (by kernel_rfl) (fun _ _ _ h => h) (by rfl) (by intro w' hSw; go_simp) ?_
        try simp only [Act.put, List.setIfInBounds_toArray, List.set_cons_zero, List.set_cons_succ]
        refine regB_take (i := 8) (d := some 45) (v := (.agg #[.slice A9 n9 c9, .slice B9 m9 d9])) rfl rfl (by kernel_rfl) (by kernel_rfl) (by kernel_rfl) (fun _ _ _ h => h) (by rfl) (by intro w' hSw; go_simp) ?_
        try simp only [Act.put, List.setIfInBounds_toArray, List.set_cons_zero, List.set_cons_succ]
        refine regB_take (i := 9) (d := some 46) (v := (.bool q9)) rfl rfl (by kernel_rfl) (by kernel_rfl) (by kernel_rfl) (fun _ _ _ h => h) (by rfl) (by intro w' hSw; go_simp) ?_
        try simp only [Act.put, List.setIfInBounds_toArray, List.set_cons_zero, List.set_cons_succ]
        refine regB_call (i := 10) rfl (by kernel_rfl) (by rfl) fun K hK => ?_
        have b10 := b9.alloc b9.size (.cells #[.slice none 0 0, .slice none 0 0] 33)
        have l10 : Below w9.heap.size w9 (w9.alloc (.cells #[.slice none 0 0, .slice none 0 0] 33)) := (Below.refl _ _).alloc (Nat.le_refl _) _
        have k10 : At (w9.alloc (.cells #[.slice none 0 0, .slice none 0 0] 33)) w9.heap.size 33 [.slice none 0 0, .slice none 0 0] := At.new_ w9 _ 33 _ rfl
        have h10 := h9.below l10 h9.lt
        have t10 := t9.below l10
        have hg10 : w.heap.size < w9.heap.size := h9.lt
        go_simp
        refine hK.out _ _ ((Below.refl _ _).alloc b9.size _) ?_
        clear hK K
        try simp only [List.setIfInBounds_toArray, List.set_cons_zero, List.set_cons_succ]
        refine regB_call (i := 11) rfl (by kernel_rfl) (by rfl) fun K hK => ?_
        refine oper_storeB rfl 33 (.tmp 11) (.tmp 45) rfl clTy (w9.heap.size) rfl [.slice A9 n9 c9, .slice B9 m9 d9] rfl 33 _ k10 rfl rfl slices_one ?_
        intro x11 k11 o11
        have b11 := o11.below _ _ b10 (Nat.le_of_lt hg10)
        have h11 := o11.at_ h10 (by omega)
        have t11 := t9.below (o11.below _ _ l10 (Nat.le_refl _))
        refine hK.out _ _ (o11.below _ _ (Below.refl _ _) (Nat.le_of_lt hg10)) ?_
        clear hK K
        try simp only [List.setIfInBounds_toArray, List.set_cons_zero, List.set_cons_succ]
        refine regB_take (i := 12) (d := some 12) (v := (.bool q9)) rfl rfl (by kernel_rfl) (by kernel_rfl) (by kernel_rfl) (fun _ _ _ h => h) (by rfl) (by intro w' hSw; go_simp) ?_
        try simp only [Act.put, List.setIfInBounds_toArray, List.set_cons_zero, List.set_cons_succ]
        refine wpAnyH_done (by kernel_rfl) ?_ _
        cases q9 with
        | true =>
          go_wp2_with (first
            | (refine wpList_loadA rfl 33 (.tmp 11) rfl clTy (w9.heap.size) 0 rfl 33 _ k11 [.slice A9 n9 c9, .slice B9 m9 d9] rfl (all_at _) ?_)
            | (refine wpList_storeB rfl rfl 33 (.tmp 8) (.tmp 48) rfl clTy w.heap.size rfl [.slice A9 n9 c9, .slice B9 m9 d9] rfl 33 _ h11 rfl rfl slices_one ?_; intro x12 k12 o12))
          have b12 := o12.below _ _ b11 (Nat.le_refl _)
          have hz8 := h8d.lt
          have t12 := (t11.only o12 (by omega)).first (o' := pr (a.drop k) (b.drop k) r z)
          exact bodyPost_ret (v := .tuple #[.agg #[.slice A9 n9 c9, .slice B9 m9 d9], .bool true]) (results_cellA2 rfl clTy _ _ w.heap.size 33 [.slice A9 n9 c9, .slice B9 m9 d9] rfl k12 rfl _ rfl) rfl ⟨A9, n9, c9, B9, m9, d9, true, rfl, by rw [HEQ.out]; exact t12.base (by omega), b12⟩
        | false =>
          have b11d := b11.drew
          have h11d := h11.drew
          go_wp2_with fail
          refine regB_begin (w.heap.size) (by kernel_rfl) ?_
          change wpAnyH _ _ _ _ _ 17 #[false, false, false, false, false, false, false, false, false, false, false, false, false, false, false, false, false] _ _
          refine regB_take (i := 0) (d := some 49) (v := (.slice A m c)) rfl rfl (by kernel_rfl) (by kernel_rfl) (by kernel_rfl) (fun _ _ _ h => h) (by rfl) (by intro w' hSw; go_simp) ?_
          try simp only [Act.put, List.setIfInBounds_toArray, List.set_cons_zero, List.set_cons_succ]
          refine regB_take (i := 1) (d := some 50) (v := (.int .i64 (k : Int))) rfl rfl (by kernel_rfl) (by kernel_rfl) (by kernel_rfl) (fun _ _ _ h => h) (by rfl) (by intro w' hSw; go_simp) ?_
          try simp only [Act.put, List.setIfInBounds_toArray, List.set_cons_zero, List.set_cons_succ]
          refine regB_take (i := 2) (d := some 51) (v := (.slice A2 r c2)) rfl rfl (by kernel_rfl) (by kernel_rfl) (by kernel_rfl) (fun _ _ _ h => h) (by rfl) (by intro w' hSw; have h9 := HFA.out w'; go_simp) ?_
          try simp only [Act.put, List.setIfInBounds_toArray, List.set_cons_zero, List.set_cons_succ]
          refine regB_take (i := 3) (d := some 52) (v := (.slice B lb cb)) rfl rfl (by kernel_rfl) (by kernel_rfl) (by kernel_rfl) (fun _ _ _ h => h) (by rfl) (by intro w' hSw; go_simp) ?_
          try simp only [Act.put, List.setIfInBounds_toArray, List.set_cons_zero, List.set_cons_succ]
          refine regB_take (i := 4) (d := some 53) (v := (.int .i64 (k : Int))) rfl rfl (by kernel_rfl) (by kernel_rfl) (by kernel_rfl) (fun _ _ _ h => h) (by rfl) (by intro w' hSw; go_simp) ?_
          try simp only [Act.put, List.setIfInBounds_toArray, List.set_cons_zero, List.set_cons_succ]
          refine regB_take (i := 5) (d := some 54) (v := (.slice B2 lz c3)) rfl rfl (by kernel_rfl) (by kernel_rfl) (by kernel_rfl) (fun _ _ _ h => h) (by rfl) (by intro w' hSw; have h9 := HFB.out w'; go_simp) ?_
          try simp only [Act.put, List.setIfInBounds_toArray, List.set_cons_zero, List.set_cons_succ]
          refine regB_take (i := 6) (d := some 55) (v := (.int .i64 (m : Int))) rfl rfl (by kernel_rfl) (by kernel_rfl) (by kernel_rfl) (fun _ _ _ h => h) (by rfl) (by intro w' hSw; go_simp) ?_
          try simp only [Act.put, List.setIfInBounds_toArray, List.set_cons_zero, List.set_cons_succ]
          refine regB_take (i := 7) (d := some 56) (v := (.int .i64 (k : Int))) rfl rfl (by kernel_rfl) (by kernel_rfl) (by kernel_rfl) (fun _ _ _ h => h) (by rfl) (by intro w' hSw; go_simp) ?_
          try simp only [Act.put, List.setIfInBounds_toArray, List.set_cons_zero, List.set_cons_succ]
          refine regB_take (i := 8) (d := some 57) (v := (.int .i64 (r : Int))) rfl rfl (by kernel_rfl) (by kernel_rfl) (by kernel_rfl) (fun _ _ _ h => h) (by rfl) (by intro w' hSw; go_simp) ?_
          try simp only [Act.put, List.setIfInBounds_toArray, List.set_cons_zero, List.set_cons_succ]
          refine regB_take (i := 9) (d := some 58) (v := (.int .i64 (n : Int))) rfl rfl (by kernel_rfl) (by kernel_rfl) (by kernel_rfl) (fun _ _ _ h => h) (by rfl) (by intro w' hSw; go_simp) ?_
          try simp only [Act.put, List.setIfInBounds_toArray, List.set_cons_zero, List.set_cons_succ]
          refine regB_take (i := 10) (d := some 59) (v := (.int .i64 (k : Int))) rfl rfl (by kernel_rfl) (by kernel_rfl) (by kernel_rfl) (fun _ _ _ h => h) (by rfl) (by intro w' hSw; go_simp) ?_
          try simp only [Act.put, List.setIfInBounds_toArray, List.set_cons_zero, List.set_cons_succ]
          refine regB_take (i := 11) (d := some 60) (v := (.int .i64 (z : Int))) rfl rfl (by kernel_rfl) (by kernel_rfl) (by kernel_rfl) (fun _ _ _ h => h) (by rfl) (by intro w' hSw; go_simp) ?_
          try simp only [Act.put, List.setIfInBounds_toArray, List.set_cons_zero, List.set_cons_succ]
          refine regB_call (i := 12) rfl (by kernel_rfl) (by rfl) fun K hK => ?_
          go_simp
          refine (ih A2 r c2 (vs.drop k) (a.drop k) B2 lz c3 (us.drop k) (b.drop k) z (by omega) _ HDK.out (vD.below b11d) (RD.below b11d) HDKB.out (uD.below b11d) (SD.below b11d) (by omega) (by omega) (by omega) (by omega) (by omega) (by omega) (fun x hx => HBD.out x (List.mem_of_mem_drop hx)) (fun x hx => HBB.out x (List.mem_of_mem_drop hx))).mono ?_
          rintro e w12 ⟨A12, n12, c12, B12, m12, d12, q12, rfl, t12, hb12⟩
          have b12 := b11d.trans (hb12.mono b11d.size)
          have h12 := h11d.below hb12 h11d.lt
          have hz11 := h11d.lt
          refine hK.out _ _ (hb12.mono b11d.size) ?_
          clear hK K
          try simp only [List.setIfInBounds_toArray, List.set_cons_zero, List.set_cons_succ]
          refine regB_take (i := 13) (d := some 62) (v := (.agg #[.slice A12 n12 c12, .slice B12 m12 d12])) rfl rfl (by kernel_rfl) (by kernel_rfl) (by kernel_rfl) (fun _ _ _ h => h) (by rfl) (by intro w' hSw; go_simp) ?_
          try simp only [Act.put, List.setIfInBounds_toArray, List.set_cons_zero, List.set_cons_succ]
          refine regB_take (i := 14) (d := some 63) (v := (.bool q12)) rfl rfl (by kernel_rfl) (by kernel_rfl) (by kernel_rfl) (fun _ _ _ h => h) (by rfl) (by intro w' hSw; go_simp) ?_
          try simp only [Act.put, List.setIfInBounds_toArray, List.set_cons_zero, List.set_cons_succ]
          refine regB_call (i := 15) rfl (by kernel_rfl) (by rfl) fun K hK => ?_
          refine oper_storeB rfl 33 (.tmp 8) (.tmp 62) rfl clTy (w.heap.size) rfl [.slice A12 n12 c12, .slice B12 m12 d12] rfl 33 _ h12 rfl rfl slices_one ?_
          intro x13 k13 o13
          have b13 := o13.below _ _ b12 (Nat.le_refl _)
          have t13 := TC.second t9 (t12.only o13 (by omega))
          refine hK.out _ _ (o13.below _ _ (Below.refl _ _) (Nat.le_refl _)) ?_
          clear hK K
          try simp only [List.setIfInBounds_toArray, List.set_cons_zero, List.set_cons_succ]
          refine regB_take (i := 16) (d := some 9) (v := (.bool q12)) rfl rfl (by kernel_rfl) (by kernel_rfl) (by kernel_rfl) (fun _ _ _ h => h) (by rfl) (by intro w' hSw; go_simp) ?_
          try simp only [Act.put, List.setIfInBounds_toArray, List.set_cons_zero, List.set_cons_succ]
          refine wpAnyH_done (by kernel_rfl) ?_ _
          go_wp2_with fail
          exact bodyPost_ret (v := .tuple #[.agg #[.slice A12 n12 c12, .slice B12 m12 d12], .bool q12]) (results_cellA2 rfl clTy _ _ w.heap.size 33 [.slice A12 n12 c12, .slice B12 m12 d12] rfl k13 rfl _ rfl) rfl ⟨A12, n12, c12, B12, m12, d12, q12, rfl, by rw [HEQ.out]; exact t13.base (by omega), b13⟩
      · have b8e := b8d.alloc b8d.size (.cells #[.slice none 0 0, .slice none 0 0] 33)
        have l8e : Below w8.heap.size w8 (w8.alloc (.cells #[.slice none 0 0, .slice none 0 0] 33)) := (Below.refl _ _).alloc (Nat.le_refl _) _
        have k8e : At (w8.alloc (.cells #[.slice none 0 0, .slice none 0 0] 33)) w8.heap.size 33 [.slice none 0 0, .slice none 0 0] := At.new_ w8 _ 33 _ rfl
        have h8e := h8d.below l8e h8d.lt
        have hg10 : w.heap.size < w8.heap.size := h8d.lt
        have k8el := k8e.lt
        go_simp
        refine hK.out _ _ ((Below.refl _ _).alloc b8d.size _) ?_
        clear hK K
        try simp only [List.setIfInBounds_toArray, List.set_cons_zero, List.set_cons_succ]
        refine regB_call (i := 6) rfl (by kernel_rfl) (by rfl) fun K hK => ?_
        go_simp
        refine (refTwo8 k A k c (vs.take k) (a.take k) B cb (us.take k) (b.take k) (Nat.le_refl _) _ HTK.out (vT.below b8e) (RT.below b8e) HTKB.out (uT.below b8e) (ST.below b8e) k1 (by omega) (by omega) (by omega) (fun x hx => HBD.out x (List.mem_of_mem_take hx)) (fun x hx => HBB.out x (List.mem_of_mem_take hx))).mono ?_
        rintro e w9 ⟨A9, n9, c9, B9, m9, d9, q9, rfl, t9, hb9⟩
        have b9 := b8e.trans (hb9.mono b8e.size)
        have h9 := h8e.below hb9 h8e.lt
        have k10 := k8e.below hb9 k8e.lt
        have t10 := t9
        have h10 := h9
        have b10 := b9
        refine hK.out _ _ (hb9.mono b8e.size) ?_
        clear hK K
        try simp only [List.setIfInBounds_toArray, List.set_cons_zero, List.set_cons_succ]
        refine regB_take (i := 7) (d := some 37) (v := (.tuple #[.agg #[.slice A9 n9 c9, .slice B9 m9 d9], .bool q9])) rfl rfl (by kernel_rfl) (by kernel_rfl) (by kernel_rfl) (fun _ _ _ h => h) (by rfl) (by intro w' hSw; go_simp) ?_
        try simp only [Act.put, List.setIfInBounds_toArray, List.set_cons_zero, List.set_cons_succ]
        refine regB_take (i := 8) (d := some 45) (v := (.agg #[.slice A9 n9 c9, .slice B9 m9 d9])) rfl rfl (by kernel_rfl) (by kernel_rfl) (by kernel_rfl) (fun _ _ _ h => h) (by rfl) (by intro w' hSw; go_simp) ?_
        try simp only [Act.put, List.setIfInBounds_toArray, List.set_cons_zero, List.set_cons_succ]
        refine regB_take (i := 9) (d := some 46) (v := (.bool q9)) rfl rfl (by kernel_rfl) (by kernel_rfl) (by kernel_rfl) (fun _ _ _ h => h) (by rfl) (by intro w' hSw; go_simp) ?_
        try simp only [Act.put, List.setIfInBounds_toArray, List.set_cons_zero, List.set_cons_succ]
        refine regB_call (i := 11) rfl (by kernel_rfl) (by rfl) fun K hK => ?_
        refine oper_storeB rfl 33 (.tmp 11) (.tmp 45) rfl clTy (w8.heap.size) rfl [.slice A9 n9 c9, .slice B9 m9 d9] rfl 33 _ k10 rfl rfl slices_one ?_
        intro x11 k11 o11
        have b11 := o11.below _ _ b10 (Nat.le_of_lt hg10)
        have h11 := o11.at_ h10 (by omega)
        have t11 := t10.only o11 k8el
        refine hK.out _ _ (o11.below _ _ (Below.refl _ _) (Nat.le_of_lt hg10)) ?_
        clear hK K
        try simp only [List.setIfInBounds_toArray, List.set_cons_zero, List.set_cons_succ]
        refine regB_take (i := 12) (d := some 12) (v := (.bool q9)) rfl rfl (by kernel_rfl) (by kernel_rfl) (by kernel_rfl) (fun _ _ _ h => h) (by rfl) (by intro w' hSw; go_simp) ?_
        try simp only [Act.put, List.setIfInBounds_toArray, List.set_cons_zero, List.set_cons_succ]
        refine wpAnyH_done (by kernel_rfl) ?_ _
        cases q9 with
        | true =>
          go_wp2_with (first
            | (refine wpList_loadA rfl 33 (.tmp 11) rfl clTy (w8.heap.size) 0 rfl 33 _ k11 [.slice A9 n9 c9, .slice B9 m9 d9] rfl (all_at _) ?_)
            | (refine wpList_storeB rfl rfl 33 (.tmp 8) (.tmp 48) rfl clTy w.heap.size rfl [.slice A9 n9 c9, .slice B9 m9 d9] rfl 33 _ h11 rfl rfl slices_one ?_; intro x12 k12 o12))
          have b12 := o12.below _ _ b11 (Nat.le_refl _)
          have hz8 := h8d.lt
          have t12 := (t11.only o12 (by omega)).first (o' := pr (a.drop k) (b.drop k) r z)
          exact bodyPost_ret (v := .tuple #[.agg #[.slice A9 n9 c9, .slice B9 m9 d9], .bool true]) (results_cellA2 rfl clTy _ _ w.heap.size 33 [.slice A9 n9 c9, .slice B9 m9 d9] rfl k12 rfl _ rfl) rfl ⟨A9, n9, c9, B9, m9, d9, true, rfl, by rw [HEQ.out]; exact t12.base (by omega), b12⟩
        | false =>
          have b11d := b11.drew
          have h11d := h11.drew
          go_wp2_with fail
          refine regB_begin (w.heap.size) (by kernel_rfl) ?_
          change wpAnyH _ _ _ _ _ 17 #[false, false, false, false, false, false, false, false, false, false, false, false, false, false, false, false, false] _ _
          refine regB_take (i := 0) (d := some 49) (v := (.slice A m c)) rfl rfl (by kernel_rfl) (by kernel_rfl) (by kernel_rfl) (fun _ _ _ h => h) (by rfl) (by intro w' hSw; go_simp) ?_
          try simp only [Act.put, List.setIfInBounds_toArray, List.set_cons_zero, List.set_cons_succ]
          refine regB_take (i := 1) (d := some 50) (v := (.int .i64 (k : Int))) rfl rfl (by kernel_rfl) (by kernel_rfl) (by kernel_rfl) (fun _ _ _ h => h) (by rfl) (by intro w' hSw; go_simp) ?_
          try simp only [Act.put, List.setIfInBounds_toArray, List.set_cons_zero, List.set_cons_succ]
          refine regB_take (i := 2) (d := some 51) (v := (.slice A2 r c2)) rfl rfl (by kernel_rfl) (by kernel_rfl) (by kernel_rfl) (fun _ _ _ h => h) (by rfl) (by intro w' hSw; have h9 := HFA.out w'; go_simp) ?_
          try simp only [Act.put, List.setIfInBounds_toArray, List.set_cons_zero, List.set_cons_succ]
          refine regB_take (i := 3) (d := some 52) (v := (.slice B lb cb)) rfl rfl (by kernel_rfl) (by kernel_rfl) (by kernel_rfl) (fun _ _ _ h => h) (by rfl) (by intro w' hSw; go_simp) ?_
          try simp only [Act.put, List.setIfInBounds_toArray, List.set_cons_zero, List.set_cons_succ]
          refine regB_take (i := 4) (d := some 53) (v := (.int .i64 (k : Int))) rfl rfl (by kernel_rfl) (by kernel_rfl) (by kernel_rfl) (fun _ _ _ h => h) (by rfl) (by intro w' hSw; go_simp) ?_
          try simp only [Act.put, List.setIfInBounds_toArray, List.set_cons_zero, List.set_cons_succ]
          refine regB_take (i := 5) (d := some 54) (v := (.slice B2 lz c3)) rfl rfl (by kernel_rfl) (by kernel_rfl) (by kernel_rfl) (fun _ _ _ h => h) (by rfl) (by intro w' hSw; have h9 := HFB.out w'; go_simp) ?_
          try simp only [Act.put, List.setIfInBounds_toArray, List.set_cons_zero, List.set_cons_succ]
          refine regB_take (i := 6) (d := some 55) (v := (.int .i64 (m : Int))) rfl rfl (by kernel_rfl) (by kernel_rfl) (by kernel_rfl) (fun _ _ _ h => h) (by rfl) (by intro w' hSw; go_simp) ?_
          try simp only [Act.put, List.setIfInBounds_toArray, List.set_cons_zero, List.set_cons_succ]
          refine regB_take (i := 7) (d := some 56) (v := (.int .i64 (k : Int))) rfl rfl (by kernel_rfl) (by kernel_rfl) (by kernel_rfl) (fun _ _ _ h => h) (by rfl) (by intro w' hSw; go_simp) ?_
          try simp only [Act.put, List.setIfInBounds_toArray, List.set_cons_zero, List.set_cons_succ]
          refine regB_take (i := 8) (d := some 57) (v := (.int .i64 (r : Int))) rfl rfl (by kernel_rfl) (by kernel_rfl) (by kernel_rfl) (fun _ _ _ h => h) (by rfl) (by intro w' hSw; go_simp) ?_
          try simp only [Act.put, List.setIfInBounds_toArray, List.set_cons_zero, List.set_cons_succ]
          refine regB_take (i := 9) (d := some 58) (v := (.int .i64 (n : Int))) rfl rfl (by kernel_rfl) (by kernel_rfl) (by kernel_rfl) (fun _ _ _ h => h) (by rfl) (by intro w' hSw; go_simp) ?_
          try simp only [Act.put, List.setIfInBounds_toArray, List.set_cons_zero, List.set_cons_succ]
          refine regB_take (i := 10) (d := some 59) (v := (.int .i64 (k : Int))) rfl rfl (by kernel_rfl) (by kernel_rfl) (by kernel_rfl) (fun _ _ _ h => h) (by rfl) (by intro w' hSw; go_simp) ?_
          try simp only [Act.put, List.setIfInBounds_toArray, List.set_cons_zero, List.set_cons_succ]
          refine regB_take (i := 11) (d := some 60) (v := (.int .i64 (z : Int))) rfl rfl (by kernel_rfl) (by kernel_rfl) (by kernel_rfl) (fun _ _ _ h => h) (by rfl) (by intro w' hSw; go_simp) ?_
          try simp only [Act.put, List.setIfInBounds_toArray, List.set_cons_zero, List.set_cons_succ]
          refine regB_call (i := 12) rfl (by kernel_rfl) (by rfl) fun K hK => ?_
          go_simp
          refine (ih A2 r c2 (vs.drop k) (a.drop k) B2 lz c3 (us.drop k) (b.drop k) z (by omega) _ HDK.out (vD.below b11d) (RD.below b11d) HDKB.out (uD.below b11d) (SD.below b11d) (by omega) (by omega) (by omega) (by omega) (by omega) (by omega) (fun x hx => HBD.out x (List.mem_of_mem_drop hx)) (fun x hx => HBB.out x (List.mem_of_mem_drop hx))).mono ?_
          rintro e w12 ⟨A12, n12, c12, B12, m12, d12, q12, rfl, t12, hb12⟩
          have b12 := b11d.trans (hb12.mono b11d.size)
          have h12 := h11d.below hb12 h11d.lt
          have hz11 := h11d.lt
          refine hK.out _ _ (hb12.mono b11d.size) ?_
          clear hK K
          try simp only [List.setIfInBounds_toArray, List.set_cons_zero, List.set_cons_succ]
          refine regB_take (i := 13) (d := some 62) (v := (.agg #[.slice A12 n12 c12, .slice B12 m12 d12])) rfl rfl (by kernel_rfl) (by kernel_rfl) (by kernel_rfl) (fun _ _ _ h => h) (by rfl) (by intro w' hSw; go_simp) ?_
          try simp only [Act.put, List.setIfInBounds_toArray, List.set_cons_zero, List.set_cons_succ]
          refine regB_take (i := 14) (d := some 63) (v := (.bool q12)) rfl rfl (by kernel_rfl) (by kernel_rfl) (by kernel_rfl) (fun _ _ _ h => h) (by rfl) (by intro w' hSw; go_simp) ?_
          try simp only [Act.put, List.setIfInBounds_toArray, List.set_cons_zero, List.set_cons_succ]
          refine regB_call (i := 15) rfl (by kernel_rfl) (by rfl) fun K hK => ?_
          refine oper_storeB rfl 33 (.tmp 8) (.tmp 62) rfl clTy (w.heap.size) rfl [.slice A12 n12 c12, .slice B12 m12 d12] rfl 33 _ h12 rfl rfl slices_one ?_
          intro x13 k13 o13
          have b13 := o13.below _ _ b12 (Nat.le_refl _)
          have t13 := TC.second t9 (t12.only o13 (by omega))
          refine hK.out _ _ (o13.below _ _ (Below.refl _ _) (Nat.le_refl _)) ?_
          clear hK K
          try simp only [List.setIfInBounds_toArray, List.set_cons_zero, List.set_cons_succ]
          refine regB_take (i := 16) (d := some 9) (v := (.bool q12)) rfl rfl (by kernel_rfl) (by kernel_rfl) (by kernel_rfl) (fun _ _ _ h => h) (by rfl) (by intro w' hSw; go_simp) ?_
          try simp only [Act.put, List.setIfInBounds_toArray, List.set_cons_zero, List.set_cons_succ]
          refine wpAnyH_done (by kernel_rfl) ?_ _
          go_wp2_with fail
          exact bodyPost_ret (v := .tuple #[.agg #[.slice A12 n12 c12, .slice B12 m12 d12], .bool q12]) (results_cellA2 rfl clTy _ _ w.heap.size 33 [.slice A12 n12 c12, .slice B12 m12 d12] rfl k13 rfl _ rfl) rfl ⟨A12, n12, c12, B12, m12, d12, q12, rfl, by rw [HEQ.out]; exact t13.base (by omega), b13⟩

end Go.Proofs.YtihkfomldbjpoaaDoor.ClW

/- Nodes, the sum of nothing, a byte's row. -/
namespace Go.Proofs.YtihkfomldbjpoaaDoor.TrW
open Go.RowKit TreeW
open ShaW Sha
theorem node_tup (l r : ByteArray) (w : World) (hT : Tab w) (h1 : l.size = 32) (h2 : r.size = 32) :
    Calls Tryd.prog 85 #[.string l, .string r] w fun e w' => e = .returned (.tuple #[.string (nd l r), .int .i64 0]) ∧ Below w.heap.size w w' := SealW.node_any l r w hT h1 h2
theorem sum_nil (w : World) (hT : Tab w) : Calls Tryd.prog 63 #[.slice none 0 0] w fun e w' => e = .returned (.string ed) ∧ Below w.heap.size w w' :=
  sum_wide none 0 0 [] w hT rfl Sl.nil (by omega) (by omega) (by omega)
theorem lit_sl (W : World) (x : UInt8) (b : Nat) (hb : b = W.heap.size) : Sl (W.alloc (.cells #[.int .u8 (ub x)] 5)) (some ⟨b, 0, none⟩) (bcells [x]) := Sl.of_at_all (At.new_ W b 5 (bcells [x]) hb)
end Go.Proofs.YtihkfomldbjpoaaDoor.TrW

/- rubrickref07: Check. -/
namespace Go.Proofs.YtihkfomldbjpoaaDoor.CoW
open Go.RowKit TreeW ConsW TrW
open ShaW Sha
set_option maxRecDepth 1000000 in
set_option maxHeartbeats 2000000 in
theorem refCheck_any (m n : Nat) (one two : ByteArray) (A : Option Addr) (l c : Nat) (ss : List ByteArray) (w : World) (h2 : m ≤ n) (hn : n ≤ 1099511627776) (h4 : one.size = 32) (hl : ss.length = l) (hs : Sl w A (scells ss)) (hlc : l ≤ c) (hc63 : c ≤ 9223372036854775807) :
    Calls Tryd.prog 52 #[.int .i64 (m : Int), .int .i64 (n : Int), .string one, .string two, .slice A l c] w fun e w' => ∃ b, e = .returned (.bool b) ∧ (b = true ↔ Digs ss ∧ acc m n one two ss) ∧ Below w.heap.size w w' := by
  have HL := Lib.hid hl
  clear hl
  by_cases hd : ¬ Digs ss
  · have HD := Lib.hid hd
    clear hd
    go_enter Tryd.func52, Tryd.ntmps52
    go_wp2_with fail
    refine (right_no A l c ss _ HL.out hs (by omega) HD.out).mono ?_
    rintro e w1 ⟨rfl, rfl⟩
    go_wp2_with fail
    go_ret
    exact ⟨false, rfl, ⟨(fun h => by cases h), fun h => absurd h.1 HD.out⟩, Below.refl _ _⟩
  have HD : Hid (Digs ss) := Classical.byContradiction hd
  have H4 := Lib.hid h4
  clear hd h4
  by_cases h0 : m = 0
  · subst h0
    by_cases hz : l = 0
    · have HN : Hid (ss = []) := List.eq_nil_of_length_eq_zero (by rw [HL.out]; exact hz)
      subst hz
      by_cases he : one = ed
      · have e1 := SealW.beq_yes he
        have HA : Hid (acc 0 n one two ss) := (accept_zero nd ed (n := n) (one := one) (two := two) (p := ss)).2 ⟨HN.out, he⟩
        clear he
        go_enter Tryd.func52, Tryd.ntmps52
        go_wp2_with fail
        refine (right_yes A 0 c ss _ HL.out hs (by omega) HD.out).mono ?_
        rintro e w1 ⟨rfl, rfl⟩
        go_wp2_with fail
        refine (refSum_any none 0 0 [] _ rfl Sl.nil (by omega)).mono ?_
        rw [show (⟨(sha []).toArray⟩ : ByteArray) = ed from rfl]
        rintro e w1 ⟨rfl, hb1⟩
        go_wp2_with fail
        go_ret
        exact ⟨true, rfl, ⟨fun _ => ⟨HD.out, HA.out⟩, fun _ => rfl⟩, hb1⟩
      · have e1 := SealW.beq_no he
        have HA : Hid (¬ acc 0 n one two ss) := fun h => he ((accept_zero nd ed).1 h).2
        clear he
        go_enter Tryd.func52, Tryd.ntmps52
        go_wp2_with fail
        refine (right_yes A 0 c ss _ HL.out hs (by omega) HD.out).mono ?_
        rintro e w1 ⟨rfl, rfl⟩
        go_wp2_with fail
        refine (refSum_any none 0 0 [] _ rfl Sl.nil (by omega)).mono ?_
        rw [show (⟨(sha []).toArray⟩ : ByteArray) = ed from rfl]
        rintro e w1 ⟨rfl, hb1⟩
        go_wp2_with fail
        go_ret
        exact ⟨false, rfl, ⟨(fun h => by cases h), fun h => absurd h.2 HA.out⟩, hb1⟩
    · have HA : Hid (¬ acc 0 n one two ss) := fun h => hz (by rw [← HL.out, ((accept_zero nd ed).1 h).1]; rfl)
      have hne : ((l : Int) == 0) = false := by simpa using hz
      go_enter Tryd.func52, Tryd.ntmps52
      go_wp2_with fail
      refine (right_yes A l c ss _ HL.out hs (by omega) HD.out).mono ?_
      rintro e w1 ⟨rfl, rfl⟩
      go_wp2_with fail
      go_ret
      exact ⟨false, rfl, ⟨(fun h => by cases h), fun h => absurd h.2 HA.out⟩, Below.refl _ _⟩
  have hne : ((m : Int) == 0) = false := by simpa using h0
  have HAP := Lib.hid (accept_pos nd ed (n := n) (one := one) (two := two) (p := ss) h0)
  go_enter Tryd.func52, Tryd.ntmps52
  go_wp2_with fail
  refine (right_yes A l c ss _ HL.out hs (by omega) HD.out).mono ?_
  rintro e w1 ⟨rfl, rfl⟩
  go_wp2_with fail
  refine (refRoots_any n m n true one A l c ss (Nat.le_refl _) _ (by omega) h2 hn (Nat.le_of_eq H4.out) HL.out hs HD.out hlc hc63).mono ?_
  rintro e w1 ⟨x, y, b, rfl, t3, hb1⟩
  have T3 := Lib.hid t3.is
  clear t3
  cases b with
  | false =>
    have HA : Hid (¬ acc m n one two ss) := fun h => by
      have h1 := HAP.out.1 h
      have h2 := T3.out
      unfold ro at h2
      rw [h2] at h1; cases h1
    go_wp2_with fail
    go_ret
    exact ⟨false, rfl, ⟨(fun h => by cases h), fun h => absurd h.2 HA.out⟩, hb1⟩
  | true =>
    have HI : Hid (acc m n one two ss ↔ x = one ∧ y = two) := by
      have h2 := T3.out
      unfold ro at h2
      refine HAP.out.trans ?_
      rw [h2]
      simp
    by_cases hx : x = one
    · by_cases hy : y = two
      · have HA : Hid (acc m n one two ss) := HI.out.2 ⟨hx, hy⟩
        have e1 := SealW.beq_yes hx
        have e2 := SealW.beq_yes hy
        clear hx hy
        go_wp2_with fail
        go_ret
        exact ⟨true, rfl, ⟨fun _ => ⟨HD.out, HA.out⟩, fun _ => rfl⟩, hb1⟩
      · have HA : Hid (¬ acc m n one two ss) := fun h => hy (HI.out.1 h).2
        have e1 := SealW.beq_yes hx
        have e2 := SealW.beq_no hy
        clear hx hy
        go_wp2_with fail
        go_ret
        exact ⟨false, rfl, ⟨(fun h => by cases h), fun h => absurd h.2 HA.out⟩, hb1⟩
    · have HA : Hid (¬ acc m n one two ss) := fun h => hx (HI.out.1 h).1
      have e1 := SealW.beq_no hx
      clear hx
      go_wp2_with fail
      go_ret
      exact ⟨false, rfl, ⟨(fun h => by cases h), fun h => absurd h.2 HA.out⟩, hb1⟩
end Go.Proofs.YtihkfomldbjpoaaDoor.CoW

/- rubrickref08: Cons. -/
namespace Go.Proofs.YtihkfomldbjpoaaDoor.ClW
open Go.RowKit TreeW ConsW TrW ClashW CoW
open ShaW Sha
/-- May the clash of a proof be asked for: is it accepted? -/
def okC (a b : List (List UInt8)) (ps : List ByteArray) : Prop := a.length ≠ 0 ∧ a.length ≤ b.length ∧ Digs ps ∧ acc a.length b.length (rt (a.map lf)) (rt (b.map lf)) ps
instance (m n : Nat) (one two : ByteArray) (p : List ByteArray) : Decidable (acc m n one two p) := by
  unfold acc accept
  by_cases h : m = 0
  · rw [if_pos h]; infer_instance
  · rw [if_neg h]; infer_instance
instance (a b : List (List UInt8)) (ps : List ByteArray) : Decidable (okC a b ps) := by unfold okC; infer_instance
/-- The clash of a proof for two lists. -/
def cc (a b : List (List UInt8)) (ps : List ByteArray) : Option (List UInt8 × List UInt8) :=
  if okC a b ps then orE (ol (a.map lf) a.length b.length true (rt (a.map lf)) ps) (orE (fr (b.map lf) a.length b.length true (rt (a.map lf)) ps) (pr a b a.length b.length)) else none
theorem cc_no {a b : List (List UInt8)} {ps : List ByteArray} (h : ¬ okC a b ps) : cc a b ps = none := by unfold cc; rw [if_neg h]
theorem cc_yes {a b : List (List UInt8)} {ps : List ByteArray} (h : okC a b ps) : cc a b ps = orE (ol (a.map lf) a.length b.length true (rt (a.map lf)) ps) (orE (fr (b.map lf) a.length b.length true (rt (a.map lf)) ps) (pr a b a.length b.length)) := by unfold cc; rw [if_pos h]
set_option maxRecDepth 1000000 in
set_option maxHeartbeats 4000000 in
theorem refCons (A : Option Addr) (m c : Nat) (vs : List Value) (a : List (List UInt8)) (B : Option Addr) (n cb : Nat) (us : List Value) (b : List (List UInt8)) (C : Option Addr) (lp cp : Nat) (ps : List ByteArray) (w : World)
    (hl : a.length = m) (hA : Sl w A vs) (hR : RowsAt w vs a) (hlb : b.length = n) (hB : Sl w B us) (hS : RowsAt w us b) (hlc : m ≤ c) (hlcb : n ≤ cb) (hm40 : m ≤ 1099511627776) (hl40 : n ≤ 1099511627776) (hbd : ∀ x ∈ a, x.length ≤ 100000000000) (hbb : ∀ x ∈ b, x.length ≤ 100000000000)
    (hlp : ps.length = lp) (hC : Sl w C (scells ps)) (hlpc : lp ≤ cp) (hcp : cp ≤ 9223372036854775807) :
    Calls Tryd.prog 23 #[.slice A m c, .slice B n cb, .slice C lp cp] w fun e w' => ∃ A' n' c' B' m' d' q, e = .returned (.tuple #[.agg #[.slice A' n' c', .slice B' m' d'], .bool q]) ∧ TC w.heap.size w' (cc a b ps) A' n' c' B' m' d' q ∧ Below w.heap.size w w' := by
  have h0 : At (w.alloc (.cells #[.slice none 0 0, .slice none 0 0] 33)) w.heap.size 33 [.slice none 0 0, .slice none 0 0] := At.new_ w _ 33 _ rfl
  have b0 : Below w.heap.size w (w.alloc (.cells #[.slice none 0 0, .slice none 0 0] 33)) := (Below.refl _ _).alloc (Nat.le_refl _) _
  by_cases hz : m = 0
  · have HEQ := Lib.hid (cc_no (a := a) (b := b) (ps := ps) (fun h => h.1 (by omega)))
    have hz' : ((m : Int) == 0) = true := by rw [hz]; rfl
    clear hl hA hR hlb hB hS hbd hbb hlp hC hz
    go_enter Tryd.func23, Tryd.ntmps23
    go_wp2_with (refine wpList_storeB rfl rfl 33 (.tmp 6) (.tmp 25) rfl clTy w.heap.size rfl [.slice none 0 0, .slice none 0 0] rfl 33 _ h0 rfl rfl slices_one ?_; intro x1 k1 o1)
    have bz := o1.below _ _ b0 (Nat.le_refl _)
    exact bodyPost_ret (v := .tuple #[.agg #[.slice none 0 0, .slice none 0 0], .bool false]) (results_cellA2 rfl clTy _ _ w.heap.size 33 [.slice none 0 0, .slice none 0 0] rfl k1 rfl _ rfl) rfl ⟨none, 0, 0, none, 0, 0, false, rfl, by rw [HEQ.out]; exact TC.none_ _ _, bz⟩
  have hz' : ((m : Int) == 0) = false := by simpa using (show ¬ (m : Int) = 0 by omega)
  by_cases hgt : n < m
  · have HEQ := Lib.hid (cc_no (a := a) (b := b) (ps := ps) (fun h => by have := h.2.1; omega))
    have hg' : (m : Int) > (n : Int) := by omega
    clear hl hA hR hlb hB hS hbd hbb hlp hC hz hgt
    go_enter Tryd.func23, Tryd.ntmps23
    go_wp2_with (refine wpList_storeB rfl rfl 33 (.tmp 6) (.tmp 25) rfl clTy w.heap.size rfl [.slice none 0 0, .slice none 0 0] rfl 33 _ h0 rfl rfl slices_one ?_; intro x1 k1 o1)
    have bz := o1.below _ _ b0 (Nat.le_refl _)
    exact bodyPost_ret (v := .tuple #[.agg #[.slice none 0 0, .slice none 0 0], .bool false]) (results_cellA2 rfl clTy _ _ w.heap.size 33 [.slice none 0 0, .slice none 0 0] rfl k1 rfl _ rfl) rfl ⟨none, 0, 0, none, 0, 0, false, rfl, by rw [HEQ.out]; exact TC.none_ _ _, bz⟩
  have hg' : ¬ (m : Int) > (n : Int) := by omega
  have HLA : Hid ((a.map lf).length = m) := by show _ = _; rw [List.length_map, hl]
  have HLB : Hid ((b.map lf).length = n) := by show _ = _; rw [List.length_map, hlb]
  have ZA := Lib.hid (rt_size _ _ (Nat.le_refl _) (lf_digs a))
  have HPL := Lib.hid hlp
  have HLV := Lib.hid (fun (W : World) (hb : Below w.heap.size w W) => refLeaves_any A m c vs a W hl (hA.below hb) (hR.below hb) hm40 (fun x hx => Nat.le_trans (hbd x hx) (by omega)))
  have HLW := Lib.hid (fun (W : World) (hb : Below w.heap.size w W) => refLeaves_any B n cb us b W hlb (hB.below hb) (hS.below hb) hl40 (fun x hx => Nat.le_trans (hbb x hx) (by omega)))
  have HPT := Lib.hid (fun (W : World) (hb : Below w.heap.size w W) => refParts n A m c vs a B n cb us b n (Nat.le_refl _) W hl (hA.below hb) (hR.below hb) hlb (hB.below hb) (hS.below hb) (by omega) (by omega) (Nat.le_refl _) hlc hlcb hl40 hbd hbb)
  have HYES := Lib.hid (fun (h : Digs ps ∧ acc m n (rt (a.map lf)) (rt (b.map lf)) ps) => cc_yes (a := a) (b := b) (ps := ps) ⟨by omega, by omega, h.1, by rw [hl, hlb]; exact h.2⟩)
  have HNO := Lib.hid (fun (h : ¬ (Digs ps ∧ acc m n (rt (a.map lf)) (rt (b.map lf)) ps)) => cc_no (a := a) (b := b) (ps := ps) (fun g => h ⟨g.2.2.1, by have := g.2.2.2; rwa [hl, hlb] at this⟩))
  rw [hl, hlb] at HYES
  clear hl hA hR hlb hB hS hbd hbb hlp
  go_enter Tryd.func23, Tryd.ntmps23
  go_wp2_with fail
  refine (HLV.out _ b0).mono ?_
  rintro e w2 ⟨v2, rfl, hown2, hb2⟩
  have b2 := b0.trans (hb2.mono b0.size)
  have h2 := h0.below hb2 h0.lt
  obtain ⟨A1, c1, rfl, sl1, hc1, _, _⟩ := hown2.slice
  rw [HLA.out] at hc1 ⊢
  clear hown2 hb2 h0
  go_wp2_with fail
  refine (HLW.out _ b2).mono ?_
  rintro e w3 ⟨v3, rfl, hown3, hb3⟩
  have b3 := b2.trans (hb3.mono b2.size)
  have h3 := h2.below hb3 h2.lt
  have sl13 := sl1.below hb3
  obtain ⟨A2, c2, rfl, sl2, hc2, _, _⟩ := hown3.slice
  rw [HLB.out] at hc2 ⊢
  clear hown3 hb3 h2 sl1
  go_wp2_with fail
  refine (refRoot_any m A1 m c1 (a.map lf) (Nat.le_refl _) _ HLA.out sl13 (lf_digs a) hc1 hm40).mono ?_
  rintro e w4 ⟨rfl, hb4⟩
  have b4 := b3.trans (hb4.mono b3.size)
  have h4 := h3.below hb4 h3.lt
  have sl14 := sl13.below hb4
  have sl24 := sl2.below hb4
  clear hb4 h3 sl13 sl2
  go_wp2_with fail
  refine (refRoot_any n A2 n c2 (b.map lf) (Nat.le_refl _) _ HLB.out sl24 (lf_digs b) hc2 hl40).mono ?_
  rintro e w5 ⟨rfl, hb5⟩
  have b5 := b4.trans (hb5.mono b4.size)
  have h5 := h4.below hb5 h4.lt
  have sl15 := sl14.below hb5
  have sl25 := sl24.below hb5
  clear hb5 h4 sl14 sl24
  go_wp2_with fail
  refine (refCheck_any m n (rt (a.map lf)) (rt (b.map lf)) C lp cp ps _ (by omega) hl40 ZA.out HPL.out (hC.below b5) hlpc hcp).mono ?_
  rintro e w6 ⟨q6, rfl, hq6, hb6⟩
  have HQ6 := Lib.hid hq6
  have b6 := b5.trans (hb6.mono b5.size)
  have h6 := h5.below hb6 h5.lt
  have sl16 := sl15.below hb6
  have sl26 := sl25.below hb6
  clear hb6 h5 sl15 sl25 hq6
  cases q6 with
  | false =>
    have HEQ := Lib.hid (HNO.out (fun h => by have := HQ6.out.2 h; cases this))
    go_wp2_with (refine wpList_storeB rfl rfl 33 (.tmp 6) (.tmp 42) rfl clTy w.heap.size rfl [.slice none 0 0, .slice none 0 0] rfl 33 _ h6 rfl rfl slices_one ?_; intro x1 k1 o1)
    have bz := o1.below _ _ b6 (Nat.le_refl _)
    exact bodyPost_ret (v := .tuple #[.agg #[.slice none 0 0, .slice none 0 0], .bool false]) (results_cellA2 rfl clTy _ _ w.heap.size 33 [.slice none 0 0, .slice none 0 0] rfl k1 rfl _ rfl) rfl ⟨none, 0, 0, none, 0, 0, false, rfl, by rw [HEQ.out]; exact TC.none_ _ _, bz⟩
  | true =>
    have HG := Lib.hid (HQ6.out.1 rfl)
    have HEQ := Lib.hid (HYES.out HG.out)
    have hro : ro m n true (rt (a.map lf)) ps ≠ none := fun h => by
      have h1 := (accept_pos nd ed (by omega)).1 HG.out.2
      unfold ro at h
      rw [h] at h1; cases h1
    go_wp2_with fail
    refine (refOld n A1 m c1 (a.map lf) m n true (rt (a.map lf)) C lp cp ps (Nat.le_refl _) _ HLA.out sl16 (lf_digs a) hc1 rfl (by omega) (by omega) hl40 (Nat.le_of_eq ZA.out) HPL.out (hC.below b6) HG.out.1 hlpc hcp hro).mono ?_
    rintro e w7 ⟨A7, n7, c7, B7, m7, d7, q7, rfl, t7, hb7⟩
    have b7 := b6.trans (hb7.mono b6.size)
    have h7 := h6.below hb7 h6.lt
    have sl27 := sl26.below hb7
    have hz6 := h6.lt
    have kk7 : At (w7.alloc (.cells #[.slice none 0 0, .slice none 0 0] 33)) w7.heap.size 33 [.slice none 0 0, .slice none 0 0] := At.new_ w7 _ 33 _ rfl
    have lkk7 : Below w7.heap.size w7 (w7.alloc (.cells #[.slice none 0 0, .slice none 0 0] 33)) := (Below.refl _ _).alloc (Nat.le_refl _) _
    have hkk7 := h7.below lkk7 h7.lt
    have gkk7 : w.heap.size < w7.heap.size := h7.lt
    clear hb7 h6 sl16 sl26
    cases q7 with
    | true =>
      go_wp2_with (first
        | (refine wpList_storeB rfl rfl 33 (.tmp 11) (.tmp 52) rfl clTy w7.heap.size rfl [.slice A7 n7 c7, .slice B7 m7 d7] rfl 33 _ kk7 rfl rfl slices_one ?_; intro y1 j1 p1)
        | (refine wpList_loadA rfl 33 (.tmp 11) rfl clTy w7.heap.size 0 rfl 33 _ j1 [.slice A7 n7 c7, .slice B7 m7 d7] rfl (all_at _) ?_)
        | (refine wpList_storeB rfl rfl 33 (.tmp 6) (.tmp 55) rfl clTy w.heap.size rfl [.slice A7 n7 c7, .slice B7 m7 d7] rfl 33 _ (p1.at_ hkk7 (by omega)) rfl rfl slices_one ?_; intro y2 j2 p2))
      have e1 := p1.below _ _ lkk7 (Nat.le_refl _)
      have e2 := p2.below _ _ (b7.trans (e1.mono b7.size)) (Nat.le_refl _)
      have tz := (t7.below e1).only p2 (by omega)
      exact bodyPost_ret (v := .tuple #[.agg #[.slice A7 n7 c7, .slice B7 m7 d7], .bool true]) (results_cellA2 rfl clTy _ _ w.heap.size 33 [.slice A7 n7 c7, .slice B7 m7 d7] rfl j2 rfl _ rfl) rfl ⟨A7, n7, c7, B7, m7, d7, true, rfl, by rw [HEQ.out]; exact (tz.first).base (by omega), e2⟩
    | false =>
      go_wp2_with (refine wpList_storeB rfl rfl 33 (.tmp 11) (.tmp 52) rfl clTy w7.heap.size rfl [.slice A7 n7 c7, .slice B7 m7 d7] rfl 33 _ kk7 rfl rfl slices_one ?_; intro x8 k8 o8)
      have l8 := o8.below _ _ lkk7 (Nat.le_refl _)
      have b8 := b7.trans (l8.mono b7.size)
      have h8 := o8.at_ hkk7 (by omega)
      have sl28 := sl27.below l8
      refine (refFresh n A2 n c2 (b.map lf) m n true (rt (a.map lf)) C lp cp ps (Nat.le_refl _) _ HLB.out sl28 (lf_digs b) hc2 rfl (by omega) (by omega) hl40 (Nat.le_of_eq ZA.out) HPL.out (hC.below b8) HG.out.1 hlpc hcp hro).mono ?_
      rintro e w9 ⟨A9, n9, c9, B9, m9, d9, q9, rfl, t9, hb9⟩
      have b9 := b8.trans (hb9.mono b8.size)
      have h9 := h8.below hb9 h8.lt
      have hz8 := h8.lt
      have kk9 : At (w9.alloc (.cells #[.slice none 0 0, .slice none 0 0] 33)) w9.heap.size 33 [.slice none 0 0, .slice none 0 0] := At.new_ w9 _ 33 _ rfl
      have lkk9 : Below w9.heap.size w9 (w9.alloc (.cells #[.slice none 0 0, .slice none 0 0] 33)) := (Below.refl _ _).alloc (Nat.le_refl _) _
      have hkk9 := h9.below lkk9 h9.lt
      have gkk9 : w.heap.size < w9.heap.size := h9.lt
      cases q9 with
      | true =>
        go_wp2_with (first
          | (refine wpList_storeB rfl rfl 33 (.tmp 13) (.tmp 65) rfl clTy w9.heap.size rfl [.slice A9 n9 c9, .slice B9 m9 d9] rfl 33 _ kk9 rfl rfl slices_one ?_; intro y1 j1 p1)
          | (refine wpList_loadA rfl 33 (.tmp 13) rfl clTy w9.heap.size 0 rfl 33 _ j1 [.slice A9 n9 c9, .slice B9 m9 d9] rfl (all_at _) ?_)
          | (refine wpList_storeB rfl rfl 33 (.tmp 6) (.tmp 68) rfl clTy w.heap.size rfl [.slice A9 n9 c9, .slice B9 m9 d9] rfl 33 _ (p1.at_ hkk9 (by omega)) rfl rfl slices_one ?_; intro y2 j2 p2))
        have e1 := p1.below _ _ lkk9 (Nat.le_refl _)
        have e2 := p2.below _ _ (b9.trans (e1.mono b9.size)) (Nat.le_refl _)
        have tz := (t9.below e1).only p2 (by omega)
        exact bodyPost_ret (v := .tuple #[.agg #[.slice A9 n9 c9, .slice B9 m9 d9], .bool true]) (results_cellA2 rfl clTy _ _ w.heap.size 33 [.slice A9 n9 c9, .slice B9 m9 d9] rfl j2 rfl _ rfl) rfl ⟨A9, n9, c9, B9, m9, d9, true, rfl, by rw [HEQ.out]; exact (TC.second t7 tz.first).base (by omega), e2⟩
      | false =>
        go_wp2_with (refine wpList_storeB rfl rfl 33 (.tmp 13) (.tmp 65) rfl clTy w9.heap.size rfl [.slice A9 n9 c9, .slice B9 m9 d9] rfl 33 _ kk9 rfl rfl slices_one ?_; intro x10 k10 o10)
        have l10 := o10.below _ _ lkk9 (Nat.le_refl _)
        have b10 := b9.trans (l10.mono b9.size)
        have h10 := o10.at_ hkk9 (by omega)
        refine (HPT.out _ b10).mono ?_
        rintro e w11 ⟨A11, n11, c11, B11, m11, d11, q11, rfl, t11, hb11⟩
        have b11 := b10.trans (hb11.mono b10.size)
        have h11 := h10.below hb11 h10.lt
        have hz10 := h10.lt
        go_wp2_with (refine wpList_storeB rfl rfl 33 (.tmp 6) (.tmp 76) rfl clTy w.heap.size rfl [.slice A11 n11 c11, .slice B11 m11 d11] rfl 33 _ h11 rfl rfl slices_one ?_; intro x12 k12 o12)
        have b12 := o12.below _ _ b11 (Nat.le_refl _)
        have t12 := TC.second t7 (TC.second t9 (t11.only o12 (by omega)))
        exact bodyPost_ret (v := .tuple #[.agg #[.slice A11 n11 c11, .slice B11 m11 d11], .bool q11]) (results_cellA2 rfl clTy _ _ w.heap.size 33 [.slice A11 n11 c11, .slice B11 m11 d11] rfl k12 rfl _ rfl) rfl ⟨A11, n11, c11, B11, m11, d11, q11, rfl, by rw [HEQ.out]; exact t12.base (by omega), b12⟩
end Go.Proofs.YtihkfomldbjpoaaDoor.ClW

/- rubrickref06: Steps. -/
namespace Go.Proofs.YtihkfomldbjpoaaDoor.TrW
open Go.RowKit TreeW
theorem steps_le : ∀ (n i : Nat), steps i n ≤ n := by
  intro n
  induction n using Nat.strongRecOn with
  | _ n ih =>
    intro i
    by_cases h : n < 2
    · rw [steps_one i n h]; omega
    · obtain ⟨a, b, _, _⟩ := split_spec (n := n) (by omega)
      by_cases hi : i < split n
      · rw [steps_left (by omega) hi]; have := ih (split n) (by omega) i; omega
      · rw [steps_right (by omega) hi]; have := ih (n - split n) (by omega) (i - split n); omega
set_option maxHeartbeats 1000000 in
theorem steps_any : ∀ (m i n : Nat) (_hm : n ≤ m) (w : World) (_hn : n ≤ 1099511627776) (_hi : i < 1099511627777),
    Calls Tryd.prog 39 #[.int .i64 (i : Int), .int .i64 (n : Int)] w fun e w' => e = .returned (.int .i64 ((steps i n : Nat) : Int)) ∧ w = w' := by
  intro m
  induction m with
  | zero =>
    intro i n hm w hn hi
    have HS := Lib.hid (steps_one i n (by omega))
    have k1 : (n : Int) < 2 := by omega
    go_enter Tryd.func39, Tryd.ntmps39
    go_wp2_with fail
    go_ret
    exact ⟨by rw [HS.out]; rfl, rfl⟩
  | succ m ih =>
    intro i n hm w hn hi
    by_cases h2 : n < 2
    · have HS := Lib.hid (steps_one i n h2)
      have k1 : (n : Int) < 2 := by omega
      go_enter Tryd.func39, Tryd.ntmps39
      go_wp2_with fail
      go_ret
      exact ⟨by rw [HS.out]; rfl, rfl⟩
    obtain ⟨a, b, _, _⟩ := split_spec (n := n) (by omega)
    have hyes := steps_left (i := i) (n := n) (by omega)
    have hno := steps_right (i := i) (n := n) (by omega)
    obtain ⟨k, hk⟩ : ∃ k, k = split n := ⟨_, rfl⟩
    rw [← hk] at a b hyes hno
    have HK := Lib.hid hk
    clear hk
    have k1 : ¬ (n : Int) < 2 := by omega
    by_cases hik : i < k
    · have HS := Lib.hid (hyes hik)
      have hle := steps_le k i
      obtain ⟨q, hq⟩ : ∃ q, steps i k = q := ⟨_, rfl⟩
      rw [hq] at hle
      have HQ := Lib.hid hq
      clear hyes hno hq
      go_enter Tryd.func39, Tryd.ntmps39
      go_wp2_with fail
      refine (refSplit_in n _ (by omega) hn).mono ?_
      rintro e w1 ⟨rfl, rfl⟩
      rw [← HK.out]
      go_wp2_with fail
      refine (ih i k (by omega) _ (by omega) hi).mono ?_
      rintro e w1 ⟨rfl, rfl⟩
      rw [HQ.out]
      go_wp2_with fail
      go_ret
      exact ⟨by rw [HS.out, HQ.out]; rfl, rfl⟩
    · have HS := Lib.hid (hno hik)
      have hle := steps_le (n - k) (i - k)
      obtain ⟨q, hq⟩ : ∃ q, steps (i - k) (n - k) = q := ⟨_, rfl⟩
      rw [hq] at hle
      have HQ := Lib.hid hq
      have k5 : ¬ (i : Int) < (k : Int) := by omega
      have k6 : (i : Int) - (k : Int) = ((i - k : Nat) : Int) := by omega
      have k7 : (n : Int) - (k : Int) = ((n - k : Nat) : Int) := by omega
      clear hyes hno hq
      go_enter Tryd.func39, Tryd.ntmps39
      go_wp2_with fail
      refine (refSplit_in n _ (by omega) hn).mono ?_
      rintro e w1 ⟨rfl, rfl⟩
      rw [← HK.out]
      go_wp2_with fail
      refine (ih (i - k) (n - k) (by omega) _ (by omega) (by omega)).mono ?_
      rintro e w1 ⟨rfl, rfl⟩
      rw [HQ.out]
      go_wp2_with fail
      go_ret
      exact ⟨by rw [HS.out, HQ.out]; rfl, rfl⟩
end Go.Proofs.YtihkfomldbjpoaaDoor.TrW

/- rubrickref08: Fair. -/
namespace Go.Proofs.YtihkfomldbjpoaaDoor.ClW
open Go.RowKit TreeW ConsW TrW ClashW
open ShaW Sha
/-- May a leaf be claimed so? -/
def fair8 (l : Nat) (i : Int) (ps : List ByteArray) : Prop := 0 ≤ i ∧ i < (l : Int) ∧ Digs ps ∧ ps.length = steps i.toNat l
instance (l : Nat) (i : Int) (ps : List ByteArray) : Decidable (fair8 l i ps) := by unfold fair8; infer_instance
set_option maxHeartbeats 1000000 in
theorem fair8_any (A : Option Addr) (l c : Nat) (i : Int) (C : Option Addr) (lp cp : Nat) (ps : List ByteArray) (w : World) (hl40 : l ≤ 1099511627776) (hlp : ps.length = lp) (hC : Sl w C (scells ps)) (hlpc : lp ≤ cp) (hcp : cp ≤ 9223372036854775807) :
    Calls Tryd.prog 13 #[.slice A l c, .int .i64 i, .slice C lp cp] w fun e w' => e = .returned (.bool (decide (fair8 l i ps))) ∧ w = w' := by
  by_cases h0 : 0 ≤ i
  · by_cases h1 : i < (l : Int)
    · obtain ⟨j, rfl⟩ := Int.eq_ofNat_of_zero_le h0
      have hj : j < l := by omega
      by_cases hd : Digs ps
      · by_cases hs : lp = steps j l
        · have HF : Hid (decide (fair8 l (j : Int) ps) = true) := decide_eq_true ⟨h0, h1, hd, by rw [hlp, hs]; rfl⟩
          have HL := Lib.hid hlp
          have HD := Lib.hid hd
          subst hs
          clear hlp hd h0
          go_enter Tryd.func13, Tryd.ntmps13
          go_wp2_with fail
          refine (right_yes C _ cp ps _ HL.out hC (by omega) HD.out).mono ?_
          rintro e w1 ⟨rfl, rfl⟩
          go_wp2_with fail
          refine (steps_any l j l (Nat.le_refl _) _ hl40 (by omega)).mono ?_
          rintro e w1 ⟨rfl, rfl⟩
          go_wp2_with fail
          go_ret
          exact ⟨by rw [HF.out]; rfl, rfl⟩
        · have HF : Hid (decide (fair8 l (j : Int) ps) = false) := decide_eq_false (fun h => hs (by rw [← hlp]; exact h.2.2.2))
          have HL := Lib.hid hlp
          have HD := Lib.hid hd
          obtain ⟨q, hq⟩ : ∃ q, steps j l = q := ⟨_, rfl⟩
          have HQ := Lib.hid hq
          have hne : ((lp : Int) == (q : Int)) = false := by simpa using (show ¬ (lp : Int) = (q : Int) by omega)
          clear hlp hd h0 hs hq
          go_enter Tryd.func13, Tryd.ntmps13
          go_wp2_with fail
          refine (right_yes C _ cp ps _ HL.out hC (by omega) HD.out).mono ?_
          rintro e w1 ⟨rfl, rfl⟩
          go_wp2_with fail
          refine (steps_any l j l (Nat.le_refl _) _ hl40 (by omega)).mono ?_
          rintro e w1 ⟨rfl, rfl⟩
          rw [HQ.out]
          go_wp2_with fail
          go_ret
          exact ⟨by rw [HF.out]; rfl, rfl⟩
      · have HF : Hid (decide (fair8 l (j : Int) ps) = false) := decide_eq_false (fun h => hd h.2.2.1)
        have HL := Lib.hid hlp
        have HD := Lib.hid hd
        clear hlp hd h0
        go_enter Tryd.func13, Tryd.ntmps13
        go_wp2_with fail
        refine (right_no C _ cp ps _ HL.out hC (by omega) HD.out).mono ?_
        rintro e w1 ⟨rfl, rfl⟩
        go_wp2_with fail
        go_ret
        exact ⟨by rw [HF.out]; rfl, rfl⟩
    · have HF : Hid (decide (fair8 l i ps) = false) := decide_eq_false (fun h => h1 h.2.1)
      clear hlp
      go_enter Tryd.func13, Tryd.ntmps13
      go_wp2_with fail
      go_ret
      exact ⟨by rw [HF.out]; rfl, rfl⟩
  · have HF : Hid (decide (fair8 l i ps) = false) := decide_eq_false (fun h => h0 h.1)
    clear hlp
    go_enter Tryd.func13, Tryd.ntmps13
    go_wp2_with fail
    go_ret
    exact ⟨by rw [HF.out]; rfl, rfl⟩
end Go.Proofs.YtihkfomldbjpoaaDoor.ClW

/- How long the two texts of a clash are. Nothing of the dump. -/
namespace Go.Proofs.YtihkfomldbjpoaaDoor.ClashW
open TreeW ConsW
abbrev Dg := List UInt8
/-- Both texts have at most so many bytes. -/
def Sm (M : Nat) (c : Dg × Dg) : Prop := c.1.length ≤ M ∧ c.2.length ≤ M
section
variable (h : Dg → Dg)
theorem btw_sm {M : Nat} {a b : Dg} {c : Dg × Dg} (e : btw h a b = some c) (ha : a.length ≤ M) (hb : b.length ≤ M) : Sm M c := by
  obtain ⟨rfl, _⟩ := btw_is h e
  exact ⟨ha, hb⟩
theorem climb32 (hh : ∀ x, (h x).length = 32) (x : Dg) (hx : x.length = 32) (i n : Nat) (p : List Dg) : (climb (nodeN h) (noneE h) x i n p).length = 32 := by
  by_cases hn : n < 2
  · rw [climb_one _ _ _ _ _ _ hn]; exact hx
  · rw [climb_two _ _ _ _ _ _ (by omega)]
    split <;> exact hh _
theorem last32 (hh : ∀ x, (h x).length = 32) (p : List Dg) (hp : ∀ d ∈ p, d.length = 32) : (p.getLast?.getD (noneE h)).length = 32 := by
  cases hl : p.getLast? with
  | none => exact hh _
  | some d => exact hp d (List.mem_of_getLast? hl)
theorem front32 {p : List Dg} (hp : ∀ d ∈ p, d.length = 32) : ∀ d ∈ p.dropLast, d.length = 32 := fun d hd => hp d (List.dropLast_subset p hd)
theorem node65 {a b : Dg} (ha : a.length = 32) (hb : b.length = 32) : (nodeB a b).length = 65 := by unfold nodeB; simp [ha, hb]
theorem top65 (hh : ∀ x, (h x).length = 32) (l : List Dg) (hl : ∀ x ∈ l, x.length = 32) : (topB h l).length = 65 :=
  node65 (root32 h hh _ fun x hx => hl x (List.mem_of_mem_take hx)) (root32 h hh _ fun x hx => hl x (List.mem_of_mem_drop hx))
theorem leafF_sm (hh : ∀ x, (h x).length = 32) {M : Nat} (hM : 65 ≤ M) : ∀ (f : Nat) (l : List Dg) (i : Nat) (x : Dg) (p : List Dg) (c : Dg × Dg), (∀ d ∈ p, d.length = 32) → x.length + 1 ≤ M → (∀ b ∈ l, b.length + 1 ≤ M) → leafF h f l i x p = some c → Sm M c
  | 0, _, _, _, _, _, _, _, _, e => by cases e
  | f + 1, l, i, x, p, c, hp, hx, hl, e => by
    unfold leafF at e
    split at e
    · refine btw_sm h e hx ?_
      match l with
      | [] => simp [leafB]; omega
      | b :: l => exact hl b List.mem_cons_self
    · have ht := Nat.le_trans (Nat.le_of_eq (top65 h hh _ (leaves32 h hh l))) hM
      split at e
      · rcases orE_some e with e | ⟨_, e⟩
        · exact btw_sm h e (Nat.le_trans (Nat.le_of_eq (node65 (climb32 h hh _ (hh _) _ _ _) (last32 h hh p hp))) hM) ht
        · exact leafF_sm hh hM f _ _ _ _ _ (front32 hp) hx (fun b hb => hl b (List.mem_of_mem_take hb)) e
      · rcases orE_some e with e | ⟨_, e⟩
        · exact btw_sm h e (Nat.le_trans (Nat.le_of_eq (node65 (last32 h hh p hp) (climb32 h hh _ (hh _) _ _ _))) hM) ht
        · exact leafF_sm hh hM f _ _ _ _ _ (front32 hp) hx (fun b hb => hl b (List.mem_of_mem_drop hb)) e
theorem twoF_sm (hh : ∀ x, (h x).length = 32) {M : Nat} (hM : 65 ≤ M) : ∀ (f : Nat) (a b : List Dg) (c : Dg × Dg), (∀ x ∈ a, x.length + 1 ≤ M) → (∀ x ∈ b, x.length + 1 ≤ M) → twoF h f a b = some c → Sm M c
  | 0, _, _, _, _, _, e => by cases e
  | f + 1, a, b, c, ha, hb, e => by
    have hg : ∀ l : List Dg, (∀ x ∈ l, x.length + 1 ≤ M) → (leafB (l.getD 0 [])).length ≤ M := fun l hl => by
      match l with
      | [] => simp [leafB]; omega
      | b :: l => exact hl b List.mem_cons_self
    unfold twoF at e
    split at e
    · exact btw_sm h e (hg a ha) (hg b hb)
    · have ta := Nat.le_trans (Nat.le_of_eq (top65 h hh _ (leaves32 h hh a))) hM
      have tb := Nat.le_trans (Nat.le_of_eq (top65 h hh _ (leaves32 h hh b))) hM
      rcases orE_some e with e | ⟨_, e⟩
      · exact btw_sm h e ta tb
      · rcases orE_some e with e | ⟨_, e⟩
        · exact twoF_sm hh hM f _ _ _ (fun x hx => ha x (List.mem_of_mem_take hx)) (fun x hx => hb x (List.mem_of_mem_take hx)) e
        · exact twoF_sm hh hM f _ _ _ (fun x hx => ha x (List.mem_of_mem_drop hx)) (fun x hx => hb x (List.mem_of_mem_drop hx)) e
theorem rootsLe (hh : ∀ x, (h x).length = 32) (m n : Nat) (wh : Bool) (one : Dg) (p : List Dg) (ho : one.length = 32) (hp : ∀ d ∈ p, d.length = 32) :
    ((ConsW.roots (nodeN h) m n wh one p).getD ([], [])).1.length ≤ 32 ∧ ((ConsW.roots (nodeN h) m n wh one p).getD ([], [])).2.length ≤ 32 := by
  cases hr : ConsW.roots (nodeN h) m n wh one p with
  | none => exact ⟨Nat.zero_le _, Nat.zero_le _⟩
  | some x =>
    obtain ⟨u, v⟩ := x
    have := rootsF_32 h hh _ _ _ _ _ _ u v ho hp hr
    exact ⟨Nat.le_of_eq this.1, Nat.le_of_eq this.2⟩
theorem nodeLe {M : Nat} (hM : 65 ≤ M) {a b : Dg} (ha : a.length ≤ 32) (hb : b.length ≤ 32) : (nodeB a b).length ≤ M := by unfold nodeB; simp; omega
theorem oldF_sm (hh : ∀ x, (h x).length = 32) {M : Nat} (hM : 65 ≤ M) : ∀ (f : Nat) (a : List Dg) (m n : Nat) (wh : Bool) (one : Dg) (p : List Dg) (c : Dg × Dg), (∀ d ∈ a, d.length = 32) → (∀ d ∈ p, d.length = 32) → one.length = 32 → oldF h f a m n wh one p = some c → Sm M c
  | 0, _, _, _, _, _, _, _, _, _, _, e => by cases e
  | f + 1, a, m, n, wh, one, p, c, ha, hp, ho, e => by
    unfold oldF at e
    split at e
    · cases e
    · split at e
      · exact oldF_sm hh hM f _ _ _ _ _ _ _ ha (front32 hp) ho e
      · rcases orE_some e with e | ⟨_, e⟩
        · exact btw_sm h e (nodeLe hM (Nat.le_of_eq (last32 h hh p hp)) (rootsLe h hh _ _ _ _ _ ho (front32 hp)).1) (Nat.le_trans (Nat.le_of_eq (top65 h hh _ ha)) hM)
        · exact oldF_sm hh hM f _ _ _ _ _ _ _ (fun x hx => ha x (List.mem_of_mem_drop hx)) (front32 hp) ho e
theorem freshF_sm (hh : ∀ x, (h x).length = 32) {M : Nat} (hM : 65 ≤ M) : ∀ (f : Nat) (a : List Dg) (m n : Nat) (wh : Bool) (one : Dg) (p : List Dg) (c : Dg × Dg), (∀ d ∈ a, d.length = 32) → (∀ d ∈ p, d.length = 32) → one.length = 32 → freshF h f a m n wh one p = some c → Sm M c
  | 0, _, _, _, _, _, _, _, _, _, _, e => by cases e
  | f + 1, a, m, n, wh, one, p, c, ha, hp, ho, e => by
    unfold freshF at e
    split at e
    · cases e
    · split at e
      · rcases orE_some e with e | ⟨_, e⟩
        · exact btw_sm h e (nodeLe hM (rootsLe h hh _ _ _ _ _ ho (front32 hp)).2 (Nat.le_of_eq (last32 h hh p hp))) (Nat.le_trans (Nat.le_of_eq (top65 h hh _ ha)) hM)
        · exact freshF_sm hh hM f _ _ _ _ _ _ _ (fun x hx => ha x (List.mem_of_mem_take hx)) (front32 hp) ho e
      · rcases orE_some e with e | ⟨_, e⟩
        · exact btw_sm h e (nodeLe hM (Nat.le_of_eq (last32 h hh p hp)) (rootsLe h hh _ _ _ _ _ ho (front32 hp)).2) (Nat.le_trans (Nat.le_of_eq (top65 h hh _ ha)) hM)
        · exact freshF_sm hh hM f _ _ _ _ _ _ _ (fun x hx => ha x (List.mem_of_mem_drop hx)) (front32 hp) ho e
theorem partsF_sm (hh : ∀ x, (h x).length = 32) {M : Nat} (hM : 65 ≤ M) : ∀ (f : Nat) (a b : List Dg) (m n : Nat) (c : Dg × Dg), (∀ x ∈ a, x.length + 1 ≤ M) → (∀ x ∈ b, x.length + 1 ≤ M) → partsF h f a b m n = some c → Sm M c
  | 0, _, _, _, _, _, _, _, e => by cases e
  | f + 1, a, b, m, n, c, ha, hb, e => by
    unfold partsF at e
    split at e
    · exact twoF_sm h hh hM _ _ _ _ (fun x hx => ha x (List.mem_of_mem_take hx)) (fun x hx => hb x (List.mem_of_mem_take hx)) e
    · split at e
      · exact partsF_sm hh hM f _ _ _ _ _ ha hb e
      · rcases orE_some e with e | ⟨_, e⟩
        · exact twoF_sm h hh hM _ _ _ _ (fun x hx => ha x (List.mem_of_mem_take hx)) (fun x hx => hb x (List.mem_of_mem_take hx)) e
        · exact partsF_sm hh hM f _ _ _ _ _ (fun x hx => ha x (List.mem_of_mem_drop hx)) (fun x hx => hb x (List.mem_of_mem_drop hx)) e
end
end Go.Proofs.YtihkfomldbjpoaaDoor.ClashW

/- What layer 8 promises, in plain words of this program's sum. -/
namespace Go.Proofs.YtihkfomldbjpoaaDoor.ClW
open Go.RowKit TreeW ConsW TrW ClashW CoW
open ShaW Sha
abbrev Cl := Option (List UInt8 × List UInt8)
/-- What is told is a clash, of two texts that aren't too long. -/
def Good (o : Cl) : Prop := ∀ x, o = some x → (x.1 ≠ x.2 ∧ sha x.1 = sha x.2) ∧ x.1.length ≤ 1000000000000 ∧ x.2.length ≤ 1000000000000
theorem Good.none_ : Good none := fun x h => by cases h
theorem sha32 : ∀ x, (sha x).length = 32 := fun x => SealW.sha_len x
theorem dl32 {ps : List ByteArray} (h : Digs ps) : ∀ d ∈ ps.map dl, d.length = 32 := by
  intro d hd
  obtain ⟨x, hx, rfl⟩ := List.mem_map.1 hd
  have := h x hx
  show x.data.toList.length = 32
  simpa using this
theorem good_of {o : Cl} (h1 : ∀ c, o = some c → IsC sha c) (h2 : ∀ c, o = some c → Sm 1000000000000 c) : Good o := fun x hx => ⟨h1 x hx, h2 x hx⟩
theorem btw_good {a b : List UInt8} (ha : a.length ≤ 1000000000000) (hb : b.length ≤ 1000000000000) : Good (btw sha a b) :=
  good_of (fun _ e => btw_isC sha e) (fun _ e => btw_sm sha e ha hb)
/-- The clash of a leaf that is claimed, or none where it may not be claimed so. -/
def lcx (bss : List (List UInt8)) (i : Int) (x : List UInt8) (ps : List ByteArray) : Cl := if fair8 bss.length i ps then lc bss i.toNat x ps else none
theorem lcx_no {bss : List (List UInt8)} {i : Int} {x : List UInt8} {ps : List ByteArray} (h : ¬ fair8 bss.length i ps) : lcx bss i x ps = none := if_neg h
theorem lcx_yes {bss : List (List UInt8)} {i : Int} {x : List UInt8} {ps : List ByteArray} (h : fair8 bss.length i ps) : lcx bss i x ps = lc bss i.toNat x ps := if_pos h
theorem lcx_good {bss : List (List UInt8)} {i : Int} {x : List UInt8} {ps : List ByteArray} (hb : ∀ b ∈ bss, b.length ≤ 100000000000) (hx : x.length ≤ 100000000000) : Good (lcx bss i x ps) := by
  unfold lcx
  split
  · rename_i h
    exact good_of (fun c e => leafF_is sha _ _ _ _ _ c e) (fun c e => leafF_sm sha sha32 (by omega) _ _ _ _ _ c (dl32 h.2.2.1) (by omega) (fun b hb' => by have := hb b hb'; omega) e)
  · exact Good.none_
/-- P8.4. -/
theorem lcx_finds {bss : List (List UInt8)} {i : Nat} {x : List UInt8} {ps : List ByteArray} (h : fair8 bss.length (i : Int) ps) (hr : climb nd ed (lf x) i bss.length ps = rt (bss.map lf)) (hne : x ≠ bss.getD i []) : (lcx bss (i : Int) x ps).isSome := by
  rw [lcx_yes h]
  have hi : i < bss.length := by have := h.2.1; omega
  refine leaf_finds sha sha32 bss.length bss i x (ps.map dl) (Nat.le_refl _) hi (dl32 h.2.2.1) ?_ hne
  have e := congrArg dl hr
  rw [dl_climb, dl_rt, lfs_dl] at e
  exact e
theorem lcx_honest {bss : List (List UInt8)} {i : Nat} (hi : i < bss.length) : lcx bss (i : Int) (bss.getD i []) (path nd ed (bss.map lf) i) = none := by
  unfold lcx
  split
  · show leafC sha bss i _ ((path nd ed (bss.map lf) i).map dl) = none
    rw [dl_path, lfs_dl]
    exact leaf_honest sha bss.length bss i (Nat.le_refl _) hi
  · rfl
/-- The clash of two lists, or none where there are not as many leaves, or none at all. -/
def tcx (a b : List (List UInt8)) : Cl := if a.length = b.length ∧ a.length ≠ 0 then tc a b else none
theorem tcx_no {a b : List (List UInt8)} (h : ¬ (a.length = b.length ∧ a.length ≠ 0)) : tcx a b = none := if_neg h
theorem tcx_yes {a b : List (List UInt8)} (h : a.length = b.length ∧ a.length ≠ 0) : tcx a b = tc a b := if_pos h
theorem tc_good {a b : List (List UInt8)} (ha : ∀ x ∈ a, x.length ≤ 100000000000) (hb : ∀ x ∈ b, x.length ≤ 100000000000) : Good (tc a b) :=
  good_of (fun c e => twoF_is sha _ _ _ c e) (fun c e => twoF_sm sha sha32 (by omega) _ _ _ c (fun b hb' => by have := ha b hb'; omega) (fun b hb' => by have := hb b hb'; omega) e)
theorem tcx_good {a b : List (List UInt8)} (ha : ∀ x ∈ a, x.length ≤ 100000000000) (hb : ∀ x ∈ b, x.length ≤ 100000000000) : Good (tcx a b) := by
  unfold tcx
  split
  · exact tc_good ha hb
  · exact Good.none_
theorem rts_dl {a b : List (List UInt8)} (h : rt (a.map lf) = rt (b.map lf)) : root (nodeN sha) (noneE sha) (a.map (leafN sha)) = root (nodeN sha) (noneE sha) (b.map (leafN sha)) := by
  have e := congrArg dl h
  rw [dl_rt, dl_rt, lfs_dl, lfs_dl] at e
  exact e
/-- P8.5. -/
theorem tcx_finds {a b : List (List UInt8)} (hl : a.length = b.length) (hne : a ≠ b) (hr : rt (a.map lf) = rt (b.map lf)) : (tcx a b).isSome := by
  have h0 : a.length ≠ 0 := fun h => hne ((List.eq_nil_of_length_eq_zero h).trans (List.eq_nil_of_length_eq_zero (hl.symm.trans h)).symm)
  rw [tcx_yes ⟨hl, h0⟩]
  exact two_finds sha sha32 a.length a b (Nat.le_refl _) (by omega) (by omega) hne (rts_dl hr)
theorem tcx_same (a : List (List UInt8)) : tcx a a = none := by
  unfold tcx
  split
  · rename_i h
    exact two_same sha a.length a (Nat.le_refl _) (by omega)
  · rfl
theorem orE_good {o p : Cl} (h1 : Good o) (h2 : Good p) : Good (orE o p) := fun x hx => by
  rcases orE_some hx with e | ⟨_, e⟩
  · exact h1 x e
  · exact h2 x e
theorem dlt32 {x : ByteArray} (h : x.size = 32) : (dl x).length = 32 := by
  show x.data.toList.length = 32
  simpa using h
theorem cc_good {a b : List (List UInt8)} {ps : List ByteArray} (ha : ∀ x ∈ a, x.length ≤ 100000000000) (hb : ∀ x ∈ b, x.length ≤ 100000000000) : Good (cc a b ps) := by
  by_cases h : okC a b ps
  · rw [cc_yes h]
    have h1 := dlt32 (rt_size _ _ (Nat.le_refl _) (lf_digs a))
    refine orE_good (good_of (fun c e => oldF_is sha _ _ _ _ _ _ _ c e) (fun c e => oldF_sm sha sha32 (by omega) _ _ _ _ _ _ _ c (dl32 (lf_digs a)) (dl32 h.2.2.1) h1 e)) (orE_good (good_of (fun c e => freshF_is sha _ _ _ _ _ _ _ c e) (fun c e => freshF_sm sha sha32 (by omega) _ _ _ _ _ _ _ c (dl32 (lf_digs b)) (dl32 h.2.2.1) h1 e)) (good_of (fun c e => partsF_is sha _ _ _ _ _ c e) (fun c e => partsF_sm sha sha32 (by omega) _ _ _ _ _ c (fun b hb' => by have := ha b hb'; omega) (fun b hb' => by have := hb b hb'; omega) e)))
  · rw [cc_no h]; exact Good.none_
/-- P8.6. -/
theorem cc_finds {a b : List (List UInt8)} {ps : List ByteArray} (h : okC a b ps) (hne : a ≠ b.take a.length) : (cc a b ps).isSome := by
  rw [cc_yes h]
  obtain ⟨h0, hle, hd, hac⟩ := h
  have h1 : 1 ≤ a.length := by omega
  have hro := (accept_pos nd ed h0).1 hac
  have e := ro_dl h1 hle hro
  rw [dl_rt, dl_rt, lfs_dl, lfs_dl] at e
  have key := cons_main sha sha32 b.length a b a.length b.length true _ (ps.map dl) (Nat.le_refl _) rfl rfl h1 hle (by
    have := dlt32 (rt_size _ _ (Nat.le_refl _) (lf_digs a))
    rwa [dl_rt, lfs_dl] at this) (dl32 hd) e hne
  have eo : ol (a.map lf) a.length b.length true (rt (a.map lf)) ps = oldF sha (b.length + 1) (a.map (leafN sha)) a.length b.length true (root (nodeN sha) (noneE sha) (a.map (leafN sha))) (ps.map dl) := by unfold ol; rw [lfs_dl, dl_rt, lfs_dl]
  have ef : fr (b.map lf) a.length b.length true (rt (a.map lf)) ps = freshF sha (b.length + 1) (b.map (leafN sha)) a.length b.length true (root (nodeN sha) (noneE sha) (a.map (leafN sha))) (ps.map dl) := by unfold fr; rw [lfs_dl, dl_rt, lfs_dl]
  rw [eo, ef]
  rcases key with k | k | k
  · exact orE_left _ k
  · exact orE_right _ (orE_left _ k)
  · exact orE_right _ (orE_right _ k)
theorem cc_honest {b : List (List UInt8)} {m : Nat} (hm : m ≤ b.length) : cc (b.take m) b (pv (b.map lf) m) = none := by
  by_cases h : okC (b.take m) b (pv (b.map lf) m)
  · rw [cc_yes h]
    have hl : (b.take m).length = m := by rw [List.length_take]; omega
    have h1 : 1 ≤ m := by have := h.1; omega
    have hbl : (b.map (leafN sha)).length = b.length := List.length_map _
    have hpv : (pv (b.map lf) m).map dl = ConsW.part (nodeN sha) (noneE sha) (b.map (leafN sha)) m true := by
      unfold pv ConsW.prove
      rw [if_neg (by omega), part_map nd ed (nodeN sha) (noneE sha) dl dl_nd dl_ed (b.map lf).length (b.map lf) m true (Nat.le_refl _) h1 (by rw [List.length_map]; exact hm), lfs_dl]
    have eo : ol ((b.take m).map lf) (b.take m).length b.length true (rt ((b.take m).map lf)) (pv (b.map lf) m) = none := by
      unfold ol
      rw [hpv, hl, lfs_dl, List.map_take, ← hbl]
      exact old_honest sha _ _ _ _ _ (Nat.le_refl _) h1 (by omega)
    have ef : fr (b.map lf) (b.take m).length b.length true (rt ((b.take m).map lf)) (pv (b.map lf) m) = none := by
      unfold fr
      rw [hpv, hl, lfs_dl, dl_rt, lfs_dl, List.map_take, ← hbl]
      exact fresh_honest sha _ _ _ _ _ (Nat.le_refl _) h1 (by omega) (fun _ => rfl)
    rw [eo, ef, hl]
    exact parts_honest sha _ _ _ _ h1 hm (Nat.le_refl _)
  · exact cc_no h
end Go.Proofs.YtihkfomldbjpoaaDoor.ClW
