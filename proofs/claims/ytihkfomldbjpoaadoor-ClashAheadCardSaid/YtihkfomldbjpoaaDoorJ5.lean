/- Texts of one proof, joined. -/
import Derived.Test.YtihkfomldbjpoaaDoorJ4
/- clash: Posts. -/
namespace Go.Proofs.YtihkfomldbjpoaaDoor.ClW
open Go.RowKit TreeW ConsW TrW ClashW
open ShaW Sha
set_option maxRecDepth 1000000 in
set_option maxHeartbeats 4000000 in
theorem Posts_any (A : Option Addr) (n c : Nat) (xs : List UInt8) (B : Option Addr) (l d : Nat) (ys : List UInt8) (w : World) (hT : Tab w) (hn : xs.length = n) (hA : Sl w A (bcells xs)) (hl : ys.length = l) (hB : Sl w B (bcells ys)) (hn40 : n ≤ 100000000000) (hl40 : l ≤ 100000000000) :
    Calls Tryd.prog 16 #[.slice A n c, .slice B l d] w fun e w' => ∃ A' n' c' B' m' d' q, e = .returned (.tuple #[.agg #[.slice A' n' c', .slice B' m' d'], .bool q]) ∧ TC w.heap.size w' (btw sha (2 :: xs) (2 :: ys)) A' n' c' B' m' d' q ∧ Below w.heap.size w w' := by
  have h0 : At (w.alloc (.cells #[.slice none 0 0, .slice none 0 0] 29)) w.heap.size 29 [.slice none 0 0, .slice none 0 0] := At.new_ w _ 29 _ rfl
  have b0 : Below w.heap.size w (w.alloc (.cells #[.slice none 0 0, .slice none 0 0] 29)) := (Below.refl _ _).alloc (Nat.le_refl _) _
  have HN := Lib.hid hn
  have HL := Lib.hid hl
  have HT := Lib.hid hT
  clear hn hl hT
  go_enter Tryd.func16, Tryd.ntmps16
  go_wp2_with fail
  refine (SealW.postsBytes_new A n c xs _ HN.out (hA.below b0) (by omega)).mono ?_
  rintro e w1 ⟨A1, c1, rfl, s1, k1, m1, n1, hb1⟩
  have b1 := b0.trans (hb1.mono b0.size)
  have h1 := h0.below hb1 h0.lt
  clear h0 b0 hb1
  go_wp2_with fail
  refine (SealW.postsBytes_new B l d ys _ HL.out (hB.below b1) (by omega)).mono ?_
  rintro e w2 ⟨A2, c2, rfl, s2, k2, m2, n2, hb2⟩
  have b2 := b1.trans (hb2.mono b1.size)
  have h2 := h1.below hb2 h1.lt
  have s1 := s1.below hb2
  clear h1 b1 hb2
  go_wp2_with fail
  refine (fv_of (pair_any (fun _ => False) w.heap.size A1 (n + 1) c1 (2 :: xs) A2 (l + 1) c2 (2 :: ys) w _ HT.out rfl b2 (fun _ h => h.elim) (by rw [List.length_cons, HN.out]) s1 (by rw [List.length_cons, HL.out]) s2 (by omega) (by omega) k1 m1 k2 m2 (fun _ _ _ _ h => h.elim) (fun _ _ _ _ h => h.elim))).mono ?_
  rintro e w3 ⟨N3, p3, q3, rfl, f3, hb3⟩
  have b3 := b2.trans (hb3.mono b2.size)
  have h3 := h2.below hb3 h2.lt
  clear h2 b2 hb3 s1 s2
  have b4 := b3.alloc b3.size (.cells #[(.func (.func N3) #[] #[.pointer (some ⟨p3, 0, none⟩), .pointer (some ⟨q3, 0, none⟩)])] 70)
  have h4 := h3.alloc (.cells #[(.func (.func N3) #[] #[.pointer (some ⟨p3, 0, none⟩), .pointer (some ⟨q3, 0, none⟩)])] 70)
  have f4 := f3.below (Below.alloc (Below.refl _ _) (Nat.le_refl _) (.cells #[(.func (.func N3) #[] #[.pointer (some ⟨p3, 0, none⟩), .pointer (some ⟨q3, 0, none⟩)])] 70))
  go_wp2_with fail
  refine (first_any (fun _ => False) (some ⟨w3.heap.size, 0, none⟩) 1 1 [(.func (.func N3) #[] #[.pointer (some ⟨p3, 0, none⟩), .pointer (some ⟨q3, 0, none⟩)])] [_] _ rfl (Sl.of_at_all (At.new_ w3 _ 70 [(.func (.func N3) #[] #[.pointer (some ⟨p3, 0, none⟩), .pointer (some ⟨q3, 0, none⟩)])] rfl)) (Fds.sole f4) (by omega)).mono ?_
  rintro e w5 ⟨A5, n5, c5, B5, m5, d5, z5, rfl, t5, hb5⟩
  have b5 := b4.trans (hb5.mono b4.size)
  have h5 := h4.below hb5 h4.lt
  have hlt5 := h4.lt
  rw [fo_one] at t5
  clear h3 b3 h4 b4 hb5 f3 f4
  go_wp2_with (refine wpList_storeB rfl rfl 29 (.tmp 4) (.tmp 13) rfl SealW.clashTy w.heap.size rfl [.slice A5 n5 c5, .slice B5 m5 d5] rfl 29 _ h5 rfl rfl slices_one ?_; intro x6 k6 o6)
  have b6 := o6.below _ _ b5 (Nat.le_refl _)
  exact bodyPost_ret (v := .tuple #[.agg #[.slice A5 n5 c5, .slice B5 m5 d5], .bool z5]) (results_cellA2 rfl SealW.clashTy _ _ w.heap.size 29 [.slice A5 n5 c5, .slice B5 m5 d5] rfl k6 rfl _ rfl) rfl
    ⟨A5, n5, c5, B5, m5, d5, z5, rfl, (t5.only o6 hlt5).base (Nat.le_of_lt hlt5), b6⟩
end Go.Proofs.YtihkfomldbjpoaaDoor.ClW

/- clash: Head. -/
namespace Go.Proofs.YtihkfomldbjpoaaDoor.ClW
open Go.RowKit TreeW ConsW TrW ClashW
open ShaW Sha
set_option maxRecDepth 1000000 in
set_option maxHeartbeats 4000000 in
theorem Head_any (A : Option Addr) (n c : Nat) (xs : List UInt8) (B : Option Addr) (l d : Nat) (ys : List UInt8) (w : World) (hT : Tab w) (hn : xs.length = n) (hA : Sl w A (bcells xs)) (hl : ys.length = l) (hB : Sl w B (bcells ys)) (hn40 : n ≤ 100000000000) (hl40 : l ≤ 100000000000) :
    Calls Tryd.prog 19 #[.slice A n c, .slice B l d] w fun e w' => ∃ A' n' c' B' m' d' q, e = .returned (.tuple #[.agg #[.slice A' n' c', .slice B' m' d'], .bool q]) ∧ TC w.heap.size w' (btw sha (3 :: xs) (3 :: ys)) A' n' c' B' m' d' q ∧ Below w.heap.size w w' := by
  have h0 : At (w.alloc (.cells #[.slice none 0 0, .slice none 0 0] 29)) w.heap.size 29 [.slice none 0 0, .slice none 0 0] := At.new_ w _ 29 _ rfl
  have b0 : Below w.heap.size w (w.alloc (.cells #[.slice none 0 0, .slice none 0 0] 29)) := (Below.refl _ _).alloc (Nat.le_refl _) _
  have HN := Lib.hid hn
  have HL := Lib.hid hl
  have HT := Lib.hid hT
  clear hn hl hT
  go_enter Tryd.func19, Tryd.ntmps19
  go_wp2_with fail
  refine (SealW.headBytes_new A n c xs _ HN.out (hA.below b0) (by omega)).mono ?_
  rintro e w1 ⟨A1, c1, rfl, s1, k1, m1, n1, hb1⟩
  have b1 := b0.trans (hb1.mono b0.size)
  have h1 := h0.below hb1 h0.lt
  clear h0 b0 hb1
  go_wp2_with fail
  refine (SealW.headBytes_new B l d ys _ HL.out (hB.below b1) (by omega)).mono ?_
  rintro e w2 ⟨A2, c2, rfl, s2, k2, m2, n2, hb2⟩
  have b2 := b1.trans (hb2.mono b1.size)
  have h2 := h1.below hb2 h1.lt
  have s1 := s1.below hb2
  clear h1 b1 hb2
  go_wp2_with fail
  refine (fv_of (pair_any (fun _ => False) w.heap.size A1 (n + 1) c1 (3 :: xs) A2 (l + 1) c2 (3 :: ys) w _ HT.out rfl b2 (fun _ h => h.elim) (by rw [List.length_cons, HN.out]) s1 (by rw [List.length_cons, HL.out]) s2 (by omega) (by omega) k1 m1 k2 m2 (fun _ _ _ _ h => h.elim) (fun _ _ _ _ h => h.elim))).mono ?_
  rintro e w3 ⟨N3, p3, q3, rfl, f3, hb3⟩
  have b3 := b2.trans (hb3.mono b2.size)
  have h3 := h2.below hb3 h2.lt
  clear h2 b2 hb3 s1 s2
  have b4 := b3.alloc b3.size (.cells #[(.func (.func N3) #[] #[.pointer (some ⟨p3, 0, none⟩), .pointer (some ⟨q3, 0, none⟩)])] 70)
  have h4 := h3.alloc (.cells #[(.func (.func N3) #[] #[.pointer (some ⟨p3, 0, none⟩), .pointer (some ⟨q3, 0, none⟩)])] 70)
  have f4 := f3.below (Below.alloc (Below.refl _ _) (Nat.le_refl _) (.cells #[(.func (.func N3) #[] #[.pointer (some ⟨p3, 0, none⟩), .pointer (some ⟨q3, 0, none⟩)])] 70))
  go_wp2_with fail
  refine (first_any (fun _ => False) (some ⟨w3.heap.size, 0, none⟩) 1 1 [(.func (.func N3) #[] #[.pointer (some ⟨p3, 0, none⟩), .pointer (some ⟨q3, 0, none⟩)])] [_] _ rfl (Sl.of_at_all (At.new_ w3 _ 70 [(.func (.func N3) #[] #[.pointer (some ⟨p3, 0, none⟩), .pointer (some ⟨q3, 0, none⟩)])] rfl)) (Fds.sole f4) (by omega)).mono ?_
  rintro e w5 ⟨A5, n5, c5, B5, m5, d5, z5, rfl, t5, hb5⟩
  have b5 := b4.trans (hb5.mono b4.size)
  have h5 := h4.below hb5 h4.lt
  have hlt5 := h4.lt
  rw [fo_one] at t5
  clear h3 b3 h4 b4 hb5 f3 f4
  go_wp2_with (refine wpList_storeB rfl rfl 29 (.tmp 4) (.tmp 13) rfl SealW.clashTy w.heap.size rfl [.slice A5 n5 c5, .slice B5 m5 d5] rfl 29 _ h5 rfl rfl slices_one ?_; intro x6 k6 o6)
  have b6 := o6.below _ _ b5 (Nat.le_refl _)
  exact bodyPost_ret (v := .tuple #[.agg #[.slice A5 n5 c5, .slice B5 m5 d5], .bool z5]) (results_cellA2 rfl SealW.clashTy _ _ w.heap.size 29 [.slice A5 n5 c5, .slice B5 m5 d5] rfl k6 rfl _ rfl) rfl
    ⟨A5, n5, c5, B5, m5, d5, z5, rfl, (t5.only o6 hlt5).base (Nat.le_of_lt hlt5), b6⟩
end Go.Proofs.YtihkfomldbjpoaaDoor.ClW

/- slices.Insert of finders: its parts. -/
namespace Go.Proofs.YtihkfomldbjpoaaDoor.ClW
open Go.RowKit Go.Lib TreeW ConsW TrW ClashW
open ShaW Sha
theorem run_cp2 {P : Program} (w : World) (dT sT ty elem : TypeId) (hu : P.underlying dT = some (.slice elem)) (hs : (P.info? elem).map (·.size) = some 1) (g o dLen dCap : Nat) (t : TypeId) (cur : List Value) (hg : At w g t cur)
    (A : Option Addr) (n c : Nat) (cs : List Value) (hn : cs.length = n) (hsl : Sl w A cs) (hfit : o + min n dLen ≤ cur.length) (h1 : ∀ v ∈ cs.take (min n dLen), v.oneCell' = true) :
    (Builtin.copy_ #[dT, sT] ty #[.slice (some ⟨g, o, none⟩) dLen dCap, .slice A n c]).run P w = .ok (.int .i64 (min n dLen : Nat)) (w.setRow g (spl cur o (cs.take (min n dLen))).toArray) := by
  subst hn
  have hlen : (cs.take (min cs.length dLen)).length = min cs.length dLen := by simp
  rcases A with _ | ad
  · have hm : cs = [] := by
      rcases Classical.em (cs = []) with h | h
      · exact h
      · obtain ⟨b, o, e, _⟩ := hsl h; cases e
    subst hm
    have e1 : w.setRow g (spl cur o ([].take (min ([] : List Value).length dLen))).toArray = w := by
      have := setRow_self w g cur.toArray t (0, 0) hg
      simpa [spl] using this
    rw [e1]
    cases hq : P.info? elem with
    | none => simp [hq] at hs
    | some i => simp [Builtin.copy_, run_underlying hu, Builtin.lenOf, Builtin.firstCells, sizeOf, typeInfo, hq, storeCells, goInt]
  · have := run_copy_row (P := P) w dT sT ty elem g o dLen dCap ad cs.length c cur.toArray t (cs.take (min cs.length dLen)) hu hs hg (by rw [hlen])
      (by
        intro j u hu
        obtain ⟨b, o, e, hc⟩ := hsl (by rintro rfl; simp at hu)
        cases e
        rw [add_lit]
        rw [List.getElem?_take] at hu
        split at hu
        · exact hc j u hu
        · cases hu) (by rw [hlen]; simpa using hfit) h1
    rw [this, hlen]
    simp [goInt, spl, hlen]
theorem oper_cp {P : Program} {op : Oper} {a : Act} {w : World} {K : Act → World → Prop} {Q : Exit → Act → World → Prop} (dst : Option Tmp) (hd0 : op.dst = dst) (d s : Operand) (dT sT elem : TypeId)
    (ho : op.op = .call { callee := .builtin .copy, args := #[d, s], argTypes := #[dT, sT] }) (hu : P.underlying dT = some (.slice elem)) (hs : (P.info? elem).map (·.size) = some 1)
    (g o dLen dCap : Nat) (hd : a.eval d = .slice (some ⟨g, o, none⟩) dLen dCap) (t : TypeId) (cur : List Value) (hg : At w g t cur)
    (A : Option Addr) (n c : Nat) (hx : a.eval s = .slice A n c) (cs : List Value) (hn : cs.length = n) (hsl : Sl w A cs) (hfit : o + min n dLen ≤ cur.length) (h1 : ∀ v ∈ cs.take (min n dLen), v.oneCell' = true)
    (h : K (a.put dst (.int .i64 (min n dLen : Nat))) (w.setRow g (spl cur o (cs.take (min n dLen))).toArray)) : Oper.wp P op a w K Q := by
  subst hd0
  unfold Oper.wp execOp
  simp only [ho, resolve, invoke, builtin, Sem.run_bind, Sem.run_pure, Result.andThen_ok, List.map_toArray, List.map_cons, List.map_nil, hd, hx, run_cp2 w dT sT op.type elem hu hs g o dLen dCap t cur hg A n c cs hn hsl hfit h1]
  exact h
theorem wpList_cpB {P : Program} {ops : Array Oper} {rest : List Oper} {op : Oper} {a : Act} {w : World} {Q : Exit → Act → World → Prop} (hgd : op.guard = none) (d s : Operand) (dT sT elem : TypeId)
    (ho : op.op = .call { callee := .builtin .copy, args := #[d, s], argTypes := #[dT, sT] }) (hu : P.underlying dT = some (.slice elem)) (hs : (P.info? elem).map (·.size) = some 1)
    (g o dLen dCap : Nat) (hd : a.eval d = .slice (some ⟨g, o, none⟩) dLen dCap) (t : TypeId) (cur : List Value) (hg : At w g t cur)
    (A : Option Addr) (n c : Nat) (hx : a.eval s = .slice A n c) (cs : List Value) (hn : cs.length = n) (hsl : Sl w A cs) (hfit : o + min n dLen ≤ cur.length) (h1 : ∀ v ∈ cs.take (min n dLen), v.oneCell' = true)
    (h : ∀ w', At w' g t (spl cur o (cs.take (min n dLen))) → Only g w w' → wpList P ops Q rest (a.put op.dst (.int .i64 (min n dLen : Nat))) w') : wpList P ops Q (op :: rest) a w :=
  wpList_plain hgd fun K hK => by
    unfold Oper.wp execOp
    simp only [ho, resolve, invoke, builtin, Sem.run_bind, Sem.run_pure, Result.andThen_ok, List.map_toArray, List.map_cons, List.map_nil, hd, hx, run_cp2 w dT sT op.type elem hu hs g o dLen dCap t cur hg A n c cs hn hsl hfit h1]
    exact hK _ _ (h _ hg.setRow (Only.setRow g _))
theorem under59 : Tryd.prog.underlying 59 = some (.slice 70) := by kernel_rfl
theorem info70 : (Tryd.prog.info? 70).map (·.size) = some 1 := by kernel_rfl
theorem size70 (w : World) : (Go.sizeOf 70).run Tryd.prog w = .ok 1 w := by
  obtain ⟨i, hi, _, hs, _⟩ := findersTy.info
  simp [sizeOf, typeInfo, hi, hs]
/-- 's[k:]' of a row that is there. -/
theorem cut_at (g o n c k : Nat) (hk : k ≤ n) (hc : k < c) (w : World) : (Instr.slice 59 (.slice (some ⟨g, o, none⟩) n c) (some (.int .i64 (k : Int))) none none).run Tryd.prog w = .ok (.slice (some ⟨g, o + k, none⟩) (n - k) (c - k)) w := by
  rw [run_from findersTy w _ n c k .i64 hk, if_neg (by omega)]
  simp [add_lit]
theorem overlaps_no (w : World) (a g : Nat) (o : Nat) (x : Value) (cur : List Value) (n c d m : Nat) (ha : At w a 70 [x]) (hg : At w g 70 cur) (hne : a ≠ g) (hc : cur.length ≠ 0) :
    (callFunc 96 #[.slice (some ⟨a, 0, none⟩) n c, .slice (some ⟨g, o, none⟩) d m]).run Tryd.prog w = .ok (.value (.bool false)) w := by
  have e : (Extern.SlicesOverlaps.overlaps #[59, 59] #[4] #[.slice (some ⟨a, 0, none⟩) n c, .slice (some ⟨g, o, none⟩) d m]).run Tryd.prog w = .ok (.bool false) w := by
    refine Lib.run_overlaps_apart w 59 4 70 under59 1 size70 ⟨a, 0, none⟩ ⟨g, o, none⟩ n c d m hne 70 70 1 cur.length ?_ ?_ hc (ha.froz 0) (ha.froz 1)
    · unfold At at ha; simp [World.shape?, ha]
    · unfold At at hg; simp [World.shape?, hg]
  rw [run_callFunc_extern (f := 96) (e := Extern.SlicesOverlaps.overlaps #[59, 59] #[4]) Tryd.func96 (by kernel_rfl) (by kernel_rfl) (by kernel_rfl) (by kernel_rfl), e]
  rfl
end Go.Proofs.YtihkfomldbjpoaaDoor.ClW

/- slices.Insert of finders, at a row of none. -/
namespace Go.Proofs.YtihkfomldbjpoaaDoor.ClW
open Go.RowKit TreeW ConsW TrW ClashW
open ShaW Sha
/-- A finder put ahead of a row of the call's own. -/
def Ins (base n : Nat) (w : World) (v x : Value) (fs : List Value) (e : Ending) (w' : World) : Prop :=
  ∃ v', e = .returned v' ∧ w'.ownsRow base 70 1 v' (n + 1) (x :: fs) ∧ w.grownBy w' v.ownBlock ∧ (∀ k, v'.ownBlock = some k → v.ownBlock = some k ∨ w.heap.size ≤ k)
set_option maxRecDepth 1000000 in
set_option maxHeartbeats 4000000 in
theorem insert_nil (base : Nat) (v : Value) (a : Nat) (x : Value) (w : World) (hown : w.ownsRow base 70 1 v 0 []) (hb : base ≤ w.heap.size) (ha : At w a 70 [x]) (hx : x.oneCell' = true) :
    Calls Tryd.prog 80 #[v, .int .i64 0, .slice (some ⟨a, 0, none⟩) 1 1] w (Ins base 0 w v x []) := by
  obtain ⟨A, c, rfl, _, _, _, hm, _⟩ := own_slice hown
  have hsl : Sl w (some ⟨a, 0, none⟩) [x] := Sl.of_at_all ha
  have en := fun w' => run_from (P := Tryd.prog) findersTy w' A 0 c 0 .i64 (Nat.le_refl _)
  rw [show ((0 : Nat) : Int) = 0 from rfl] at en
  simp only [Nat.sub_self, Nat.sub_zero] at en
  go_enter Tryd.func80, Tryd.ntmps80
  go_wp2_with (refine wpList_app rfl (.tmp 23) (.tmp 24) 59 rfl findersTy base (.slice A 0 c) 0 [] rfl hown (some ⟨a, 0, none⟩) 1 1 [x] rfl rfl hsl (by intro u hu; simp at hu; subst hu; exact hx) (by omega) hb ?_; intro v1 w1 hown1 hgr1 hbl1)
  go_ret
  exact ⟨v1, rfl, hown1, hgr1, fun k hk => hbl1.elim (fun e => .inl (e ▸ hk)) fun e => .inr (by rw [e] at hk; exact Nat.le_of_eq (Option.some.inj hk))⟩
end Go.Proofs.YtihkfomldbjpoaaDoor.ClW

/- slices.Insert of finders, where there is room. -/
namespace Go.Proofs.YtihkfomldbjpoaaDoor.ClW
open Go.RowKit TreeW ConsW TrW ClashW
open ShaW Sha
theorem spl_shift {cur fs : List Value} {n : Nat} (hf : cur.take n = fs) (_hfl : fs.length = n) (hc : n + 1 ≤ cur.length) (x : Value) : (spl (spl cur 1 ((cur.take (n + 1)).take (min (n + 1) n))) 0 ([x].take (min 1 (n + 1)))).take (n + 1) = x :: fs := by
  have e1 : min (n + 1) n = n := by omega
  have e2 : min 1 (n + 1) = 1 := by omega
  have e3 : (cur.take (n + 1)).take n = fs := by rw [List.take_take, show min n (n + 1) = n by omega]; exact hf
  rw [e1, e2, e3]
  obtain ⟨c0, rest, rfl⟩ : ∃ c0 rest, cur = c0 :: rest := by
    cases cur with
    | nil => simp at hc
    | cons c0 rest => exact ⟨c0, rest, rfl⟩
  simp [spl, _hfl]
set_option maxRecDepth 1000000 in
set_option maxHeartbeats 4000000 in
theorem insert_shift (base g n cap : Nat) (a : Nat) (x : Value) (cur fs : List Value) (w : World) (hat : At w g 70 cur) (hbg : base ≤ g) (hcl : cur.length = cap) (hcm : cap ≤ maxLen) (hf : cur.take n = fs) (h1n : 1 ≤ n) (hroom : n + 1 ≤ cap) (ha : At w a 70 [x]) (hne : a ≠ g) (hx : x.oneCell' = true) (hfo : ∀ u ∈ fs, u.oneCell' = true) :
    Calls Tryd.prog 80 #[.slice (some ⟨g, 0, none⟩) n cap, .int .i64 0, .slice (some ⟨a, 0, none⟩) 1 1] w (Ins base n w (.slice (some ⟨g, 0, none⟩) n cap) x fs) := by
  have hcm2 := len_le hcm
  have HCM := Lib.hid hcm
  have HCL := Lib.hid hcl
  have hfl : fs.length = n := by rw [← hf, List.length_take]; omega
  have HSP := Lib.hid (spl_shift hf hfl (by omega) x)
  have hone : ∀ v ∈ (cur.take (n + 1)).take (min (n + 1) n), v.oneCell' = true := by
    rw [List.take_take, show min (min (n + 1) n) (n + 1) = n by omega, hf]
    exact hfo
  have en := cut_at g 0 n cap 0 (by omega) (by omega)
  have en2 := cut_at g 0 (n + 1) cap 0 (by omega) (by omega)
  have en3 := cut_at g 0 (n + 1) cap 1 (by omega) (by omega)
  have to1 := fun w' => run_to (P := Tryd.prog) findersTy w' (some ⟨g, 0, none⟩) n cap (n + 1) .i64 (by omega)
  rw [show ((0 : Nat) : Int) = 0 from rfl] at en en2
  rw [show ((1 : Nat) : Int) = 1 from rfl] at en3
  rw [show ((n + 1 : Nat) : Int) = (n : Int) + 1 by omega] at to1
  simp only [Nat.add_zero, Nat.zero_add, Nat.sub_zero, Nat.add_sub_cancel] at en en2 en3
  have HC0 := Lib.hid en2
  have HC1 := Lib.hid en3
  have hov := overlaps_no w a g 1 x cur 1 1 n (cap - 1) ha hat hne (by omega)
  have hz1 : ¬ ((0 : Int) = (n : Int)) := by omega
  have hz2 : ((0 : Int) == (n : Int)) = false := by simpa using hz1
  have hz3 : ¬ ((n : Int) + 1 > (cap : Int)) := by omega
  have hz4 : IntKind.i64.wrap ((n : Int) + 1) = (n : Int) + 1 := by
    rw [show (n : Int) + 1 = ((n + 1 : Nat) : Int) by omega]
    exact IntWalk.i64_in _ (by omega)
  have hw1 : IntKind.i64.wrap 1 = 1 := IntWalk.i64_in _ (by omega)
  clear hcl hf hfo hcm
  go_enter Tryd.func80, Tryd.ntmps80
  go_wp2_with (simp only [hov])
  refine regB_begin (base) (by kernel_rfl) ?_
  change wpAnyH _ _ _ _ _ 9 #[false, false, false, false, false, false, false, false, false] _ _
  refine regB_take (i := 0) (d := some 69) (v := (.slice (some ⟨g, 0, none⟩) (n + 1) cap)) rfl rfl (by kernel_rfl) (by kernel_rfl) (by kernel_rfl) (fun _ _ _ h => h) (by rfl) (by intro w' hSw; go_simp) ?_
  try simp only [Act.put, List.setIfInBounds_toArray, List.set_cons_zero, List.set_cons_succ]
  refine regB_take (i := 1) (d := some 70) (v := (.int .i64 0)) rfl rfl (by kernel_rfl) (by kernel_rfl) (by kernel_rfl) (fun _ _ _ h => h) (by rfl) (by intro w' hSw; go_simp) ?_
  try simp only [Act.put, List.setIfInBounds_toArray, List.set_cons_zero, List.set_cons_succ]
  refine regB_take (i := 2) (d := some 71) (v := (.int .i64 1)) rfl rfl (by kernel_rfl) (by kernel_rfl) (by kernel_rfl) (fun _ _ _ h => h) (by rfl) (by intro w' hSw; go_simp) ?_
  try simp only [Act.put, List.setIfInBounds_toArray, List.set_cons_zero, List.set_cons_succ]
  refine regB_take (i := 3) (d := some 72) (v := (.int .i64 1)) rfl rfl (by kernel_rfl) (by kernel_rfl) (by kernel_rfl) (fun _ _ _ h => h) (by rfl) (by intro w' hSw; go_simp) ?_
  try simp only [Act.put, List.setIfInBounds_toArray, List.set_cons_zero, List.set_cons_succ]
  refine regB_take (i := 4) (d := some 73) (v := (.slice (some ⟨g, 1, none⟩) n (cap - 1))) rfl rfl (by kernel_rfl) (by kernel_rfl) (by kernel_rfl) (fun _ _ _ h => h) (by rfl) (by intro w' hSw; have h9 := HC1.out w'; go_simp) ?_
  try simp only [Act.put, List.setIfInBounds_toArray, List.set_cons_zero, List.set_cons_succ]
  refine regB_take (i := 5) (d := some 74) (v := (.slice (some ⟨g, 0, none⟩) (n + 1) cap)) rfl rfl (by kernel_rfl) (by kernel_rfl) (by kernel_rfl) (fun _ _ _ h => h) (by rfl) (by intro w' hSw; go_simp) ?_
  try simp only [Act.put, List.setIfInBounds_toArray, List.set_cons_zero, List.set_cons_succ]
  refine regB_take (i := 6) (d := some 75) (v := (.int .i64 0)) rfl rfl (by kernel_rfl) (by kernel_rfl) (by kernel_rfl) (fun _ _ _ h => h) (by rfl) (by intro w' hSw; go_simp) ?_
  try simp only [Act.put, List.setIfInBounds_toArray, List.set_cons_zero, List.set_cons_succ]
  refine regB_take (i := 7) (d := some 76) (v := (.slice (some ⟨g, 0, none⟩) (n + 1) cap)) rfl rfl (by kernel_rfl) (by kernel_rfl) (by kernel_rfl) (fun _ _ _ h => h) (by rfl) (by intro w' hSw; have h9 := HC0.out w'; go_simp) ?_
  try simp only [Act.put, List.setIfInBounds_toArray, List.set_cons_zero, List.set_cons_succ]
  refine regB_call (i := 8) rfl (by kernel_rfl) (by rfl) fun K hK => ?_
  have hat : At w.drew g 70 cur := hat.drew
  have ha : At w.drew a 70 [x] := ha.drew
  refine oper_cp (some 77) rfl (.tmp 73) (.tmp 76) 59 59 70 rfl under59 info70 g 1 n (cap - 1) rfl 70 cur hat (some ⟨g, 0, none⟩) (n + 1) cap rfl (cur.take (n + 1)) (by rw [List.length_take, HCL.out]; omega) (Sl.of_at_all hat |>.take (n + 1)) (by rw [HCL.out]; omega) hone ?_
  have h1 := hat.setRow (cs' := spl cur 1 ((cur.take (n + 1)).take (min (n + 1) n)))
  have ha1 := ha.setRow_far (cs' := (spl cur 1 ((cur.take (n + 1)).take (min (n + 1) n))).toArray) hne
  have b1 : Below base w (w.drew.setRow g (spl cur 1 ((cur.take (n + 1)).take (min (n + 1) n))).toArray) := below_setRow ((Below.refl _ _).drew) hbg _
  have q1 := setRow_other w.drew g
  obtain ⟨W1, hW1⟩ : ∃ W1, W1 = w.drew.setRow g (spl cur 1 ((cur.take (n + 1)).take (min (n + 1) n))).toArray := ⟨_, rfl⟩
  have o1 : Only g w.drew W1 := by rw [hW1]; exact Only.setRow g _
  rw [← hW1] at h1 ha1 b1 ⊢
  clear hW1 q1
  refine hK.out _ _ (o1.below _ _ (Below.refl _ _) hbg) ?_
  clear hK K
  try simp only [List.setIfInBounds_toArray, List.set_cons_zero, List.set_cons_succ]
  refine wpAnyH_done (by kernel_rfl) ?_ _
  have hlen : (spl cur 1 ((cur.take (n + 1)).take (min (n + 1) n))).length = cap := by
    rw [spl_len _ _ _ (by rw [List.length_take, List.length_take, HCL.out]; omega), HCL.out]
  have HLEN := Lib.hid hlen
  clear hlen
  go_wp2_with (refine wpList_cpB rfl (.tmp 80) (.tmp 81) 59 59 70 rfl under59 info70 g 0 (n + 1) cap rfl 70 _ h1 (some ⟨a, 0, none⟩) 1 1 rfl [x] rfl (Sl.of_at_all ha1) (by rw [HLEN.out]; omega) (by intro u hu; have hu := List.mem_of_mem_take hu; simp at hu; subst hu; exact hx) ?_; intro W2 h2 o2)
  have hlen2 : (spl (spl cur 1 ((cur.take (n + 1)).take (min (n + 1) n))) 0 ([x].take (min 1 (n + 1)))).length = cap := by
    rw [spl_len _ _ _ (by rw [List.length_take, HLEN.out]; simp; omega), HLEN.out]
  have o3 := o1.trans o2
  have b2 := o3.below _ _ (Below.refl g w.drew) (Nat.le_refl _)
  go_ret
  refine ⟨_, rfl, ⟨?_, .inr ⟨g, cap, _, rfl, hbg, h2, hroom, HCM.out, ?_, ?_⟩⟩, ⟨b2.os, b2.tape, b2.output, b2.size, fun k hk hne2 => o3.heap k (fun e => hne2 (by rw [e]; rfl))⟩, fun k hk => .inl hk⟩
  · simp [hfl]
  · simpa using hlen2
  · simpa using HSP.out
end Go.Proofs.YtihkfomldbjpoaaDoor.ClW

/- slices.Insert of finders, where there is no room. -/
namespace Go.Proofs.YtihkfomldbjpoaaDoor.ClW
open Go.RowKit Go.Lib TreeW ConsW TrW ClashW
open ShaW Sha
theorem spl_grow {row fs : List Value} {n : Nat} (hfl : fs.length = n) (hc : n + 1 ≤ row.length) (x : Value) : (spl (spl row 0 ([x].take (min 1 (n + 1)))) 1 (fs.take (min n n))).take (n + 1) = x :: fs := by
  have e2 : min 1 (n + 1) = 1 := by omega
  have e3 : fs.take (min n n) = fs := List.take_of_length_le (by omega)
  rw [e2, e3]
  obtain ⟨c0, rest, rfl⟩ : ∃ c0 rest, row = c0 :: rest := by
    cases row with
    | nil => simp at hc
    | cons c0 rest => exact ⟨c0, rest, rfl⟩
  simp [spl, hfl]
set_option maxRecDepth 1000000 in
set_option maxHeartbeats 4000000 in
theorem insert_grow (base g n : Nat) (a : Nat) (x : Value) (fs : List Value) (w : World) (hat : At w g 70 fs) (_hbg : base ≤ g) (hb : base ≤ w.heap.size) (hfl : fs.length = n) (h1n : 1 ≤ n) (hn40 : n ≤ 4398046511104) (ha : At w a 70 [x]) (hx : x.oneCell' = true) (hfo : ∀ u ∈ fs, u.oneCell' = true) :
    Calls Tryd.prog 80 #[.slice (some ⟨g, 0, none⟩) n n, .int .i64 0, .slice (some ⟨a, 0, none⟩) 1 1] w (Ins base n w (.slice (some ⟨g, 0, none⟩) n n) x fs) := by
  have HFL := Lib.hid hfl
  obtain ⟨i0, hi0, hz0, hs0, hb0⟩ := findersTy.info
  have hGn : n + 1 ≤ grownCap w (n + 1) n 70 := grownCap_ge w _ _ _
  have hcm : grownCap w (n + 1) n 70 ≤ maxLen := grownCap_le_maxLen w (n + 1) n 70 (by unfold maxLen; omega)
  have hold : (Builtin.firstCells i0.size 0 (.slice (some ⟨g, 0, none⟩) 0 n)).run Tryd.prog w.drew = .ok ([] : List Value).toArray w.drew := by
    rw [hs0]
    exact run_firstCells_some w.drew 1 0 ⟨g, 0, none⟩ 0 n [] rfl (fun j v hj => by simp at hj)
  have hrz : ∀ ty, (Builtin.append_ #[59, 3] ty #[.slice (some ⟨g, 0, none⟩) 0 n, .int .i64 ((n : Int) + 1)]).run Tryd.prog w =
      .ok (.slice (some ⟨w.heap.size, 0, none⟩) (n + 1) (grownCap w (n + 1) n 70)) (w.drew.alloc (.cells (([] : List Value).toArray ++ Builtin.zeroCells Value.nilFunc.cells (n + 1) ++ Builtin.zeroCells Value.nilFunc.cells (grownCap w (n + 1) n 70 - (n + 1))) 70)) := fun ty => by
    have h := Lib.run_append_grow_zeros w 59 3 ty 70 i0 _ .i64 .i64 under59 (by kernel_rfl) hi0 hz0 (some ⟨g, 0, none⟩) 0 n [] hold (n + 1) (by omega) (by omega) (by omega) (by omega) (by rw [hb0]; omega) (by rw [hb0]; exact growslice_fits (by omega) (by omega))
    rw [Nat.zero_add] at h
    rw [show (n : Int) + 1 = ((n + 1 : Nat) : Int) by omega]
    exact h
  obtain ⟨G, hG⟩ : ∃ G, G = grownCap w (n + 1) n 70 := ⟨_, rfl⟩
  rw [← hG] at hrz hGn hcm
  obtain ⟨ROW, hROW⟩ : ∃ ROW : List Value, ROW.toArray = ([] : List Value).toArray ++ Builtin.zeroCells Value.nilFunc.cells (n + 1) ++ Builtin.zeroCells Value.nilFunc.cells (G - (n + 1)) := ⟨_, Array.toArray_toList⟩
  rw [← hROW] at hrz
  have hRl : ROW.length = G := by
    have e := congrArg Array.size hROW
    simp [Builtin.zeroCells, Value.cells] at e
    omega
  have h1 : At (w.drew.alloc (.cells ROW.toArray 70)) w.heap.size 70 ROW := At.new_ w.drew _ 70 _ rfl
  have b1 : Below w.heap.size w (w.drew.alloc (.cells ROW.toArray 70)) := ((Below.refl _ _).drew).alloc (Nat.le_refl _) _
  obtain ⟨W1, hW1⟩ : ∃ W1, W1 = w.drew.alloc (.cells ROW.toArray 70) := ⟨_, rfl⟩
  rw [← hW1] at hrz h1 b1
  have hg1 := hat.below b1 hat.lt
  have ha1 := ha.below b1 ha.lt
  have hgH : g < w.heap.size := hat.lt
  have haH : a < w.heap.size := ha.lt
  obtain ⟨H, hH⟩ : ∃ H, H = w.heap.size := ⟨_, rfl⟩
  rw [← hH] at hrz h1 b1 hgH haH hb
  have HBH := Lib.hid hb
  have HH := Lib.hid hH
  have HRL := Lib.hid hRl
  have HCM := Lib.hid hcm
  have hcm2 := len_le hcm
  have HSP := Lib.hid (spl_grow hfl (by rw [hRl]; exact hGn) x)
  have en := cut_at g 0 n n 0 (by omega) (by omega)
  have eh := cut_at H 0 (n + 1) G 0 (by omega) (by omega)
  have en3 := cut_at H 0 (n + 1) G 1 (by omega) (by omega)
  have to0 := fun w' => run_to (P := Tryd.prog) findersTy w' (some ⟨g, 0, none⟩) n n 0 .i64 (by omega)
  rw [show ((0 : Nat) : Int) = 0 from rfl] at en eh to0
  rw [show ((1 : Nat) : Int) = 1 from rfl] at en3
  simp only [Nat.add_zero, Nat.zero_add, Nat.sub_zero, Nat.add_sub_cancel] at en eh en3
  have HC0 := Lib.hid en
  have HC1 := Lib.hid en3
  have hz1 : ¬ ((0 : Int) = (n : Int)) := by omega
  have hz2 : ((0 : Int) == (n : Int)) = false := by simpa using hz1
  have hz4 : IntKind.i64.wrap ((n : Int) + 1) = (n : Int) + 1 := by
    rw [show (n : Int) + 1 = ((n + 1 : Nat) : Int) by omega]
    exact IntWalk.i64_in _ (by omega)
  have hw1 : IntKind.i64.wrap 1 = 1 := IntWalk.i64_in _ (by omega)
  clear hG hROW hW1 hold hi0 hz0 hs0 hb0 hfl hH hRl hcm hat ha hb
  go_enter Tryd.func80, Tryd.ntmps80
  go_wp2_with (first
    | (refine Lib.wpList_append_run _ rfl (.tmp 34) (.tmp 39) 59 3 rfl _ _ rfl rfl _ _ (hrz _) ?_)
    | (refine wpList_cpB rfl (.tmp 43) (.tmp 44) 59 59 70 rfl under59 info70 H 0 (n + 1) G rfl 70 _ h1 (some ⟨a, 0, none⟩) 1 1 rfl [x] rfl (Sl.of_at_all ha1) (by rw [HRL.out]; omega) (by intro u hu; have hu := List.mem_of_mem_take hu; simp at hu; subst hu; exact hx) ?_; intro W2 h2 o2))
  have hg2 := o2.at_ hg1 (Nat.ne_of_lt hgH)
  have hlen : (spl ROW 0 ([x].take (min 1 (n + 1)))).length = G := by
    rw [spl_len _ _ _ (by rw [HRL.out]; simp; omega), HRL.out]
  have HLEN := Lib.hid hlen
  clear hlen
  refine regB_begin (base) (by kernel_rfl) ?_
  change wpAnyH _ _ _ _ _ 9 #[false, false, false, false, false, false, false, false, false] _ _
  refine regB_take (i := 0) (d := some 46) (v := (.slice (some ⟨H, 0, none⟩) (n + 1) G)) rfl rfl (by kernel_rfl) (by kernel_rfl) (by kernel_rfl) (fun _ _ _ h => h) (by rfl) (by intro w' hSw; go_simp) ?_
  try simp only [Act.put, List.setIfInBounds_toArray, List.set_cons_zero, List.set_cons_succ]
  refine regB_take (i := 1) (d := some 47) (v := (.int .i64 0)) rfl rfl (by kernel_rfl) (by kernel_rfl) (by kernel_rfl) (fun _ _ _ h => h) (by rfl) (by intro w' hSw; go_simp) ?_
  try simp only [Act.put, List.setIfInBounds_toArray, List.set_cons_zero, List.set_cons_succ]
  refine regB_take (i := 2) (d := some 48) (v := (.int .i64 1)) rfl rfl (by kernel_rfl) (by kernel_rfl) (by kernel_rfl) (fun _ _ _ h => h) (by rfl) (by intro w' hSw; go_simp) ?_
  try simp only [Act.put, List.setIfInBounds_toArray, List.set_cons_zero, List.set_cons_succ]
  refine regB_take (i := 3) (d := some 49) (v := (.int .i64 1)) rfl rfl (by kernel_rfl) (by kernel_rfl) (by kernel_rfl) (fun _ _ _ h => h) (by rfl) (by intro w' hSw; go_simp) ?_
  try simp only [Act.put, List.setIfInBounds_toArray, List.set_cons_zero, List.set_cons_succ]
  refine regB_take (i := 4) (d := some 50) (v := (.slice (some ⟨H, 1, none⟩) n (G - 1))) rfl rfl (by kernel_rfl) (by kernel_rfl) (by kernel_rfl) (fun _ _ _ h => h) (by rfl) (by intro w' hSw; have h9 := HC1.out w'; go_simp) ?_
  try simp only [Act.put, List.setIfInBounds_toArray, List.set_cons_zero, List.set_cons_succ]
  refine regB_take (i := 5) (d := some 51) (v := (.slice (some ⟨g, 0, none⟩) n n)) rfl rfl (by kernel_rfl) (by kernel_rfl) (by kernel_rfl) (fun _ _ _ h => h) (by rfl) (by intro w' hSw; go_simp) ?_
  try simp only [Act.put, List.setIfInBounds_toArray, List.set_cons_zero, List.set_cons_succ]
  refine regB_take (i := 6) (d := some 52) (v := (.int .i64 0)) rfl rfl (by kernel_rfl) (by kernel_rfl) (by kernel_rfl) (fun _ _ _ h => h) (by rfl) (by intro w' hSw; go_simp) ?_
  try simp only [Act.put, List.setIfInBounds_toArray, List.set_cons_zero, List.set_cons_succ]
  refine regB_take (i := 7) (d := some 53) (v := (.slice (some ⟨g, 0, none⟩) n n)) rfl rfl (by kernel_rfl) (by kernel_rfl) (by kernel_rfl) (fun _ _ _ h => h) (by rfl) (by intro w' hSw; have h9 := HC0.out w'; go_simp) ?_
  try simp only [Act.put, List.setIfInBounds_toArray, List.set_cons_zero, List.set_cons_succ]
  refine regB_call (i := 8) rfl (by kernel_rfl) (by rfl) fun K hK => ?_
  have h2 : At W2.drew H 70 _ := h2.drew
  have hg2 : At W2.drew g 70 fs := hg2.drew
  refine oper_cp (some 54) rfl (.tmp 50) (.tmp 53) 59 59 70 rfl under59 info70 H 1 n (G - 1) rfl 70 _ h2 (some ⟨g, 0, none⟩) n n rfl fs HFL.out (Sl.of_at_all hg2) (by rw [HLEN.out]; omega) (fun u hu => hfo u (List.mem_of_mem_take hu)) ?_
  have h3 := h2.setRow (cs' := spl (spl ROW 0 ([x].take (min 1 (n + 1)))) 1 (fs.take (min n n)))
  obtain ⟨W3, hW3⟩ : ∃ W3, W3 = W2.drew.setRow H (spl (spl ROW 0 ([x].take (min 1 (n + 1)))) 1 (fs.take (min n n))).toArray := ⟨_, rfl⟩
  have o3 : Only H W2.drew W3 := by rw [hW3]; exact Only.setRow H _
  rw [← hW3] at h3 ⊢
  clear hW3
  refine hK.out _ _ (o3.below _ _ (Below.refl _ _) HBH.out) ?_
  clear hK K
  try simp only [List.setIfInBounds_toArray, List.set_cons_zero, List.set_cons_succ]
  refine wpAnyH_done (by kernel_rfl) ?_ _
  go_wp2_with fail
  have hlen2 : (spl (spl ROW 0 ([x].take (min 1 (n + 1)))) 1 (fs.take (min n n))).length = G := by
    rw [spl_len _ _ _ (by rw [HLEN.out, List.length_take, HFL.out]; omega), HLEN.out]
  have b3 : Below H w W3 := o3.below _ _ ((o2.below _ _ b1 (Nat.le_refl _)).drew) (Nat.le_refl _)
  go_ret
  refine ⟨_, rfl, ⟨?_, .inr ⟨H, G, _, rfl, HBH.out, h3, hGn, HCM.out, ?_, ?_⟩⟩, ⟨b3.os, b3.tape, b3.output, b3.size, fun k hk _ => b3.block k (by rw [HH.out]; exact hk)⟩, fun k hk => .inr (by rw [← HH.out]; exact Nat.le_of_eq (Option.some.inj hk))⟩
  · simp [HFL.out]
  · simpa using hlen2
  · simpa using HSP.out
end Go.Proofs.YtihkfomldbjpoaaDoor.ClW

/- slices.Insert of finders. -/
namespace Go.Proofs.YtihkfomldbjpoaaDoor.ClW
open Go.RowKit TreeW ConsW TrW ClashW
open ShaW Sha
theorem insert_any (base n : Nat) (v : Value) (a : Nat) (x : Value) (fs : List Value) (w : World) (hown : w.ownsRow base 70 1 v n fs) (hb : base ≤ w.heap.size) (ha : At w a 70 [x]) (hne : v.ownBlock ≠ some a) (hx : x.oneCell' = true) (hfo : ∀ u ∈ fs, u.oneCell' = true) (hn40 : n ≤ 4398046511104) :
    Calls Tryd.prog 80 #[v, .int .i64 0, .slice (some ⟨a, 0, none⟩) 1 1] w (Ins base n w v x fs) := by
  have hlen : fs.length = n := by simpa using hown.1
  by_cases h0 : n = 0
  · subst h0
    obtain rfl : fs = [] := List.eq_nil_of_length_eq_zero hlen
    exact insert_nil base v a x w hown hb ha hx
  · rcases hown.2 with ⟨_, hz⟩ | ⟨g, cap, cur, rfl, hbg, hh, hnc, hcm, hcs, htake⟩
    · exact absurd hz h0
    · have hat : At w g 70 cur.toList := by unfold At; simpa using hh
      have hcl : cur.toList.length = cap := by simpa using hcs
      have htk : cur.toList.take n = fs := by simpa using htake
      by_cases hroom : n + 1 ≤ cap
      · exact insert_shift base g n cap a x cur.toList fs w hat hbg hcl hcm htk (by omega) hroom ha (fun e => hne (by rw [e]; rfl)) hx hfo
      · obtain rfl : cap = n := by omega
        have e : cur.toList = fs := by rw [← htk]; exact (List.take_of_length_le (by omega)).symm
        rw [e] at hat
        exact insert_grow base g cap a x fs w hat hbg hb hlen (by omega) hn40 ha hx hfo
end Go.Proofs.YtihkfomldbjpoaaDoor.ClW

/- clash: what is computed from a proof: its memory. -/
namespace Go.Proofs.YtihkfomldbjpoaaDoor.ClW
open Go.RowKit TreeW ConsW TrW ClashW
open ShaW Sha
open CoW
theorem oper_storeC {P : Program} {op : Oper} {a : Act} {w : World} {K : Act → World → Prop} {Q : Exit → Act → World → Prop} (hdst : op.dst = none) (ty : TypeId) (x y : Operand) (ho : op.op = .store ty x y)
    (g k : Nat) (hx : a.eval x = .pointer (some ⟨g, k, none⟩)) (v : Value) (hy : a.eval y = v) (hc : v.cells = #[v]) (t : TypeId) (cur : List Value) (hg : At w g t cur) (hi : (P.info? ty).map (·.size) = some 1) (hfit : k + 1 ≤ cur.length) (h1 : v.oneCell' = true)
    (h : ∀ w', At w' g t (cur.set k v) → Only g w w' → K a w') : Oper.wp P op a w K Q := by
  have hst := run_storeCells_at P g k t [v] 0 cur.toArray w hg (by simpa using hfit) (by intro u hu; rw [List.mem_singleton.1 hu]; exact h1)
  cases hq : P.info? ty with
  | none => simp [hq] at hi
  | some i =>
    have hs : i.size = 1 := by simpa [hq] using hi
    have e : cur.take k ++ [v] ++ cur.drop (k + 1) = cur.set k v := by
      rw [List.set_eq_take_append_cons_drop, if_pos (by omega)]
      simp
    simp only [Nat.add_zero, List.length_singleton] at hst
    rw [e] at hst
    unfold Oper.wp execOp
    simp [ho, hx, hy, Instr.storeAt, Instr.sureAddr, storeVar, hc, sizeOf, typeInfo, hq, hs, hst]
    have := h _ hg.setRow (Only.setRow g _)
    simpa [Oper.upon, hdst, Act.put] using this
theorem wpList_storeC {P : Program} {ops : Array Oper} {rest : List Oper} {op : Oper} {a : Act} {w : World} {Q : Exit → Act → World → Prop} (hgd : op.guard = none) (hdst : op.dst = none) (ty : TypeId) (x y : Operand) (ho : op.op = .store ty x y)
    (g k : Nat) (hx : a.eval x = .pointer (some ⟨g, k, none⟩)) (v : Value) (hy : a.eval y = v) (hc : v.cells = #[v]) (t : TypeId) (cur : List Value) (hg : At w g t cur) (hi : (P.info? ty).map (·.size) = some 1) (hfit : k + 1 ≤ cur.length) (h1 : v.oneCell' = true)
    (h : ∀ w', At w' g t (cur.set k v) → Only g w w' → wpList P ops Q rest a w') : wpList P ops Q (op :: rest) a w :=
  wpList_plain hgd fun _ hK => oper_storeC hdst ty x y ho g k hx v hy hc t cur hg hi hfit h1 fun w' h2 h3 => hK _ _ (h w' h2 h3)
theorem own_val {base n : Nat} {w : World} {v : Value} {xs : List Value} (h : w.ownsRow base 70 1 v n xs) : v.oneCell' = true ∧ v.cells = #[v] := by
  obtain ⟨A, c, rfl, _⟩ := own_slice h
  exact ⟨rfl, rfl⟩
theorem own_ne {base n : Nat} {w : World} {v : Value} {xs : List Value} {g : Nat} {t : TypeId} {cs : List Value} (h : w.ownsRow base 70 1 v n xs) (hg : At w g t cs) (ht : t ≠ 70) : ¬ Own v g := fun e => by
  rcases h.2 with ⟨rfl, _⟩ | ⟨g', cap, cur, rfl, _, hh, _⟩
  · cases e
  · have e2 : g' = g := Option.some.inj e
    subst e2
    unfold At at hg
    rw [hg] at hh
    simp only [Option.some.injEq, Obj.cells.injEq] at hh
    exact ht hh.2.1
/-- The blocks of three rows, and others. -/
def S3 (T : Nat → Prop) (u v x : Value) (k : Nat) : Prop := T k ∨ Own u k ∨ Own v k ∨ Own x k
/-- Three rows of finders of the call's own. -/
structure Co (base : Nat) (T : Nat → Prop) (w : World) (u v x : Value) (o p q : List Cl) (fs gs hs : List Value) : Prop where
  a1 : w.ownsRow base 70 1 u o.length fs
  a2 : w.ownsRow base 70 1 v p.length gs
  a3 : w.ownsRow base 70 1 x q.length hs
  f1 : Fds (S3 T u v x) w fs o
  f2 : Fds (S3 T u v x) w gs p
  f3 : Fds (S3 T u v x) w hs q
  n12 : ∀ k, Own u k → ¬ Own v k
  n13 : ∀ k, Own u k → ¬ Own x k
  n23 : ∀ k, Own v k → ¬ Own x k
section
variable {base : Nat} {T T' : Nat → Prop} {w w' : World} {u v x : Value} {o p q : List Cl} {fs gs hs : List Value}
theorem Co.swap (h : Co base T w u v x o p q fs gs hs) : Co base T w v u x p o q gs fs hs :=
  have e : ∀ k, S3 T v u x k → S3 T u v x k := fun k hk => by rcases hk with h | h | h | h; exact .inl h; exact .inr (.inr (.inl h)); exact .inr (.inl h); exact .inr (.inr (.inr h))
  have f := fun {l : List Value} {r : List Cl} (hf : Fds (S3 T u v x) w l r) => hf.frm (S' := S3 T v u x) (Frm.refl _ _) (fun k hk => .inl (e k hk))
  ⟨h.a2, h.a1, h.a3, f h.f2, f h.f1, f h.f3, fun k h1 h2 => h.n12 k h2 h1, h.n23, h.n13⟩
theorem Co.rot (h : Co base T w u v x o p q fs gs hs) : Co base T w x v u q p o hs gs fs :=
  have e : ∀ k, S3 T x v u k → S3 T u v x k := fun k hk => by rcases hk with h | h | h | h; exact .inl h; exact .inr (.inr (.inr h)); exact .inr (.inr (.inl h)); exact .inr (.inl h)
  have f := fun {l : List Value} {r : List Cl} (hf : Fds (S3 T u v x) w l r) => hf.frm (S' := S3 T x v u) (Frm.refl _ _) (fun k hk => .inl (e k hk))
  ⟨h.a3, h.a2, h.a1, f h.f3, f h.f2, f h.f1, fun k h1 h2 => h.n23 k h2 h1, fun k h1 h2 => h.n13 k h2 h1, fun k h1 h2 => h.n12 k h2 h1⟩
theorem Co.re (h : Co base T w u v x o p q fs gs hs) {base' : Nat} (hb : base' ≤ base) (hbel : Below w.heap.size w w') (hT : ∀ k, T' k → T k ∨ w.heap.size ≤ k) : Co base' T' w' u v x o p q fs gs hs :=
  have e : ∀ k, S3 T' u v x k → S3 T u v x k ∨ w.heap.size ≤ k := fun k hk => by
    rcases hk with h1 | h1
    · exact (hT k h1).imp .inl id
    · exact .inl (.inr h1)
  ⟨own_base (own_below h.a1 hbel) hb, own_base (own_below h.a2 hbel) hb, own_base (own_below h.a3 hbel) hb, h.f1.frm (.of_below hbel) e, h.f2.frm (.of_below hbel) e, h.f3.frm (.of_below hbel) e, h.n12, h.n13, h.n23⟩
theorem Co.below (h : Co base T w u v x o p q fs gs hs) (hbel : Below w.heap.size w w') : Co base T w' u v x o p q fs gs hs := h.re (Nat.le_refl _) hbel fun _ hk => .inl hk
theorem Co.only {g : Nat} (h : Co base T w u v x o p q fs gs hs) (ho : Only g w w') (hg : T g) {t : TypeId} {cs : List Value} (hat : At w g t cs) (ht : t ≠ 70) : Co base T w' u v x o p q fs gs hs :=
  have e := fun {z : Value} {n : Nat} {l : List Value} (ha : w.ownsRow base 70 1 z n l) => (show w'.ownsRow base 70 1 z n l from
    ⟨ha.1, ha.2.imp id fun ⟨g', cap, cur, hv, hb, hh, r⟩ => ⟨g', cap, cur, hv, hb, (ho.heap g' (fun e => own_ne ha hat ht (by rw [hv, ← e]; rfl))).trans hh, r⟩⟩)
  have f := fun {l : List Value} {r : List Cl} (hf : Fds (S3 T u v x) w l r) => hf.frm (S' := S3 T u v x) (Frm.only ho (.inl hg)) (fun k hk => .inl hk)
  ⟨e h.a1, e h.a2, e h.a3, f h.f1, f h.f2, f h.f3, h.n12, h.n13, h.n23⟩
theorem Co.ins {y z : Value} {c : Cl} (h : Co base T w u v x o p q fs gs hs) (hown : w'.ownsRow base 70 1 z (o.length + 1) (y :: fs)) (hgr : w.grownBy w' u.ownBlock) (hbl : ∀ k, z.ownBlock = some k → u.ownBlock = some k ∨ w.heap.size ≤ k) (hy : Fd (S3 T u v x) w y c) : Co base T w' z v x (c :: o) p q (y :: fs) gs hs :=
  have e : ∀ k, S3 T z v x k → S3 T u v x k ∨ w.heap.size ≤ k := fun k hk => by
    rcases hk with h1 | h1 | h1
    · exact .inl (.inl h1)
    · exact (hbl k h1).imp (fun h2 => .inr (.inl h2)) id
    · exact .inl (.inr (.inr h1))
  have fr : Frm (S3 T u v x) w w' := Frm.grown hgr fun k hk => .inr (.inl hk)
  ⟨hown, h.a2.kept hgr (by
      rcases h.a2.2 with ⟨rfl, _⟩ | ⟨g, cap, cur, rfl, _⟩
      · exact .inl rfl
      · exact .inr fun e2 => h.n12 g (e2.symm.trans rfl) rfl), h.a3.kept hgr (by
      rcases h.a3.2 with ⟨rfl, _⟩ | ⟨g, cap, cur, rfl, _⟩
      · exact .inl rfl
      · exact .inr fun e2 => h.n13 g (e2.symm.trans rfl) rfl),
    Fds.cons (hy.frm fr e) (h.f1.frm fr e), h.f2.frm fr e, h.f3.frm fr e, fun k h1 h2 => (hbl k h1).elim (fun h3 => h.n12 k h3 h2) (fun h3 => Nat.not_le_of_lt (h.a2.lt k h2).2 h3), fun k h1 h2 => (hbl k h1).elim (fun h3 => h.n13 k h3 h2) (fun h3 => Nat.not_le_of_lt (h.a3.lt k h2).2 h3), h.n23⟩
theorem Co.into (h : Co base T w u v x o p q fs gs hs) {B : Nat} (hB : B ≤ base) (hT : ∀ k, T k → B ≤ k ∧ k < w.heap.size) : ∀ k, S3 T u v x k → B ≤ k ∧ k < w.heap.size := fun k hk => by
  rcases hk with h1 | h1 | h1 | h1
  · exact hT k h1
  · exact ⟨Nat.le_trans hB (h.a1.lt k h1).1, (h.a1.lt k h1).2⟩
  · exact ⟨Nat.le_trans hB (h.a2.lt k h1).1, (h.a2.lt k h1).2⟩
  · exact ⟨Nat.le_trans hB (h.a3.lt k h1).1, (h.a3.lt k h1).2⟩
end
theorem courseTy : AggTy Tryd.prog 77 5 := ⟨by kernel_rfl, by kernel_rfl⟩
theorem course_ne : 77 ≠ 70 := by decide
section
variable {base : Nat} {T : Nat → Prop} {w w' : World} {u v x : Value} {o p q : List Cl} {fs gs hs : List Value} {y z : Value} {c : Cl}
theorem s3_swap {k : Nat} (h : S3 T v u x k) : S3 T u v x k := by rcases h with h | h | h | h; exact .inl h; exact .inr (.inr (.inl h)); exact .inr (.inl h); exact .inr (.inr (.inr h))
theorem s3_rot {k : Nat} (h : S3 T x v u k) : S3 T u v x k := by rcases h with h | h | h | h; exact .inl h; exact .inr (.inr (.inr h)); exact .inr (.inr (.inl h)); exact .inr (.inl h)
theorem Co.ins1 (h : Co base T w u v x o p q fs gs hs) (hown : w'.ownsRow base 70 1 z (o.length + 1) (y :: fs)) (hgr : w.grownBy w' u.ownBlock) (hbl : ∀ k, z.ownBlock = some k → u.ownBlock = some k ∨ w.heap.size ≤ k) (hy : Fd (S3 T u v x) w y c) : Co base T w' z v x (c :: o) p q (y :: fs) gs hs := h.ins hown hgr hbl hy
theorem Co.ins2 (h : Co base T w u v x o p q fs gs hs) (hown : w'.ownsRow base 70 1 z (p.length + 1) (y :: gs)) (hgr : w.grownBy w' v.ownBlock) (hbl : ∀ k, z.ownBlock = some k → v.ownBlock = some k ∨ w.heap.size ≤ k) (hy : Fd (S3 T u v x) w y c) : Co base T w' u z x o (c :: p) q fs (y :: gs) hs :=
  (h.swap.ins hown hgr hbl (hy.frm (Frm.refl _ _) fun _ hk => .inl (s3_swap hk))).swap
theorem Co.ins3 (h : Co base T w u v x o p q fs gs hs) (hown : w'.ownsRow base 70 1 z (q.length + 1) (y :: hs)) (hgr : w.grownBy w' x.ownBlock) (hbl : ∀ k, z.ownBlock = some k → x.ownBlock = some k ∨ w.heap.size ≤ k) (hy : Fd (S3 T u v x) w y c) : Co base T w' u v z o p (c :: q) fs gs (y :: hs) :=
  (h.rot.ins hown hgr hbl (hy.frm (Frm.refl _ _) fun _ hk => .inl (s3_rot hk))).rot
end
/-- A block that is no row of finders stays where one grows. -/
theorem grown_at {base n : Nat} {w w' : World} {v : Value} {xs : List Value} {g : Nat} {t : TypeId} {cs : List Value} (hgr : w.grownBy w' v.ownBlock) (ho : w.ownsRow base 70 1 v n xs) (hg : At w g t cs) (ht : t ≠ 70) : At w' g t cs :=
  (hgr.block _ hg.lt fun e => own_ne ho hg ht e.symm).trans hg
theorem Co.into2 {T : Nat → Prop} {w : World} {u v x : Value} {o p q : List Cl} {fs gs hs : List Value} {z g B : Nat} (co : Co (z + 2 + 1) (fun k => T k ∨ k = z + 2 ∨ k = g) w u v x o p q fs gs hs) (hB : B ≤ z) (hT : ∀ k, T k → B ≤ k ∧ k < z) (hr : z + 2 < w.heap.size) (hrg : z + 2 < g) (hg : g < w.heap.size) :
    ∀ k, S3 (fun k => T k ∨ k = z + 2 ∨ k = g) u v x k → B ≤ k ∧ k < w.heap.size :=
  co.into (by omega) fun k hk => by
    rcases hk with h | rfl | rfl
    · have := hT k h; omega
    · omega
    · omega
/-- What is computed so far: in block g. -/
def CS (T : Nat → Prop) (r g : Nat) (X Y : ByteArray) (O P Q : Cl) (n : Nat) (w0 w : World) : Prop :=
  ∃ u v x o p q fs gs hs, At w g 77 [.string X, .string Y, u, v, x] ∧ At w r 77 [.string ⟨#[]⟩, .string ⟨#[]⟩, .slice none 0 0, .slice none 0 0, .slice none 0 0] ∧ Co (r + 1) T w u v x o p q fs gs hs ∧ Hid (fo o = O) ∧ Hid (fo p = P) ∧ Hid (fo q = Q) ∧ o.length ≤ n ∧ p.length ≤ n ∧ q.length ≤ n ∧ r < g ∧ Below r w0 w
/-- What is told, of a proof. -/
def Cx (T : Nat → Prop) (base : Nat) (w' : World) (v1 v2 v3 : Value) (O P Q : Cl) (n : Nat) : Prop :=
  ∃ o p q fs gs hs, Co base T w' v1 v2 v3 o p q fs gs hs ∧ fo o = O ∧ fo p = P ∧ fo q = Q ∧ o.length ≤ n ∧ p.length ≤ n ∧ q.length ≤ n
theorem pr_take : ∀ (f : Nat) (a b : List (List UInt8)) (m n j : Nat), 1 ≤ m → m ≤ n → n ≤ j → partsF sha f a (b.take j) m n = partsF sha f a b m n
  | 0, _, _, _, _, _, _, _, _ => rfl
  | f + 1, a, b, m, n, j, h1, h2, hj => by
    unfold partsF
    by_cases hmn : m = n
    · rw [if_pos hmn, if_pos hmn, List.take_take, show min m j = m by omega]
    · rw [if_neg hmn, if_neg hmn]
      obtain ⟨s1, s2, _, _⟩ := split_spec (n := n) (by omega)
      by_cases hmk : m ≤ split n
      · rw [if_pos hmk, if_pos hmk]
        exact pr_take f a b m (split n) j h1 hmk (by omega)
      · rw [if_neg hmk, if_neg hmk, List.take_take, show min (split n) j = split n by omega, List.drop_take]
        rw [pr_take f (a.drop (split n)) (b.drop (split n)) (m - split n) (n - split n) (j - split n) (by omega) (by omega) (by omega)]
theorem pr_start {a b : List (List UInt8)} {m k : Nat} (h1 : 1 ≤ m) (h2 : m ≤ k) : pr a (b.take k) m k = pr a b m k := pr_take (k + 1) a b m k k h1 h2 (Nat.le_refl _)
/-- The roots of a proof are digests. -/
theorem ro_32 {m n : Nat} {wh : Bool} {one x y : ByteArray} {p : List ByteArray} (h1 : 1 ≤ m) (h2 : m ≤ n) (ho : one.size = 32) (hd : Digs p) (h : ro m n wh one p = some (x, y)) : x.size = 32 ∧ y.size = 32 := by
  have e := ro_dl h1 h2 h
  have k := rootsF_32 sha sha32 _ _ _ _ _ _ _ _ (dlt32 ho) (dl32 hd) e
  have ex : (dl x).length = x.size := bsize x
  have ey : (dl y).length = y.size := bsize y
  exact ⟨ex.symm.trans k.1, ey.symm.trans k.2⟩
end Go.Proofs.YtihkfomldbjpoaaDoor.ClW

/- clash: what is promised of a course. -/
namespace Go.Proofs.YtihkfomldbjpoaaDoor.ClW
open Go.RowKit TreeW ConsW TrW ClashW
open ShaW Sha
open CoW
theorem five_one {s t : ByteArray} {u v x : Value} (hu : u.oneCell' = true) (hv : v.oneCell' = true) (hx : x.oneCell' = true) : ∀ y ∈ ([.string s, .string t, u, v, x] : List Value), y.oneCell' = true := by
  intro y hy
  simp at hy
  rcases hy with rfl | rfl | rfl | rfl | rfl
  · rfl
  · rfl
  · exact hu
  · exact hv
  · exact hx
set_option maxHeartbeats 1000000 in
theorem nodeC_any (l r : ByteArray) (w : World) (hT : Tab w) (h1 : l.size = 32) (h2 : r.size = 32) :
    Calls Tryd.prog 81 #[.string l, .string r] w fun e w' => e = .returned (.string (nd l r)) ∧ Below w.heap.size w w' := by
  have H1 := Lib.hid h1
  have H2 := Lib.hid h2
  clear h1 h2
  go_enter Tryd.func81, Tryd.ntmps81
  go_wp2_with fail
  refine (SealW.node_any l r _ hT H1.out H2.out).mono ?_
  rintro e w1 ⟨rfl, hb1⟩
  go_wp2_with fail
  go_ret
  exact ⟨rfl, hb1⟩
/-- What is promised of a course of up to f leaves. -/
def CP (f : Nat) : Prop := ∀ (T : Nat → Prop) (base : Nat) (A : Option Addr) (m c : Nat) (B : Option Addr) (d : Nat) (A' : Option Addr) (n c' : Nat) (B' : Option Addr) (d' : Nat) (a b : List (List UInt8)) (D : Option Addr) (lp cp : Nat) (ps : List ByteArray) (pa : Bool) (one X Y : ByteArray) (w0 w : World),
  Tab w0 → w0.heap.size = base → Below base w0 w → (∀ k, T k → base ≤ k ∧ k < w.heap.size) → LA w0 a A m c B d → LA w0 b A' n c' B' d' → Sl w0 D (scells ps) → ps.length = lp → Digs ps → lp ≤ cp → cp ≤ 9223372036854775807 → 1 ≤ m → m ≤ n → n ≤ f →
  (pa = false → one = rt (a.map lf)) → one.size = 32 → ro m n (!pa) one ps = some (X, Y) →
  Calls Tryd.prog 50 #[.agg #[.slice A m c, .slice B m d], .agg #[.slice A' n c', .slice B' n d'], .slice D lp cp, .bool pa] w fun e w' => ∃ v1 v2 v3, e = .returned (.agg #[.string X, .string Y, v1, v2, v3]) ∧
    Cx T w.heap.size w' v1 v2 v3 (ol (a.map lf) m n (!pa) one ps) (fr (b.map lf) m n (!pa) one ps) (pr a b m n) (3 * n) ∧ Below w.heap.size w w'
/-- The same, of some lengths alone. -/
def CPw (C : Nat → Nat → Prop) (f : Nat) : Prop := ∀ (T : Nat → Prop) (base : Nat) (A : Option Addr) (m c : Nat) (B : Option Addr) (d : Nat) (A' : Option Addr) (n c' : Nat) (B' : Option Addr) (d' : Nat) (a b : List (List UInt8)) (D : Option Addr) (lp cp : Nat) (ps : List ByteArray) (pa : Bool) (one X Y : ByteArray) (w0 w : World),
  Tab w0 → w0.heap.size = base → Below base w0 w → (∀ k, T k → base ≤ k ∧ k < w.heap.size) → LA w0 a A m c B d → LA w0 b A' n c' B' d' → Sl w0 D (scells ps) → ps.length = lp → Digs ps → lp ≤ cp → cp ≤ 9223372036854775807 → 1 ≤ m → m ≤ n → n ≤ f →
  (pa = false → one = rt (a.map lf)) → one.size = 32 → ro m n (!pa) one ps = some (X, Y) → C m n →
  Calls Tryd.prog 50 #[.agg #[.slice A m c, .slice B m d], .agg #[.slice A' n c', .slice B' n d'], .slice D lp cp, .bool pa] w fun e w' => ∃ v1 v2 v3, e = .returned (.agg #[.string X, .string Y, v1, v2, v3]) ∧
    Cx T w.heap.size w' v1 v2 v3 (ol (a.map lf) m n (!pa) one ps) (fr (b.map lf) m n (!pa) one ps) (pr a b m n) (3 * n) ∧ Below w.heap.size w w'
theorem cp_all {f : Nat} (h1 : CPw (fun m n => m = n) f) (h2 : CPw (fun m n => m < n ∧ m ≤ split n) f) (h3 : CPw (fun m n => m < n ∧ ¬ m ≤ split n) f) : CP f := by
  intro T base A m c B d A' n c' B' d' a b D lp cp ps pa one X Y w0 w hT0 h0 hbel hTT la lb hD hlp hdg hlc hcp k1 hmn hf hone h32 hro
  by_cases hE : m = n
  · exact h1 T base A m c B d A' n c' B' d' a b D lp cp ps pa one X Y w0 w hT0 h0 hbel hTT la lb hD hlp hdg hlc hcp k1 hmn hf hone h32 hro hE
  · by_cases hk : m ≤ split n
    · exact h2 T base A m c B d A' n c' B' d' a b D lp cp ps pa one X Y w0 w hT0 h0 hbel hTT la lb hD hlp hdg hlc hcp k1 hmn hf hone h32 hro ⟨by omega, hk⟩
    · exact h3 T base A m c B d A' n c' B' d' a b D lp cp ps pa one X Y w0 w hT0 h0 hbel hTT la lb hD hlp hdg hlc hcp k1 hmn hf hone h32 hro ⟨by omega, hk⟩
theorem ro_all_t {n : Nat} {one X Y : ByteArray} {ps : List ByteArray} (h : ro n n true one ps = some (X, Y)) : one = X ∧ one = Y := by
  unfold ro at h
  rw [roots_true] at h
  split at h
  · have e := Option.some.inj h
    exact ⟨congrArg Prod.fst e, congrArg Prod.snd e⟩
  · cases h
theorem ro_all_f {n : Nat} {one X Y : ByteArray} {ps : List ByteArray} (h : ro n n false one ps = some (X, Y)) : ∃ s, ps = [s] ∧ s = X ∧ s = Y := by
  unfold ro at h
  by_cases hl : ps.length = 1
  · obtain ⟨s, rfl⟩ := List.length_eq_one_iff.1 hl
    rw [ConsW.roots_one] at h
    have e := Option.some.inj h
    exact ⟨s, rfl, congrArg Prod.fst e, congrArg Prod.snd e⟩
  · rw [roots_not nd n one ps hl] at h; cases h
theorem ro_left {m n k : Nat} {wh : Bool} {one d X Y : ByteArray} {p : List ByteArray} (hk : k = split n) (h1 : 1 ≤ m) (h2 : m < n) (h : m ≤ k) (hr : ro m n wh one (p ++ [d]) = some (X, Y)) : ∃ x y, ro m k wh one p = some (x, y) ∧ x = X ∧ nd y d = Y := by
  unfold ro at hr ⊢
  rw [roots_left nd hk h1 h2 h] at hr
  obtain ⟨z, hz, e⟩ := Option.map_eq_some_iff.1 hr
  exact ⟨z.1, z.2, hz, congrArg Prod.fst e, congrArg Prod.snd e⟩
theorem ro_right {m n k : Nat} {wh : Bool} {one d X Y : ByteArray} {p : List ByteArray} (hk : k = split n) (h1 : 1 ≤ m) (h2 : m < n) (h : ¬ m ≤ k) (hr : ro m n wh one (p ++ [d]) = some (X, Y)) : ∃ x y, ro (m - k) (n - k) false one p = some (x, y) ∧ nd d x = X ∧ nd d y = Y := by
  unfold ro at hr ⊢
  rw [roots_right nd hk h1 h2 h] at hr
  obtain ⟨z, hz, e⟩ := Option.map_eq_some_iff.1 hr
  exact ⟨z.1, z.2, hz, congrArg Prod.fst e, congrArg Prod.snd e⟩
theorem ro_some {m n : Nat} {wh : Bool} {one X Y : ByteArray} {p : List ByteArray} (h1 : 1 ≤ m) (h2 : m < n) (hr : ro m n wh one p = some (X, Y)) : p.length ≠ 0 := by
  intro h
  obtain rfl := List.eq_nil_of_length_eq_zero h
  unfold ro at hr
  rw [roots_nil nd h1 h2] at hr
  cases hr
end Go.Proofs.YtihkfomldbjpoaaDoor.ClW

/- slices.Grow, Concat of finders. -/
namespace Go.Proofs.YtihkfomldbjpoaaDoor.ClW
open Go.RowKit Go.Lib TreeW ConsW TrW ClashW
open ShaW Sha
set_option maxRecDepth 1000000 in
set_option maxHeartbeats 4000000 in
theorem grow_any (n : Nat) (w : World) (hn40 : n ≤ 13194139533312) :
    Calls Tryd.prog 82 #[.slice none 0 0, .int .i64 (n : Int)] w fun e w' => ∃ v, e = .returned v ∧ w'.ownsRow w.heap.size 70 1 v 0 [] ∧ Below w.heap.size w w' := by
  have h1 : ¬ ((n : Int) < 0) := by omega
  have hw0 : IntKind.i64.wrap (n : Int) = (n : Int) := IntWalk.i64_in _ (by omega)
  have hw2 : IntKind.i64.wrap 0 = 0 := IntWalk.i64_in _ (by omega)
  by_cases h0 : n = 0
  · subst h0
    go_enter Tryd.func82, Tryd.ntmps82
    go_wp2_with fail
    go_ret
    exact ⟨_, rfl, World.ownsRow_nil _ _ _ _, Below.refl _ _⟩
  · obtain ⟨i0, hi0, hz0, hs0, hb0⟩ := findersTy.info
    have hGn : n ≤ grownCap w n 0 70 := grownCap_ge w _ _ _
    have hcm : grownCap w n 0 70 ≤ maxLen := grownCap_le_maxLen w n 0 70 (by unfold maxLen; omega)
    have hold : (Builtin.firstCells i0.size 0 (.slice none 0 0)).run Tryd.prog w.drew = .ok ([] : List Value).toArray w.drew := by
      rw [hs0]
      exact run_firstCells_none w.drew 1 0 0 0
    have hrz : ∀ ty, (Builtin.append_ #[59, 3] ty #[.slice none 0 0, .int .i64 (n : Int)]).run Tryd.prog w =
        .ok (.slice (some ⟨w.heap.size, 0, none⟩) n (grownCap w n 0 70)) (w.drew.alloc (.cells (([] : List Value).toArray ++ Builtin.zeroCells Value.nilFunc.cells n ++ Builtin.zeroCells Value.nilFunc.cells (grownCap w n 0 70 - n)) 70)) := fun ty => by
      have h := Lib.run_append_grow_zeros w 59 3 ty 70 i0 _ .i64 .i64 under59 (by kernel_rfl) hi0 hz0 none 0 0 [] hold n (by omega) (by omega) (by omega) (by omega) (by rw [hb0]; omega) (by rw [hb0]; exact growslice_fits (by omega) (by omega))
      rw [Nat.zero_add] at h
      exact h
    obtain ⟨G, hG⟩ : ∃ G, G = grownCap w n 0 70 := ⟨_, rfl⟩
    rw [← hG] at hrz hGn hcm
    obtain ⟨ROW, hROW⟩ : ∃ ROW : List Value, ROW.toArray = ([] : List Value).toArray ++ Builtin.zeroCells Value.nilFunc.cells n ++ Builtin.zeroCells Value.nilFunc.cells (G - n) := ⟨_, Array.toArray_toList⟩
    rw [← hROW] at hrz
    have hRl : ROW.length = G := by
      have e := congrArg Array.size hROW
      simp [Builtin.zeroCells, Value.cells] at e
      omega
    have k1 : At (w.drew.alloc (.cells ROW.toArray 70)) w.heap.size 70 ROW := At.new_ w.drew _ 70 _ rfl
    have b1 : Below w.heap.size w (w.drew.alloc (.cells ROW.toArray 70)) := ((Below.refl _ _).drew).alloc (Nat.le_refl _) _
    obtain ⟨W1, hW1⟩ : ∃ W1, W1 = w.drew.alloc (.cells ROW.toArray 70) := ⟨_, rfl⟩
    rw [← hW1] at hrz k1 b1
    have HRL := Lib.hid hRl
    have HCM := Lib.hid hcm
    have hcm2 := len_le hcm
    have to0 := fun w' => run_to (P := Tryd.prog) findersTy w' (some ⟨w.heap.size, 0, none⟩) n G 0 .i64 (by omega)
    rw [show ((0 : Nat) : Int) = 0 from rfl] at to0
    have hz4 : (n : Int) > 0 := by omega
    clear hG hROW hW1 hold hi0 hz0 hs0 hb0 hRl hcm h0
    go_enter Tryd.func82, Tryd.ntmps82
    go_wp2_with (refine Lib.wpList_append_run _ rfl (.tmp 20) (.tmp 21) 59 3 rfl _ _ rfl rfl _ _ (hrz _) ?_)
    go_ret
    refine ⟨_, rfl, ⟨rfl, .inr ⟨w.heap.size, G, ROW.toArray, rfl, Nat.le_refl _, k1, Nat.zero_le _, HCM.out, ?_, ?_⟩⟩, b1⟩
    · simpa using HRL.out
    · simp
/-- Slices of finders that read so. -/
def PartsV (w : World) (vs : List Value) (fss : List (List Value)) : Prop :=
  ∀ j, j < fss.length → ∃ B d, vs[j]? = some (.slice B (fss.getD j []).length d) ∧ Sl w B (fss.getD j [])
theorem flat_snocV (bss : List (List Value)) (k : Nat) (h : k < bss.length) : (bss.take (k + 1)).flatten = (bss.take k).flatten ++ bss.getD k [] := by
  have e : bss.take (k + 1) = bss.take k ++ [bss.getD k []] := by
    rw [List.take_add_one]
    simp [h]
  rw [e, List.flatten_append]
  simp
theorem flat_leV (bss : List (List Value)) (k : Nat) : (bss.take k).flatten.length ≤ bss.flatten.length := by
  have : bss.flatten = (bss.take k).flatten ++ (bss.drop k).flatten := by rw [← List.flatten_append, List.take_append_drop]
  rw [this, List.length_append]; omega
set_option maxRecDepth 1000000 in
set_option maxHeartbeats 4000000 in
theorem concat_any (A : Option Addr) (n c : Nat) (vs : List Value) (fss : List (List Value)) (w : World) (hn : fss.length = n) (hv : vs.length = n) (hA : Sl w A vs) (hP : PartsV w vs fss) (hn63 : n ≤ 1000) (h40 : fss.flatten.length ≤ 13194139533312) (hone : ∀ u ∈ fss.flatten, u.oneCell' = true) :
    Calls Tryd.prog 51 #[.slice A n c] w fun e w' => ∃ A' c', e = .returned (.slice A' fss.flatten.length c') ∧ Sl w' A' fss.flatten ∧ Below w.heap.size w w' := by
  have HN : Hid (fss.length = n) := hn
  have HV : Hid (vs.length = n) := hv
  have HO := Lib.hid hone
  clear hn hv hone
  go_enter Tryd.func51, Tryd.ntmps51
  go_wp2_with fail
  go_loopw [3, 11] (fun sz i wr => ∃ j : Nat, j ≤ n ∧ i = .int .i64 j ∧ sz = .int .i64 ((fss.take j).flatten.length : Nat) ∧ Below w.heap.size w wr)
    (fun _ i _ => n - (Go.RowKit.intOf i).toNat)
  case atStart => exact ⟨0, by omega, rfl, by simp, Below.refl _ _⟩
  case round =>
    obtain ⟨j, hj, rfl, rfl, hbel⟩ := hrel
    by_cases hlt : j < n
    · obtain ⟨B, d, hvj, hB⟩ := hP j (by rw [HN.out]; exact hlt)
      have hjv : j < vs.length := by rw [HV.out]; exact hlt
      obtain ⟨b, o, rfl, hblt, hcell⟩ := hA.get hjv
      have hcw := (hbel.cell (p := ⟨b, o + j, none⟩) hblt).trans (hcell j _ hvj)
      have HX : Hid ((fss.take (j + 1)).flatten = (fss.take j).flatten ++ fss.getD j []) := flat_snocV fss j (by rw [HN.out]; exact hlt)
      have hle := flat_leV fss (j + 1)
      rw [HX.out, List.length_append] at hle
      obtain ⟨s, hs⟩ : ∃ s, (fss.take j).flatten.length = s := ⟨_, rfl⟩
      obtain ⟨l, hl⟩ : ∃ l, (fss.getD j []).length = l := ⟨_, rfl⟩
      rw [hs, hl] at hle
      rw [hl] at hcw
      have HS := Lib.hid hs
      have HL := Lib.hid hl
      have hw4 : IntKind.i64.wrap ((s : Int) + (l : Int)) = (s : Int) + (l : Int) := by
        rw [show (s : Int) + (l : Int) = ((s + l : Nat) : Int) by omega]
        exact IntWalk.i64_in _ (by omega)
      have hneg : ¬ ((s : Int) + (l : Int) < 0) := by omega
      clear hcell hvj hjv hB
      rw [hs]
      clear hs hl
      go_wp2_with fail
      go_roundw
      case rel => exact ⟨j + 1, by omega, by go_num, by rw [HX.out, List.length_append, HS.out, HL.out]; go_num, hbel⟩
      case measure => simp [Go.RowKit.intOf]; omega
    · obtain rfl : j = n := by omega
      have hfl : fss.take j = fss := List.take_of_length_le (by rw [HN.out]; omega)
      rw [hfl]
      obtain ⟨s, hs⟩ : ∃ s, fss.flatten.length = s := ⟨_, rfl⟩
      rw [hs] at h40 ⊢
      have HS := Lib.hid hs
      clear hs hfl hj
      go_wp2_with fail
      refine (grow_any s _ h40).mono ?_
      rintro e w2 ⟨v2, rfl, hown2, hb2⟩
      have b2 := hbel.trans (hb2.mono hbel.size)
      have hown3 := own_base hown2 hbel.size
      clear hown2 hb2 hbel
      go_wp2_with fail
      go_loopw [6, 27] (fun v i wr => ∃ k : Nat, k ≤ j ∧ i = .int .i64 k ∧ wr.ownsRow w.heap.size 70 1 v (fss.take k).flatten.length (fss.take k).flatten ∧ Below w.heap.size w wr)
        (fun _ i _ => j - (Go.RowKit.intOf i).toNat)
      case atStart => exact ⟨0, by omega, rfl, by simpa using hown3, b2⟩
      case round =>
        clear hown3 b2
        obtain ⟨k, hk, rfl, hown, hbel⟩ := hrel
        by_cases hlt2 : k < j
        · obtain ⟨B, d, hvj, hB⟩ := hP k (by rw [HN.out]; exact hlt2)
          have hjv : k < vs.length := by rw [HV.out]; exact hlt2
          obtain ⟨b, o, rfl, hblt, hcell⟩ := hA.get hjv
          have hcw := (hbel.cell (p := ⟨b, o + k, none⟩) hblt).trans (hcell k _ hvj)
          have hB2 := hB.below hbel
          have HX : Hid ((fss.take (k + 1)).flatten = (fss.take k).flatten ++ fss.getD k []) := flat_snocV fss k (by rw [HN.out]; exact hlt2)
          have hle := flat_leV fss (k + 1)
          rw [HX.out, List.length_append, HS.out] at hle
          have HOP : Hid (∀ u ∈ fss.getD k [], u.oneCell' = true) := fun u hu => HO.out u (List.mem_flatten.2 ⟨_, by
            have : k < fss.length := by rw [HN.out]; exact hlt2
            simp only [List.getD_eq_getElem?_getD, List.getElem?_eq_getElem this, Option.getD_some] at hu ⊢
            exact List.getElem_mem this, hu⟩)
          clear hcell hvj hjv hB
          obtain ⟨p, hp⟩ : ∃ p, p = fss.getD k [] := ⟨_, rfl⟩
          rw [← hp] at hB2 hle hcw HX HOP
          obtain ⟨l, hl⟩ : ∃ l, p.length = l := ⟨_, rfl⟩
          have HL : Hid (p.length = l) := hl
          rw [hl] at hcw hle
          obtain ⟨q, hq⟩ : ∃ q, q = (fss.take k).flatten := ⟨_, rfl⟩
          rw [← hq] at hown hle HX
          obtain ⟨m, hm⟩ : ∃ m, q.length = m := ⟨_, rfl⟩
          have HM : Hid (q.length = m) := hm
          rw [hm] at hown hle
          clear hp hl hq hm
          go_wp2_with (refine wpList_app rfl (.tmp 31) (.tmp 32) 59 rfl findersTy w.heap.size u6 m q rfl hown B l d p rfl HL.out hB2 HOP.out (by omega) hbel.size ?_; intro v1 w1 hown1 hgr1 hbl1)
          have hb1 := below_app hbel hgr1 hown (Nat.le_refl _) hbel.size
          go_roundw
          case rel =>
            refine ⟨k + 1, by omega, by go_num, ?_, hb1⟩
            rw [HX.out, List.length_append, HL.out, HM.out]; exact hown1
          case measure => simp [Go.RowKit.intOf]; omega
        · obtain rfl : k = j := by omega
          have hfl : fss.take k = fss := List.take_of_length_le (by rw [HN.out]; omega)
          rw [hfl, HS.out] at hown
          obtain ⟨A', c', rfl, hsl, _, _, _, _⟩ := own_slice hown
          clear hown hfl
          go_wp2_with fail
          go_ret
          exact ⟨A', c', by rw [HS.out]; rfl, hsl, hbel⟩
end Go.Proofs.YtihkfomldbjpoaaDoor.ClW

/- clash: a course to the left. -/
namespace Go.Proofs.YtihkfomldbjpoaaDoor.ClW
open Go.RowKit TreeW ConsW TrW ClashW
open ShaW Sha
open CoW
set_option maxRecDepth 1000000 in
set_option maxHeartbeats 20000000 in
theorem computed_left (f : Nat) (ih : CP f) : CPw (fun m n => m < n ∧ m ≤ split n) (f + 1) := by
  intro T base A m c B d A' n c' B' d' a b D lp cp ps pa one X Y w0 w hT0 h0 hbel hTT la lb hD hlp hdg hlc hcp h1 hmn hf hone h32 hro hC
  have k0 : At (((w.alloc (.cells #[.slice A m c, .slice B m d] 62)).alloc (.cells #[.slice A' n c', .slice B' n d'] 62)).alloc (.cells #[.string ⟨#[]⟩, .string ⟨#[]⟩, .slice none 0 0, .slice none 0 0, .slice none 0 0] 77)) w.heap.size 62 [.slice A m c, .slice B m d] := ((At.new_ w _ 62 [.slice A m c, .slice B m d] rfl).alloc _).alloc _
  have k1 : At (((w.alloc (.cells #[.slice A m c, .slice B m d] 62)).alloc (.cells #[.slice A' n c', .slice B' n d'] 62)).alloc (.cells #[.string ⟨#[]⟩, .string ⟨#[]⟩, .slice none 0 0, .slice none 0 0, .slice none 0 0] 77)) (w.heap.size + 1) 62 [.slice A' n c', .slice B' n d'] := (At.new_ _ _ 62 [.slice A' n c', .slice B' n d'] (by simp)).alloc _
  have hr0 : At (((w.alloc (.cells #[.slice A m c, .slice B m d] 62)).alloc (.cells #[.slice A' n c', .slice B' n d'] 62)).alloc (.cells #[.string ⟨#[]⟩, .string ⟨#[]⟩, .slice none 0 0, .slice none 0 0, .slice none 0 0] 77)) (w.heap.size + 2) 77 [.string ⟨#[]⟩, .string ⟨#[]⟩, .slice none 0 0, .slice none 0 0, .slice none 0 0] := At.new_ _ _ 77 _ (by simp)
  have b0 : Below w.heap.size w (((w.alloc (.cells #[.slice A m c, .slice B m d] 62)).alloc (.cells #[.slice A' n c', .slice B' n d'] 62)).alloc (.cells #[.string ⟨#[]⟩, .string ⟨#[]⟩, .slice none 0 0, .slice none 0 0, .slice none 0 0] 77)) := (((Below.refl _ _).alloc (Nat.le_refl _) _).alloc (by simp) _).alloc (by simp; omega) _
  have hbz : base ≤ w.heap.size := by rw [← h0]; exact hbel.size
  have HBZ := Lib.hid hbz
  have HBL := Lib.hid (fun W (hb : Below (w.heap.size + 2) (((w.alloc (.cells #[.slice A m c, .slice B m d] 62)).alloc (.cells #[.slice A' n c', .slice B' n d'] 62)).alloc (.cells #[.string ⟨#[]⟩, .string ⟨#[]⟩, .slice none 0 0, .slice none 0 0, .slice none 0 0] 77)) W) => hbel.trans ((b0.trans (hb.mono (Nat.le_add_right _ 2))).mono hbz))
  have HBW := Lib.hid (fun W (hb : Below (w.heap.size + 2) (((w.alloc (.cells #[.slice A m c, .slice B m d] 62)).alloc (.cells #[.slice A' n c', .slice B' n d'] 62)).alloc (.cells #[.string ⟨#[]⟩, .string ⟨#[]⟩, .slice none 0 0, .slice none 0 0, .slice none 0 0] 77)) W) => b0.trans (hb.mono (Nat.le_add_right _ 2)))
  have H0 := Lib.hid h0
  have HT0 := Lib.hid hT0
  have HTT := Lib.hid hTT
  have HT := Lib.hid (fun W (hb : Below (w.heap.size + 2) (((w.alloc (.cells #[.slice A m c, .slice B m d] 62)).alloc (.cells #[.slice A' n c', .slice B' n d'] 62)).alloc (.cells #[.string ⟨#[]⟩, .string ⟨#[]⟩, .slice none 0 0, .slice none 0 0, .slice none 0 0] 77)) W) => hT0.below (HBL.out W hb) (by rw [← h0]; exact hT0.pos))
  have HLA := Lib.hid (fun W (hb : Below (w.heap.size + 2) (((w.alloc (.cells #[.slice A m c, .slice B m d] 62)).alloc (.cells #[.slice A' n c', .slice B' n d'] 62)).alloc (.cells #[.string ⟨#[]⟩, .string ⟨#[]⟩, .slice none 0 0, .slice none 0 0, .slice none 0 0] 77)) W) => la.below (by rw [h0]; exact HBL.out W hb))
  have HLB := Lib.hid (fun W (hb : Below (w.heap.size + 2) (((w.alloc (.cells #[.slice A m c, .slice B m d] 62)).alloc (.cells #[.slice A' n c', .slice B' n d'] 62)).alloc (.cells #[.string ⟨#[]⟩, .string ⟨#[]⟩, .slice none 0 0, .slice none 0 0, .slice none 0 0] 77)) W) => lb.below (by rw [h0]; exact HBL.out W hb))
  have LA_ := Lib.hid la
  have LB_ := Lib.hid lb
  have hm40 := la.l40
  have hn40 := lb.l40
  have HA0 : Hid (∀ W, Below (w.heap.size + 2) (((w.alloc (.cells #[.slice A m c, .slice B m d] 62)).alloc (.cells #[.slice A' n c', .slice B' n d'] 62)).alloc (.cells #[.string ⟨#[]⟩, .string ⟨#[]⟩, .slice none 0 0, .slice none 0 0, .slice none 0 0] 77)) W → W.cell? ⟨w.heap.size, 0, none⟩ = some (.slice A m c)) := fun W hb => (k0.below hb (by omega)).cell 0
  have HA1 : Hid (∀ W, Below (w.heap.size + 2) (((w.alloc (.cells #[.slice A m c, .slice B m d] 62)).alloc (.cells #[.slice A' n c', .slice B' n d'] 62)).alloc (.cells #[.string ⟨#[]⟩, .string ⟨#[]⟩, .slice none 0 0, .slice none 0 0, .slice none 0 0] 77)) W → W.cell? ⟨w.heap.size, 1, none⟩ = some (.slice B m d)) := fun W hb => (k0.below hb (by omega)).cell 1
  have HB0 : Hid (∀ W, Below (w.heap.size + 2) (((w.alloc (.cells #[.slice A m c, .slice B m d] 62)).alloc (.cells #[.slice A' n c', .slice B' n d'] 62)).alloc (.cells #[.string ⟨#[]⟩, .string ⟨#[]⟩, .slice none 0 0, .slice none 0 0, .slice none 0 0] 77)) W → W.cell? ⟨w.heap.size + 1, 0, none⟩ = some (.slice A' n c')) := fun W hb => (k1.below hb (by omega)).cell 0
  have HB1 : Hid (∀ W, Below (w.heap.size + 2) (((w.alloc (.cells #[.slice A m c, .slice B m d] 62)).alloc (.cells #[.slice A' n c', .slice B' n d'] 62)).alloc (.cells #[.string ⟨#[]⟩, .string ⟨#[]⟩, .slice none 0 0, .slice none 0 0, .slice none 0 0] 77)) W → W.cell? ⟨w.heap.size + 1, 1, none⟩ = some (.slice B' n d')) := fun W hb => (k1.below hb (by omega)).cell 1
  have ca0 := HA0.out _ (Below.refl _ _)
  have ca1 := HA1.out _ (Below.refl _ _)
  have cb0 := HB0.out _ (Below.refl _ _)
  have cb1 := HB1.out _ (Below.refl _ _)
  have HONE := Lib.hid hone
  have HR := Lib.hid hro
  have h32 := Lib.hid h32
  have HLP := Lib.hid hlp
  clear k0 k1 b0 hbz hbel hTT hT0 h0 la lb hone hro hlp
  · obtain ⟨hlt, hmk⟩ := hC
    have hne : ((m : Int) == (n : Int)) = false := by simpa using (show ¬ (m : Int) = (n : Int) by omega)
    obtain ⟨p, hp⟩ : ∃ p, lp = 1 + p := ⟨lp - 1, by have := ro_some h1 hlt HR.out; rw [HLP.out] at this; omega⟩
    subst hp
    obtain ⟨q0, dd, bb, oo, rfl, hq0, rfl, hblt, hcell, hsq, hdq0, hd32, hto⟩ := path_parts (c := cp) HLP.out hD hlc rfl hdg
    have HQ0 := Lib.hid hq0
    have HD32 := Lib.hid hd32
    have HTO := Lib.hid hto
    have HCELL : Hid (∀ W, Below base w0 W → W.cell? ⟨bb, oo + p, none⟩ = some (.string dd)) := fun W hb => hcell W (by rw [H0.out]; exact hb)
    have hsq := Lib.hid hsq
    have h2n : 2 ≤ n := by omega
    have HN2 := Lib.hid h2n
    obtain ⟨kl, kp⟩ : split n < n ∧ 1 ≤ split n := by
      obtain ⟨x1, x2, _, _⟩ := split_spec h2n
      exact ⟨x2, x1⟩
    obtain ⟨k, hk⟩ : ∃ k, k = split n := ⟨_, rfl⟩
    have HK := Lib.hid hk
    rw [← hk] at kl kp
    have q1 : (1 : Int) + (p : Int) - 1 = (p : Int) := by omega
    have q3 : ¬ ((1 : Int) + (p : Int) ≤ (p : Int)) := by omega
    have q4 : ¬ ((p : Int) < 0) := by omega
    have q6 : IntKind.i64.wrap (p : Int) = (p : Int) := IntWalk.i64_in _ (by omega)
    have q5 : IntKind.i64.wrap ((1 : Int) + (p : Int) - 1) = (p : Int) := by rw [q1]; exact q6
    have HTLB : Hid ((tp (b.map lf)).length = 65) := tp_len (lf_digs b)
    obtain ⟨tb, htb⟩ : ∃ t, tp (b.map lf) = t := ⟨_, rfl⟩
    rw [htb] at HTLB
    have HTB := Lib.hid htb
    clear hq0 hd32 hto hcell hk htb hD hdg h2n
    go_enter Tryd.func50, Tryd.ntmps50
    go_wp2_with fail
    refine (splitL_any A' n c' B' d' ((split n : Nat) : Int) _ (.inr ⟨HN2.out, rfl⟩) hn40).mono ?_
    rintro e w1 ⟨rfl, hb1⟩
    rw [← HK.out]
    have bW : Below (w.heap.size + 2) (((w.alloc (.cells #[.slice A m c, .slice B m d] 62)).alloc (.cells #[.slice A' n c', .slice B' n d'] 62)).alloc (.cells #[.string ⟨#[]⟩, .string ⟨#[]⟩, .slice none 0 0, .slice none 0 0, .slice none 0 0] 77)) w1 := hb1.mono (by simp)
    have hr := hr0.below hb1 hr0.lt
    clear hr0
    have hcd := HCELL.out _ (HBL.out _ bW)
    clear ca0 ca1 cb0 cb1
    have ca0 := HA0.out _ bW
    have ca1 := HA1.out _ bW
    have cb0 := HB0.out _ bW
    have cb1 := HB1.out _ bW
    clear hb1
    generalize (((w.alloc (.cells #[.slice A m c, .slice B m d] 62)).alloc (.cells #[.slice A' n c', .slice B' n d'] 62)).alloc (.cells #[.string ⟨#[]⟩, .string ⟨#[]⟩, .slice none 0 0, .slice none 0 0, .slice none 0 0] 77)) = Wz at *
    rw [← HK.out] at hmk
    · obtain ⟨x', y', hr2, hX, hY⟩ := ro_left HK.out h1 hlt hmk HR.out
      subst hX hY
      have HX32 := Lib.hid (ro_32 h1 hmk h32.out hdq0 hr2).1
      have HY32 := Lib.hid (ro_32 h1 hmk h32.out hdq0 hr2).2
      have HR2 := Lib.hid hr2
      have HOL := Lib.hid (ol_left (ss := a.map lf) (d := dd) (p := q0) (wh := !pa) (one := one) HK.out h1 hlt hmk)
      have HFR := Lib.hid (fr_left (ss := b.map lf) (d := dd) HK.out h1 hlt hmk hr2)
      have HPR := Lib.hid (pr_left (a := a) (b := b) HK.out h1 hlt hmk)
      have HPS := Lib.hid (pr_start (a := a) (b := b) h1 hmk)
      obtain ⟨O1, hO1⟩ : ∃ O1, ol (a.map lf) m k (!pa) one q0 = O1 := ⟨_, rfl⟩
      obtain ⟨P1, hP1⟩ : ∃ P1, fr ((b.take k).map lf) m k (!pa) one q0 = P1 := ⟨_, rfl⟩
      obtain ⟨Q1, hQ1⟩ : ∃ Q1, pr a (b.take k) m k = Q1 := ⟨_, rfl⟩
      rw [hO1] at HOL
      rw [← List.map_take, hP1, HTB.out] at HFR
      rw [← HPS.out, hQ1] at HPR
      have HOO := Lib.hid hO1
      have HPP := Lib.hid hP1
      have HQQ := Lib.hid hQ1
      have kk : (m : Int) ≤ (k : Int) := by omega
      clear hr2 hO1 hP1 hQ1 HPS
      go_upto_region 9 with fail
      clear ca0 ca1 cb0 cb1 hcd
      go_cut [13] (fun v wc => ∃ g, v = .pointer (some ⟨g, 0, none⟩) ∧ CS (fun k => T k ∨ k = w.heap.size + 2 ∨ k = g) (w.heap.size + 2) g x' y' (O1) (P1) (Q1) (3 * k) Wz wc)
      case first =>
        have hsz : w.heap.size + 2 ≤ w1.drew.heap.size := Nat.le_of_lt hr.lt
        have hr := hr.drew
        have bW := bW.drew
        refine regB_begin (w.heap.size + 2) (by kernel_rfl) ?_
        change wpAnyH _ _ _ _ _ 11 #[false, false, false, false, false, false, false, false, false, false, false] _ _
        refine regB_take (i := 0) (d := some 49) (v := (.agg #[.slice A m c, .slice B m d])) rfl rfl (by kernel_rfl) (by kernel_rfl) (by kernel_rfl) (fun _ _ _ h => h) (by rfl) (by intro w' hSw; have f0 := HA0.out w' (bW.trans hSw); have f1 := HA1.out w' (bW.trans hSw); go_simp) ?_
        try simp only [Act.put, List.setIfInBounds_toArray, List.set_cons_zero, List.set_cons_succ]
        refine regB_take (i := 1) (d := some 50) (v := (.agg #[.slice A' n c', .slice B' n d'])) rfl rfl (by kernel_rfl) (by kernel_rfl) (by kernel_rfl) (fun _ _ _ h => h) (by rfl) (by intro w' hSw; have f0 := HB0.out w' (bW.trans hSw); have f1 := HB1.out w' (bW.trans hSw); go_simp) ?_
        try simp only [Act.put, List.setIfInBounds_toArray, List.set_cons_zero, List.set_cons_succ]
        refine regB_take (i := 2) (d := some 51) (v := (.int .i64 (k : Int))) rfl rfl (by kernel_rfl) (by kernel_rfl) (by kernel_rfl) (fun _ _ _ h => h) (by rfl) (by intro w' hSw; go_simp) ?_
        try simp only [Act.put, List.setIfInBounds_toArray, List.set_cons_zero, List.set_cons_succ]
        refine regB_take (i := 4) (d := some 53) (v := (.slice (some ⟨bb, oo, none⟩) (1 + p) cp)) rfl rfl (by kernel_rfl) (by kernel_rfl) (by kernel_rfl) (fun _ _ _ h => h) (by rfl) (by intro w' hSw; go_simp) ?_
        try simp only [Act.put, List.setIfInBounds_toArray, List.set_cons_zero, List.set_cons_succ]
        refine regB_take (i := 5) (d := some 54) (v := (.int .i64 (p : Int))) rfl rfl (by kernel_rfl) (by kernel_rfl) (by kernel_rfl) (fun _ _ _ h => h) (by rfl) (by intro w' hSw; go_simp) ?_
        try simp only [Act.put, List.setIfInBounds_toArray, List.set_cons_zero, List.set_cons_succ]
        refine regB_take (i := 6) (d := some 55) (v := (.slice (some ⟨bb, oo, none⟩) p cp)) rfl rfl (by kernel_rfl) (by kernel_rfl) (by kernel_rfl) (fun _ _ _ h => h) (by rfl) (by intro w' hSw; have h9 := HTO.out w'; go_simp) ?_
        try simp only [Act.put, List.setIfInBounds_toArray, List.set_cons_zero, List.set_cons_succ]
        refine regB_take (i := 7) (d := some 56) (v := (.bool pa)) rfl rfl (by kernel_rfl) (by kernel_rfl) (by kernel_rfl) (fun _ _ _ h => h) (by rfl) (by intro w' hSw; go_simp) ?_
        try simp only [Act.put, List.setIfInBounds_toArray, List.set_cons_zero, List.set_cons_succ]
        refine regB_two (i := 3) (j := 9) rfl rfl (by kernel_rfl) (by rfl) (by rfl) (fun K hK => ?_) (fun K hK => ?_)
        · go_simp
          refine (start_any A' n c' B' d' k b w0 _ LB_.out (Nat.le_of_lt kl)).mono ?_
          rintro e w3 ⟨A3, c3, B3, d3, rfl, la3, hb3⟩
          have hsy := hsz
          have hsz := Nat.le_trans hsz hb3.size
          have bW := bW.trans (hb3.mono hsy)
          have hr := hr.below hb3 hr.lt
          refine hK.out _ _ (hb3.mono hsy) ?_
          clear hK K
          try simp only [List.setIfInBounds_toArray, List.set_cons_zero, List.set_cons_succ]
          refine regB_two (i := 8) (j := 9) rfl rfl (by kernel_rfl) (by rfl) (by rfl) (fun K hK => ?_) (fun K hK => ?_)
          · go_simp
            refine (ih (fun j => T j ∨ (w.heap.size ≤ j ∧ j < _)) base A m c B d A3 k c3 B3 d3 a (b.take k) (some ⟨bb, oo, none⟩) p cp q0 pa one x' y' w0 _ HT0.out H0.out (HBL.out _ bW) (fun j hj => hj.elim (fun h => ⟨(HTT.out j h).1, Nat.lt_of_lt_of_le (HTT.out j h).2 (Nat.le_trans (Nat.le_add_right _ 2) hsz)⟩) fun h => ⟨Nat.le_trans HBZ.out h.1, h.2⟩) LA_.out la3 hsq.out HQ0.out hdq0 (by omega) hcp h1 hmk (by omega) HONE.out h32.out HR2.out).mono ?_
            rintro e w8 ⟨v1, v2, v3, rfl, ⟨o, p9, q, fs, gs, hs, co, hO, hP, hQ, lno, lnp, lnq⟩, hb8⟩
            have hrc := hr.lt
            have hsy := hsz
            have hsz := Nat.le_trans hsz hb8.size
            have bW := bW.trans (hb8.mono hsy)
            have hr := hr.below hb8 hr.lt
            have co := co.re (T' := (fun k => T k ∨ k = w.heap.size + 2)) (base' := w.heap.size + 2 + 1) (Nat.succ_le_of_lt hrc) (Below.refl _ _) (fun k hk => .inl (hk.elim .inl fun h => .inr (by rw [h]; exact ⟨Nat.le_add_right _ 2, hrc⟩)))
            refine hK.out _ _ (hb8.mono hsy) ?_
            clear hK K
            try simp only [List.setIfInBounds_toArray, List.set_cons_zero, List.set_cons_succ]
            refine regB_call (i := 9) rfl (by kernel_rfl) (by rfl) fun K hK => ?_
            go_simp
            have hb9 : Below w8.heap.size w8 (w8.alloc (.cells #[.string ⟨#[]⟩, .string ⟨#[]⟩, .slice none 0 0, .slice none 0 0, .slice none 0 0] 77)) := (Below.refl _ _).alloc (Nat.le_refl _) _
            have hg : At (w8.alloc (.cells #[.string ⟨#[]⟩, .string ⟨#[]⟩, .slice none 0 0, .slice none 0 0, .slice none 0 0] 77)) w8.heap.size 77 [.string ⟨#[]⟩, .string ⟨#[]⟩, .slice none 0 0, .slice none 0 0, .slice none 0 0] := At.new_ w8 _ 77 [.string ⟨#[]⟩, .string ⟨#[]⟩, .slice none 0 0, .slice none 0 0, .slice none 0 0] rfl
            have hgr : w.heap.size + 2 < w8.heap.size := hr.lt
            have hsy := hsz
            have hsz := Nat.le_trans hsz hb9.size
            have bW := bW.trans (hb9.mono hsy)
            have hr := hr.below hb9 hr.lt
            have co := co.re (T' := (fun k => T k ∨ k = w.heap.size + 2 ∨ k = w8.heap.size)) (Nat.le_refl _) hb9 (fun k hk => hk.elim (fun h => .inl (.inl h)) fun h => h.elim (fun h => .inl (.inr h)) fun h => .inr (Nat.le_of_eq h.symm))
            refine hK.out _ _ (hb9.mono hsy) ?_
            clear hK K
            try simp only [List.setIfInBounds_toArray, List.set_cons_zero, List.set_cons_succ]
            refine regB_call (i := 10) rfl (by kernel_rfl) (by rfl) fun K hK => ?_
            refine oper_storeB rfl 77 (.tmp 13) (.tmp 57) rfl courseTy (w8.heap.size) (by rfl) [.string x', .string y', v1, v2, v3] rfl 77 _ hg rfl rfl (five_one (own_val co.a1).1 (own_val co.a2).1 (own_val co.a3).1) ?_
            intro x10 hg10 o10
            have hr := o10.at_ hr (Nat.ne_of_lt hgr)
            have co := co.only o10 (.inr (.inr rfl)) hg course_ne
            have bW := o10.below _ _ bW (Nat.le_of_lt hgr)
            refine hK.out _ _ (o10.below _ _ (Below.refl _ _) (Nat.le_of_lt hgr)) ?_
            clear hK K
            try simp only [List.setIfInBounds_toArray, List.set_cons_zero, List.set_cons_succ]
            refine wpAnyH_done (by kernel_rfl) ?_ _
            go_wp2_with fail
            go_meet
            exact ⟨_, rfl, v1, v2, v3, o, p9, q, fs, gs, hs, hg10, hr, co, Lib.hid (hO.trans HOO.out), Lib.hid (hP.trans HPP.out), Lib.hid (hQ.trans HQQ.out), lno, lnp, lnq, hgr, bW⟩
          · go_simp
            have hb9 : Below w3.heap.size w3 (w3.alloc (.cells #[.string ⟨#[]⟩, .string ⟨#[]⟩, .slice none 0 0, .slice none 0 0, .slice none 0 0] 77)) := (Below.refl _ _).alloc (Nat.le_refl _) _
            have hg : At (w3.alloc (.cells #[.string ⟨#[]⟩, .string ⟨#[]⟩, .slice none 0 0, .slice none 0 0, .slice none 0 0] 77)) w3.heap.size 77 [.string ⟨#[]⟩, .string ⟨#[]⟩, .slice none 0 0, .slice none 0 0, .slice none 0 0] := At.new_ w3 _ 77 [.string ⟨#[]⟩, .string ⟨#[]⟩, .slice none 0 0, .slice none 0 0, .slice none 0 0] rfl
            have hgr : w.heap.size + 2 < w3.heap.size := hr.lt
            have hsy := hsz
            have hsz := Nat.le_trans hsz hb9.size
            have bW := bW.trans (hb9.mono hsy)
            have hr := hr.below hb9 hr.lt
            refine hK.out _ _ (hb9.mono hsy) ?_
            clear hK K
            try simp only [List.setIfInBounds_toArray, List.set_cons_zero, List.set_cons_succ]
            refine regB_call (i := 8) rfl (by kernel_rfl) (by rfl) fun K hK => ?_
            go_simp
            refine (ih (fun j => T j ∨ (w.heap.size ≤ j ∧ j < _)) base A m c B d A3 k c3 B3 d3 a (b.take k) (some ⟨bb, oo, none⟩) p cp q0 pa one x' y' w0 _ HT0.out H0.out (HBL.out _ bW) (fun j hj => hj.elim (fun h => ⟨(HTT.out j h).1, Nat.lt_of_lt_of_le (HTT.out j h).2 (Nat.le_trans (Nat.le_add_right _ 2) hsz)⟩) fun h => ⟨Nat.le_trans HBZ.out h.1, h.2⟩) LA_.out la3 hsq.out HQ0.out hdq0 (by omega) hcp h1 hmk (by omega) HONE.out h32.out HR2.out).mono ?_
            rintro e w8 ⟨v1, v2, v3, rfl, ⟨o, p9, q, fs, gs, hs, co, hO, hP, hQ, lno, lnp, lnq⟩, hb8⟩
            have hrc := hr.lt
            have hgc := hg.lt
            have hgr2 := hgr
            have hsy := hsz
            have hsz := Nat.le_trans hsz hb8.size
            have bW := bW.trans (hb8.mono hsy)
            have hr := hr.below hb8 hr.lt
            have hg := hg.below hb8 hg.lt
            have co := co.re (T' := (fun k => T k ∨ k = w.heap.size + 2 ∨ k = w3.heap.size)) (base' := w.heap.size + 2 + 1) (Nat.succ_le_of_lt hrc) (Below.refl _ _) (fun k hk => .inl (hk.elim .inl fun h => h.elim (fun h => .inr (by rw [h]; exact ⟨Nat.le_add_right _ 2, hrc⟩)) fun h => .inr (by rw [h]; exact ⟨Nat.le_trans (Nat.le_add_right _ 2) (Nat.le_of_lt hgr2), hgc⟩)))
            refine hK.out _ _ (hb8.mono hsy) ?_
            clear hK K
            try simp only [List.setIfInBounds_toArray, List.set_cons_zero, List.set_cons_succ]
            refine regB_call (i := 10) rfl (by kernel_rfl) (by rfl) fun K hK => ?_
            refine oper_storeB rfl 77 (.tmp 13) (.tmp 57) rfl courseTy (w3.heap.size) (by rfl) [.string x', .string y', v1, v2, v3] rfl 77 _ hg rfl rfl (five_one (own_val co.a1).1 (own_val co.a2).1 (own_val co.a3).1) ?_
            intro x10 hg10 o10
            have hr := o10.at_ hr (Nat.ne_of_lt hgr)
            have co := co.only o10 (.inr (.inr rfl)) hg course_ne
            have bW := o10.below _ _ bW (Nat.le_of_lt hgr)
            refine hK.out _ _ (o10.below _ _ (Below.refl _ _) (Nat.le_of_lt hgr)) ?_
            clear hK K
            try simp only [List.setIfInBounds_toArray, List.set_cons_zero, List.set_cons_succ]
            refine wpAnyH_done (by kernel_rfl) ?_ _
            go_wp2_with fail
            go_meet
            exact ⟨_, rfl, v1, v2, v3, o, p9, q, fs, gs, hs, hg10, hr, co, Lib.hid (hO.trans HOO.out), Lib.hid (hP.trans HPP.out), Lib.hid (hQ.trans HQQ.out), lno, lnp, lnq, hgr, bW⟩
        · go_simp
          have hb9 : Below w1.drew.heap.size w1.drew (w1.drew.alloc (.cells #[.string ⟨#[]⟩, .string ⟨#[]⟩, .slice none 0 0, .slice none 0 0, .slice none 0 0] 77)) := (Below.refl _ _).alloc (Nat.le_refl _) _
          have hg : At (w1.drew.alloc (.cells #[.string ⟨#[]⟩, .string ⟨#[]⟩, .slice none 0 0, .slice none 0 0, .slice none 0 0] 77)) w1.drew.heap.size 77 [.string ⟨#[]⟩, .string ⟨#[]⟩, .slice none 0 0, .slice none 0 0, .slice none 0 0] := At.new_ w1.drew _ 77 [.string ⟨#[]⟩, .string ⟨#[]⟩, .slice none 0 0, .slice none 0 0, .slice none 0 0] rfl
          have hgr : w.heap.size + 2 < w1.drew.heap.size := hr.lt
          have hsy := hsz
          have hsz := Nat.le_trans hsz hb9.size
          have bW := bW.trans (hb9.mono hsy)
          have hr := hr.below hb9 hr.lt
          refine hK.out _ _ (hb9.mono hsy) ?_
          clear hK K
          try simp only [List.setIfInBounds_toArray, List.set_cons_zero, List.set_cons_succ]
          refine regB_call (i := 3) rfl (by kernel_rfl) (by rfl) fun K hK => ?_
          go_simp
          refine (start_any A' n c' B' d' k b w0 _ LB_.out (Nat.le_of_lt kl)).mono ?_
          rintro e w3 ⟨A3, c3, B3, d3, rfl, la3, hb3⟩
          have hsy := hsz
          have hsz := Nat.le_trans hsz hb3.size
          have bW := bW.trans (hb3.mono hsy)
          have hr := hr.below hb3 hr.lt
          have hg := hg.below hb3 hg.lt
          refine hK.out _ _ (hb3.mono hsy) ?_
          clear hK K
          try simp only [List.setIfInBounds_toArray, List.set_cons_zero, List.set_cons_succ]
          refine regB_call (i := 8) rfl (by kernel_rfl) (by rfl) fun K hK => ?_
          go_simp
          refine (ih (fun j => T j ∨ (w.heap.size ≤ j ∧ j < _)) base A m c B d A3 k c3 B3 d3 a (b.take k) (some ⟨bb, oo, none⟩) p cp q0 pa one x' y' w0 _ HT0.out H0.out (HBL.out _ bW) (fun j hj => hj.elim (fun h => ⟨(HTT.out j h).1, Nat.lt_of_lt_of_le (HTT.out j h).2 (Nat.le_trans (Nat.le_add_right _ 2) hsz)⟩) fun h => ⟨Nat.le_trans HBZ.out h.1, h.2⟩) LA_.out la3 hsq.out HQ0.out hdq0 (by omega) hcp h1 hmk (by omega) HONE.out h32.out HR2.out).mono ?_
          rintro e w8 ⟨v1, v2, v3, rfl, ⟨o, p9, q, fs, gs, hs, co, hO, hP, hQ, lno, lnp, lnq⟩, hb8⟩
          have hrc := hr.lt
          have hgc := hg.lt
          have hgr2 := hgr
          have hsy := hsz
          have hsz := Nat.le_trans hsz hb8.size
          have bW := bW.trans (hb8.mono hsy)
          have hr := hr.below hb8 hr.lt
          have hg := hg.below hb8 hg.lt
          have co := co.re (T' := (fun k => T k ∨ k = w.heap.size + 2 ∨ k = w1.drew.heap.size)) (base' := w.heap.size + 2 + 1) (Nat.succ_le_of_lt hrc) (Below.refl _ _) (fun k hk => .inl (hk.elim .inl fun h => h.elim (fun h => .inr (by rw [h]; exact ⟨Nat.le_add_right _ 2, hrc⟩)) fun h => .inr (by rw [h]; exact ⟨Nat.le_trans (Nat.le_add_right _ 2) (Nat.le_of_lt hgr2), hgc⟩)))
          refine hK.out _ _ (hb8.mono hsy) ?_
          clear hK K
          try simp only [List.setIfInBounds_toArray, List.set_cons_zero, List.set_cons_succ]
          refine regB_call (i := 10) rfl (by kernel_rfl) (by rfl) fun K hK => ?_
          refine oper_storeB rfl 77 (.tmp 13) (.tmp 57) rfl courseTy (w1.drew.heap.size) (by rfl) [.string x', .string y', v1, v2, v3] rfl 77 _ hg rfl rfl (five_one (own_val co.a1).1 (own_val co.a2).1 (own_val co.a3).1) ?_
          intro x10 hg10 o10
          have hr := o10.at_ hr (Nat.ne_of_lt hgr)
          have co := co.only o10 (.inr (.inr rfl)) hg course_ne
          have bW := o10.below _ _ bW (Nat.le_of_lt hgr)
          refine hK.out _ _ (o10.below _ _ (Below.refl _ _) (Nat.le_of_lt hgr)) ?_
          clear hK K
          try simp only [List.setIfInBounds_toArray, List.set_cons_zero, List.set_cons_succ]
          refine wpAnyH_done (by kernel_rfl) ?_ _
          go_wp2_with fail
          go_meet
          exact ⟨_, rfl, v1, v2, v3, o, p9, q, fs, gs, hs, hg10, hr, co, Lib.hid (hO.trans HOO.out), Lib.hid (hP.trans HPP.out), Lib.hid (hQ.trans HQQ.out), lno, lnp, lnq, hgr, bW⟩
      case rest =>
        obtain ⟨g, rfl, hcs⟩ := hcut
        clear bW hr
        go_upto_region 10 with fail
        go_cut [] (fun wc => CS (fun k => T k ∨ k = w.heap.size + 2 ∨ k = g) (w.heap.size + 2) g x' y' (O1) (orE (btw sha (nb y' dd) tb) P1) (Q1) (3 * k + 1) Wz wc)
        case first =>
          obtain ⟨u, v, x, o, p, q, fs, gs, hs, hg, hr, co, hO, hP, hQ, lno, lnp, lnq, hrg, bW⟩ := hcs
          have HS := Lib.hid (co.into2 HBZ.out HTT.out hr.lt hrg hg.lt)
          have hz := Nat.le_refl wc.heap.size
          have hsz : w.heap.size + 2 ≤ wc.heap.size := Nat.le_of_lt hr.lt
          have hb0 : Below wc.heap.size wc wc.drew := (Below.refl _ _).drew
          have hg := hg.drew
          have hr := hr.drew
          have co := co.below hb0
          have bW := bW.drew
          clear hb0
          refine regB_begin (w.heap.size + 2) (by kernel_rfl) ?_
          change wpAnyH _ _ _ _ _ 13 #[false, false, false, false, false, false, false, false, false, false, false, false, false] _ _
          refine regB_take (i := 0) (d := some 58) (v := (.pointer (some ⟨g, 3, none⟩))) rfl rfl (by kernel_rfl) (by kernel_rfl) (by kernel_rfl) (fun _ _ _ h => h) (by rfl) (by intro w' hSw; go_simp) ?_
          try simp only [Act.put, List.setIfInBounds_toArray, List.set_cons_zero, List.set_cons_succ]
          refine regB_take (i := 2) (d := some 60) (v := (.pointer (some ⟨g, 1, none⟩))) rfl rfl (by kernel_rfl) (by kernel_rfl) (by kernel_rfl) (fun _ _ _ h => h) (by rfl) (by intro w' hSw; go_simp) ?_
          try simp only [Act.put, List.setIfInBounds_toArray, List.set_cons_zero, List.set_cons_succ]
          refine regB_take (i := 4) (d := some 62) (v := (.string dd)) rfl rfl (by kernel_rfl) (by kernel_rfl) (by kernel_rfl) (fun _ _ _ h => h) (by rfl) (by intro w' hSw; go_simp) ?_
          try simp only [Act.put, List.setIfInBounds_toArray, List.set_cons_zero, List.set_cons_succ]
          refine regB_take (i := 6) (d := some 64) (v := (.agg #[.slice A' n c', .slice B' n d'])) rfl rfl (by kernel_rfl) (by kernel_rfl) (by kernel_rfl) (fun _ _ _ h => h) (by rfl) (by intro w' hSw; have f0 := HB0.out w' (bW.trans hSw); have f1 := HB1.out w' (bW.trans hSw); go_simp) ?_
          try simp only [Act.put, List.setIfInBounds_toArray, List.set_cons_zero, List.set_cons_succ]
          refine regB_two (i := 1) (j := 3) rfl rfl (by kernel_rfl) (by rfl) (by rfl) (fun K hK => ?_) (fun K hK => ?_)
          · have f9 := hg.cell 3
            simp only [List.getElem?_cons_zero, List.getElem?_cons_succ] at f9
            refine oper_yields (d := some 59) (v := v) rfl (by go_simp) ?_
            refine hK.out _ _ (Below.refl _ _) ?_
            clear hK K
            try simp only [Act.put, List.setIfInBounds_toArray, List.set_cons_zero, List.set_cons_succ]
            refine regB_call (i := 3) rfl (by kernel_rfl) (by rfl) fun K hK => ?_
            have f9 := hg.cell 1
            simp only [List.getElem?_cons_zero, List.getElem?_cons_succ] at f9
            refine oper_yields (d := some 61) (v := (.string y')) rfl (by go_simp) ?_
            refine hK.out _ _ (Below.refl _ _) ?_
            clear hK K
            try simp only [Act.put, List.setIfInBounds_toArray, List.set_cons_zero, List.set_cons_succ]
            refine regB_call (i := 5) rfl (by kernel_rfl) (by rfl) fun K hK => ?_
            go_simp
            refine (SealW.nodeBytes_new y' dd _ (by rw [HY32.out]; omega) (by rw [HD32.out]; omega)).mono ?_
            rintro e w5 ⟨A5, c5, rfl, s5, k5, m5, n5, hb5⟩
            rw [HY32.out, HD32.out] at k5 ⊢
            have n5 := fun b o s e => Nat.le_trans hz (n5 b o s e)
            have hsy := hsz
            have hsz := Nat.le_trans hsz hb5.size
            have hz := Nat.le_trans hz hb5.size
            have bW := bW.trans (hb5.mono hsy)
            have hg := hg.below hb5 hg.lt
            have hr := hr.below hb5 hr.lt
            have co := co.below hb5
            refine hK.out _ _ (hb5.mono hsy) ?_
            clear hK K
            try simp only [List.setIfInBounds_toArray, List.set_cons_zero, List.set_cons_succ]
            refine regB_call (i := 7) rfl (by kernel_rfl) (by rfl) fun K hK => ?_
            go_simp
            refine (nodeL_any A' n c' B' d' b _ (HT.out _ bW) (HLB.out _ bW) HN2.out).mono ?_
            rintro e w7 ⟨A7, c7, rfl, s7, k7, m7, n7, hb7⟩
            rw [HTB.out] at s7
            have n7 := fun b o s e => Nat.le_trans hz (n7 b o s e)
            have s5 := s5.below hb7
            have hsy := hsz
            have hsz := Nat.le_trans hsz hb7.size
            have hz := Nat.le_trans hz hb7.size
            have bW := bW.trans (hb7.mono hsy)
            have hg := hg.below hb7 hg.lt
            have hr := hr.below hb7 hr.lt
            have co := co.below hb7
            refine hK.out _ _ (hb7.mono hsy) ?_
            clear hK K
            try simp only [List.setIfInBounds_toArray, List.set_cons_zero, List.set_cons_succ]
            refine regB_call (i := 8) rfl (by kernel_rfl) (by rfl) fun K hK => ?_
            go_simp
            refine (fv_of (pair_any (S3 (fun k => T k ∨ k = w.heap.size + 2 ∨ k = g) u v x) base A5 (32 + 32 + 1) c5 (1 :: (y'.data.toList ++ dd.data.toList)) A7 65 c7 tb w0 _ HT0.out H0.out (HBL.out _ bW) (fun k hk => ⟨(HS.out k hk).1, Nat.lt_of_lt_of_le (HS.out k hk).2 hz⟩) (by rw [List.length_cons, List.length_append, bsize, bsize, HY32.out, HD32.out]) s5 HTLB.out s7 (by omega) (by omega) k5 m5 k7 m7 (fun b o s h hk => Nat.not_le_of_lt (HS.out _ hk).2 (n5 b o s h)) (fun b o s h hk => Nat.not_le_of_lt (HS.out _ hk).2 (n7 b o s h)))).mono ?_
            rintro e w8 ⟨N8, p8, q8, rfl, f8, hb8⟩
            have hsy := hsz
            have hsz := Nat.le_trans hsz hb8.size
            have hz := Nat.le_trans hz hb8.size
            have bW := bW.trans (hb8.mono hsy)
            have hg := hg.below hb8 hg.lt
            have hr := hr.below hb8 hr.lt
            have co := co.below hb8
            refine hK.out _ _ (hb8.mono hsy) ?_
            clear hK K
            try simp only [List.setIfInBounds_toArray, List.set_cons_zero, List.set_cons_succ]
            refine regB_call (i := 9) rfl (by kernel_rfl) (by rfl) fun K hK => ?_
            go_simp
            have hb9 : Below w8.heap.size w8 (w8.alloc (.cells #[(.func (.func N8) #[] #[.pointer (some ⟨p8, 0, none⟩), .pointer (some ⟨q8, 0, none⟩)])] 70)) := (Below.refl _ _).alloc (Nat.le_refl _) _
            have ka : At (w8.alloc (.cells #[(.func (.func N8) #[] #[.pointer (some ⟨p8, 0, none⟩), .pointer (some ⟨q8, 0, none⟩)])] 70)) w8.heap.size 70 [(.func (.func N8) #[] #[.pointer (some ⟨p8, 0, none⟩), .pointer (some ⟨q8, 0, none⟩)])] := At.new_ w8 _ 70 [(.func (.func N8) #[] #[.pointer (some ⟨p8, 0, none⟩), .pointer (some ⟨q8, 0, none⟩)])] rfl
            have hno : v.ownBlock ≠ some w8.heap.size := fun e => Nat.lt_irrefl _ (co.a2.lt _ e).2
            have hsy := hsz
            have hsz := Nat.le_trans hsz hb9.size
            have hz := Nat.le_trans hz hb9.size
            have bW := bW.trans (hb9.mono hsy)
            have hg := hg.below hb9 hg.lt
            have hr := hr.below hb9 hr.lt
            have co := co.below hb9
            have f8 := f8.below hb9
            refine hK.out _ _ (hb9.mono hsy) ?_
            clear hK K
            try simp only [List.setIfInBounds_toArray, List.set_cons_zero, List.set_cons_succ]
            refine regB_call (i := 10) rfl (by kernel_rfl) (by rfl) fun K hK => ?_
            go_simp
            refine (insert_any (w.heap.size + 2 + 1) p.length v w8.heap.size (.func (.func N8) #[] #[.pointer (some ⟨p8, 0, none⟩), .pointer (some ⟨q8, 0, none⟩)]) gs _ co.a2 (Nat.le_trans (Nat.succ_le_of_lt hrg) (Nat.le_of_lt hg.lt)) ka hno rfl co.f2.one (by omega)).mono ?_
            rintro e w10 ⟨z, rfl, hown, hgrw, hblk⟩
            have hg10 := grown_at hgrw co.a2 hg course_ne
            have hr10 := grown_at hgrw co.a2 hr course_ne
            have hb10 : Below (w.heap.size + 2) _ w10 := (Below.refl _ _).grown hgrw hsz (fun k hk => Nat.le_of_succ_le (co.a2.lt k hk).1)
            have co := co.ins2 hown hgrw hblk f8
            have bW := bW.trans hb10
            clear hg hr
            refine hK.out _ _ hb10 ?_
            clear hK K
            try simp only [List.setIfInBounds_toArray, List.set_cons_zero, List.set_cons_succ]
            refine regB_take (i := 11) (d := some 69) (v := (.pointer (some ⟨g, 3, none⟩))) rfl rfl (by kernel_rfl) (by kernel_rfl) (by kernel_rfl) (fun _ _ _ h => h) (by rfl) (by intro w' hSw; go_simp) ?_
            try simp only [Act.put, List.setIfInBounds_toArray, List.set_cons_zero, List.set_cons_succ]
            refine regB_call (i := 12) rfl (by kernel_rfl) (by rfl) fun K hK => ?_
            refine oper_storeC rfl 59 (.tmp 69) (.tmp 68) rfl g 3 rfl z rfl (own_val co.a2).2 77 _ hg10 (by kernel_rfl) (by simp) (own_val co.a2).1 ?_
            intro x12 hg12 o12
            have hr := o12.at_ hr10 (Nat.ne_of_lt hrg)
            have co := co.only o12 (.inr (.inr rfl)) hg10 course_ne
            have bW := o12.below _ _ bW (Nat.le_of_lt hrg)
            simp only [List.set_cons_zero, List.set_cons_succ] at hg12
            refine hK.out _ _ (o12.below _ _ (Below.refl _ _) (Nat.le_of_lt hrg)) ?_
            clear hK K
            try simp only [List.setIfInBounds_toArray, List.set_cons_zero, List.set_cons_succ]
            refine wpAnyH_done (by kernel_rfl) ?_ _
            go_wp2_with fail
            go_meet
            exact ⟨u, z, x, o, _ :: p, q, fs, _ :: gs, hs, hg12, hr, co, hO, Lib.hid (by show orE _ (fo p) = _; rw [hP.out]; rfl), hQ, by omega, by simp only [List.length_cons]; omega, by omega, hrg, bW⟩
          · have f9 := hg.cell 1
            simp only [List.getElem?_cons_zero, List.getElem?_cons_succ] at f9
            refine oper_yields (d := some 61) (v := (.string y')) rfl (by go_simp) ?_
            refine hK.out _ _ (Below.refl _ _) ?_
            clear hK K
            try simp only [Act.put, List.setIfInBounds_toArray, List.set_cons_zero, List.set_cons_succ]
            refine regB_two (i := 1) (j := 5) rfl rfl (by kernel_rfl) (by rfl) (by rfl) (fun K hK => ?_) (fun K hK => ?_)
            · have f9 := hg.cell 3
              simp only [List.getElem?_cons_zero, List.getElem?_cons_succ] at f9
              refine oper_yields (d := some 59) (v := v) rfl (by go_simp) ?_
              refine hK.out _ _ (Below.refl _ _) ?_
              clear hK K
              try simp only [Act.put, List.setIfInBounds_toArray, List.set_cons_zero, List.set_cons_succ]
              refine regB_call (i := 5) rfl (by kernel_rfl) (by rfl) fun K hK => ?_
              go_simp
              refine (SealW.nodeBytes_new y' dd _ (by rw [HY32.out]; omega) (by rw [HD32.out]; omega)).mono ?_
              rintro e w5 ⟨A5, c5, rfl, s5, k5, m5, n5, hb5⟩
              rw [HY32.out, HD32.out] at k5 ⊢
              have n5 := fun b o s e => Nat.le_trans hz (n5 b o s e)
              have hsy := hsz
              have hsz := Nat.le_trans hsz hb5.size
              have hz := Nat.le_trans hz hb5.size
              have bW := bW.trans (hb5.mono hsy)
              have hg := hg.below hb5 hg.lt
              have hr := hr.below hb5 hr.lt
              have co := co.below hb5
              refine hK.out _ _ (hb5.mono hsy) ?_
              clear hK K
              try simp only [List.setIfInBounds_toArray, List.set_cons_zero, List.set_cons_succ]
              refine regB_call (i := 7) rfl (by kernel_rfl) (by rfl) fun K hK => ?_
              go_simp
              refine (nodeL_any A' n c' B' d' b _ (HT.out _ bW) (HLB.out _ bW) HN2.out).mono ?_
              rintro e w7 ⟨A7, c7, rfl, s7, k7, m7, n7, hb7⟩
              rw [HTB.out] at s7
              have n7 := fun b o s e => Nat.le_trans hz (n7 b o s e)
              have s5 := s5.below hb7
              have hsy := hsz
              have hsz := Nat.le_trans hsz hb7.size
              have hz := Nat.le_trans hz hb7.size
              have bW := bW.trans (hb7.mono hsy)
              have hg := hg.below hb7 hg.lt
              have hr := hr.below hb7 hr.lt
              have co := co.below hb7
              refine hK.out _ _ (hb7.mono hsy) ?_
              clear hK K
              try simp only [List.setIfInBounds_toArray, List.set_cons_zero, List.set_cons_succ]
              refine regB_call (i := 8) rfl (by kernel_rfl) (by rfl) fun K hK => ?_
              go_simp
              refine (fv_of (pair_any (S3 (fun k => T k ∨ k = w.heap.size + 2 ∨ k = g) u v x) base A5 (32 + 32 + 1) c5 (1 :: (y'.data.toList ++ dd.data.toList)) A7 65 c7 tb w0 _ HT0.out H0.out (HBL.out _ bW) (fun k hk => ⟨(HS.out k hk).1, Nat.lt_of_lt_of_le (HS.out k hk).2 hz⟩) (by rw [List.length_cons, List.length_append, bsize, bsize, HY32.out, HD32.out]) s5 HTLB.out s7 (by omega) (by omega) k5 m5 k7 m7 (fun b o s h hk => Nat.not_le_of_lt (HS.out _ hk).2 (n5 b o s h)) (fun b o s h hk => Nat.not_le_of_lt (HS.out _ hk).2 (n7 b o s h)))).mono ?_
              rintro e w8 ⟨N8, p8, q8, rfl, f8, hb8⟩
              have hsy := hsz
              have hsz := Nat.le_trans hsz hb8.size
              have hz := Nat.le_trans hz hb8.size
              have bW := bW.trans (hb8.mono hsy)
              have hg := hg.below hb8 hg.lt
              have hr := hr.below hb8 hr.lt
              have co := co.below hb8
              refine hK.out _ _ (hb8.mono hsy) ?_
              clear hK K
              try simp only [List.setIfInBounds_toArray, List.set_cons_zero, List.set_cons_succ]
              refine regB_call (i := 9) rfl (by kernel_rfl) (by rfl) fun K hK => ?_
              go_simp
              have hb9 : Below w8.heap.size w8 (w8.alloc (.cells #[(.func (.func N8) #[] #[.pointer (some ⟨p8, 0, none⟩), .pointer (some ⟨q8, 0, none⟩)])] 70)) := (Below.refl _ _).alloc (Nat.le_refl _) _
              have ka : At (w8.alloc (.cells #[(.func (.func N8) #[] #[.pointer (some ⟨p8, 0, none⟩), .pointer (some ⟨q8, 0, none⟩)])] 70)) w8.heap.size 70 [(.func (.func N8) #[] #[.pointer (some ⟨p8, 0, none⟩), .pointer (some ⟨q8, 0, none⟩)])] := At.new_ w8 _ 70 [(.func (.func N8) #[] #[.pointer (some ⟨p8, 0, none⟩), .pointer (some ⟨q8, 0, none⟩)])] rfl
              have hno : v.ownBlock ≠ some w8.heap.size := fun e => Nat.lt_irrefl _ (co.a2.lt _ e).2
              have hsy := hsz
              have hsz := Nat.le_trans hsz hb9.size
              have hz := Nat.le_trans hz hb9.size
              have bW := bW.trans (hb9.mono hsy)
              have hg := hg.below hb9 hg.lt
              have hr := hr.below hb9 hr.lt
              have co := co.below hb9
              have f8 := f8.below hb9
              refine hK.out _ _ (hb9.mono hsy) ?_
              clear hK K
              try simp only [List.setIfInBounds_toArray, List.set_cons_zero, List.set_cons_succ]
              refine regB_call (i := 10) rfl (by kernel_rfl) (by rfl) fun K hK => ?_
              go_simp
              refine (insert_any (w.heap.size + 2 + 1) p.length v w8.heap.size (.func (.func N8) #[] #[.pointer (some ⟨p8, 0, none⟩), .pointer (some ⟨q8, 0, none⟩)]) gs _ co.a2 (Nat.le_trans (Nat.succ_le_of_lt hrg) (Nat.le_of_lt hg.lt)) ka hno rfl co.f2.one (by omega)).mono ?_
              rintro e w10 ⟨z, rfl, hown, hgrw, hblk⟩
              have hg10 := grown_at hgrw co.a2 hg course_ne
              have hr10 := grown_at hgrw co.a2 hr course_ne
              have hb10 : Below (w.heap.size + 2) _ w10 := (Below.refl _ _).grown hgrw hsz (fun k hk => Nat.le_of_succ_le (co.a2.lt k hk).1)
              have co := co.ins2 hown hgrw hblk f8
              have bW := bW.trans hb10
              clear hg hr
              refine hK.out _ _ hb10 ?_
              clear hK K
              try simp only [List.setIfInBounds_toArray, List.set_cons_zero, List.set_cons_succ]
              refine regB_take (i := 11) (d := some 69) (v := (.pointer (some ⟨g, 3, none⟩))) rfl rfl (by kernel_rfl) (by kernel_rfl) (by kernel_rfl) (fun _ _ _ h => h) (by rfl) (by intro w' hSw; go_simp) ?_
              try simp only [Act.put, List.setIfInBounds_toArray, List.set_cons_zero, List.set_cons_succ]
              refine regB_call (i := 12) rfl (by kernel_rfl) (by rfl) fun K hK => ?_
              refine oper_storeC rfl 59 (.tmp 69) (.tmp 68) rfl g 3 rfl z rfl (own_val co.a2).2 77 _ hg10 (by kernel_rfl) (by simp) (own_val co.a2).1 ?_
              intro x12 hg12 o12
              have hr := o12.at_ hr10 (Nat.ne_of_lt hrg)
              have co := co.only o12 (.inr (.inr rfl)) hg10 course_ne
              have bW := o12.below _ _ bW (Nat.le_of_lt hrg)
              simp only [List.set_cons_zero, List.set_cons_succ] at hg12
              refine hK.out _ _ (o12.below _ _ (Below.refl _ _) (Nat.le_of_lt hrg)) ?_
              clear hK K
              try simp only [List.setIfInBounds_toArray, List.set_cons_zero, List.set_cons_succ]
              refine wpAnyH_done (by kernel_rfl) ?_ _
              go_wp2_with fail
              go_meet
              exact ⟨u, z, x, o, _ :: p, q, fs, _ :: gs, hs, hg12, hr, co, hO, Lib.hid (by show orE _ (fo p) = _; rw [hP.out]; rfl), hQ, by omega, by simp only [List.length_cons]; omega, by omega, hrg, bW⟩
            · go_simp
              refine (SealW.nodeBytes_new y' dd _ (by rw [HY32.out]; omega) (by rw [HD32.out]; omega)).mono ?_
              rintro e w5 ⟨A5, c5, rfl, s5, k5, m5, n5, hb5⟩
              rw [HY32.out, HD32.out] at k5 ⊢
              have n5 := fun b o s e => Nat.le_trans hz (n5 b o s e)
              have hsy := hsz
              have hsz := Nat.le_trans hsz hb5.size
              have hz := Nat.le_trans hz hb5.size
              have bW := bW.trans (hb5.mono hsy)
              have hg := hg.below hb5 hg.lt
              have hr := hr.below hb5 hr.lt
              have co := co.below hb5
              refine hK.out _ _ (hb5.mono hsy) ?_
              clear hK K
              try simp only [List.setIfInBounds_toArray, List.set_cons_zero, List.set_cons_succ]
              refine regB_two (i := 1) (j := 7) rfl rfl (by kernel_rfl) (by rfl) (by rfl) (fun K hK => ?_) (fun K hK => ?_)
              · have f9 := hg.cell 3
                simp only [List.getElem?_cons_zero, List.getElem?_cons_succ] at f9
                refine oper_yields (d := some 59) (v := v) rfl (by go_simp) ?_
                refine hK.out _ _ (Below.refl _ _) ?_
                clear hK K
                try simp only [Act.put, List.setIfInBounds_toArray, List.set_cons_zero, List.set_cons_succ]
                refine regB_call (i := 7) rfl (by kernel_rfl) (by rfl) fun K hK => ?_
                go_simp
                refine (nodeL_any A' n c' B' d' b _ (HT.out _ bW) (HLB.out _ bW) HN2.out).mono ?_
                rintro e w7 ⟨A7, c7, rfl, s7, k7, m7, n7, hb7⟩
                rw [HTB.out] at s7
                have n7 := fun b o s e => Nat.le_trans hz (n7 b o s e)
                have s5 := s5.below hb7
                have hsy := hsz
                have hsz := Nat.le_trans hsz hb7.size
                have hz := Nat.le_trans hz hb7.size
                have bW := bW.trans (hb7.mono hsy)
                have hg := hg.below hb7 hg.lt
                have hr := hr.below hb7 hr.lt
                have co := co.below hb7
                refine hK.out _ _ (hb7.mono hsy) ?_
                clear hK K
                try simp only [List.setIfInBounds_toArray, List.set_cons_zero, List.set_cons_succ]
                refine regB_call (i := 8) rfl (by kernel_rfl) (by rfl) fun K hK => ?_
                go_simp
                refine (fv_of (pair_any (S3 (fun k => T k ∨ k = w.heap.size + 2 ∨ k = g) u v x) base A5 (32 + 32 + 1) c5 (1 :: (y'.data.toList ++ dd.data.toList)) A7 65 c7 tb w0 _ HT0.out H0.out (HBL.out _ bW) (fun k hk => ⟨(HS.out k hk).1, Nat.lt_of_lt_of_le (HS.out k hk).2 hz⟩) (by rw [List.length_cons, List.length_append, bsize, bsize, HY32.out, HD32.out]) s5 HTLB.out s7 (by omega) (by omega) k5 m5 k7 m7 (fun b o s h hk => Nat.not_le_of_lt (HS.out _ hk).2 (n5 b o s h)) (fun b o s h hk => Nat.not_le_of_lt (HS.out _ hk).2 (n7 b o s h)))).mono ?_
                rintro e w8 ⟨N8, p8, q8, rfl, f8, hb8⟩
                have hsy := hsz
                have hsz := Nat.le_trans hsz hb8.size
                have hz := Nat.le_trans hz hb8.size
                have bW := bW.trans (hb8.mono hsy)
                have hg := hg.below hb8 hg.lt
                have hr := hr.below hb8 hr.lt
                have co := co.below hb8
                refine hK.out _ _ (hb8.mono hsy) ?_
                clear hK K
                try simp only [List.setIfInBounds_toArray, List.set_cons_zero, List.set_cons_succ]
                refine regB_call (i := 9) rfl (by kernel_rfl) (by rfl) fun K hK => ?_
                go_simp
                have hb9 : Below w8.heap.size w8 (w8.alloc (.cells #[(.func (.func N8) #[] #[.pointer (some ⟨p8, 0, none⟩), .pointer (some ⟨q8, 0, none⟩)])] 70)) := (Below.refl _ _).alloc (Nat.le_refl _) _
                have ka : At (w8.alloc (.cells #[(.func (.func N8) #[] #[.pointer (some ⟨p8, 0, none⟩), .pointer (some ⟨q8, 0, none⟩)])] 70)) w8.heap.size 70 [(.func (.func N8) #[] #[.pointer (some ⟨p8, 0, none⟩), .pointer (some ⟨q8, 0, none⟩)])] := At.new_ w8 _ 70 [(.func (.func N8) #[] #[.pointer (some ⟨p8, 0, none⟩), .pointer (some ⟨q8, 0, none⟩)])] rfl
                have hno : v.ownBlock ≠ some w8.heap.size := fun e => Nat.lt_irrefl _ (co.a2.lt _ e).2
                have hsy := hsz
                have hsz := Nat.le_trans hsz hb9.size
                have hz := Nat.le_trans hz hb9.size
                have bW := bW.trans (hb9.mono hsy)
                have hg := hg.below hb9 hg.lt
                have hr := hr.below hb9 hr.lt
                have co := co.below hb9
                have f8 := f8.below hb9
                refine hK.out _ _ (hb9.mono hsy) ?_
                clear hK K
                try simp only [List.setIfInBounds_toArray, List.set_cons_zero, List.set_cons_succ]
                refine regB_call (i := 10) rfl (by kernel_rfl) (by rfl) fun K hK => ?_
                go_simp
                refine (insert_any (w.heap.size + 2 + 1) p.length v w8.heap.size (.func (.func N8) #[] #[.pointer (some ⟨p8, 0, none⟩), .pointer (some ⟨q8, 0, none⟩)]) gs _ co.a2 (Nat.le_trans (Nat.succ_le_of_lt hrg) (Nat.le_of_lt hg.lt)) ka hno rfl co.f2.one (by omega)).mono ?_
                rintro e w10 ⟨z, rfl, hown, hgrw, hblk⟩
                have hg10 := grown_at hgrw co.a2 hg course_ne
                have hr10 := grown_at hgrw co.a2 hr course_ne
                have hb10 : Below (w.heap.size + 2) _ w10 := (Below.refl _ _).grown hgrw hsz (fun k hk => Nat.le_of_succ_le (co.a2.lt k hk).1)
                have co := co.ins2 hown hgrw hblk f8
                have bW := bW.trans hb10
                clear hg hr
                refine hK.out _ _ hb10 ?_
                clear hK K
                try simp only [List.setIfInBounds_toArray, List.set_cons_zero, List.set_cons_succ]
                refine regB_take (i := 11) (d := some 69) (v := (.pointer (some ⟨g, 3, none⟩))) rfl rfl (by kernel_rfl) (by kernel_rfl) (by kernel_rfl) (fun _ _ _ h => h) (by rfl) (by intro w' hSw; go_simp) ?_
                try simp only [Act.put, List.setIfInBounds_toArray, List.set_cons_zero, List.set_cons_succ]
                refine regB_call (i := 12) rfl (by kernel_rfl) (by rfl) fun K hK => ?_
                refine oper_storeC rfl 59 (.tmp 69) (.tmp 68) rfl g 3 rfl z rfl (own_val co.a2).2 77 _ hg10 (by kernel_rfl) (by simp) (own_val co.a2).1 ?_
                intro x12 hg12 o12
                have hr := o12.at_ hr10 (Nat.ne_of_lt hrg)
                have co := co.only o12 (.inr (.inr rfl)) hg10 course_ne
                have bW := o12.below _ _ bW (Nat.le_of_lt hrg)
                simp only [List.set_cons_zero, List.set_cons_succ] at hg12
                refine hK.out _ _ (o12.below _ _ (Below.refl _ _) (Nat.le_of_lt hrg)) ?_
                clear hK K
                try simp only [List.setIfInBounds_toArray, List.set_cons_zero, List.set_cons_succ]
                refine wpAnyH_done (by kernel_rfl) ?_ _
                go_wp2_with fail
                go_meet
                exact ⟨u, z, x, o, _ :: p, q, fs, _ :: gs, hs, hg12, hr, co, hO, Lib.hid (by show orE _ (fo p) = _; rw [hP.out]; rfl), hQ, by omega, by simp only [List.length_cons]; omega, by omega, hrg, bW⟩
              · go_simp
                refine (nodeL_any A' n c' B' d' b _ (HT.out _ bW) (HLB.out _ bW) HN2.out).mono ?_
                rintro e w7 ⟨A7, c7, rfl, s7, k7, m7, n7, hb7⟩
                rw [HTB.out] at s7
                have n7 := fun b o s e => Nat.le_trans hz (n7 b o s e)
                have s5 := s5.below hb7
                have hsy := hsz
                have hsz := Nat.le_trans hsz hb7.size
                have hz := Nat.le_trans hz hb7.size
                have bW := bW.trans (hb7.mono hsy)
                have hg := hg.below hb7 hg.lt
                have hr := hr.below hb7 hr.lt
                have co := co.below hb7
                refine hK.out _ _ (hb7.mono hsy) ?_
                clear hK K
                try simp only [List.setIfInBounds_toArray, List.set_cons_zero, List.set_cons_succ]
                refine regB_two (i := 1) (j := 8) rfl rfl (by kernel_rfl) (by rfl) (by rfl) (fun K hK => ?_) (fun K hK => ?_)
                · have f9 := hg.cell 3
                  simp only [List.getElem?_cons_zero, List.getElem?_cons_succ] at f9
                  refine oper_yields (d := some 59) (v := v) rfl (by go_simp) ?_
                  refine hK.out _ _ (Below.refl _ _) ?_
                  clear hK K
                  try simp only [Act.put, List.setIfInBounds_toArray, List.set_cons_zero, List.set_cons_succ]
                  refine regB_call (i := 8) rfl (by kernel_rfl) (by rfl) fun K hK => ?_
                  go_simp
                  refine (fv_of (pair_any (S3 (fun k => T k ∨ k = w.heap.size + 2 ∨ k = g) u v x) base A5 (32 + 32 + 1) c5 (1 :: (y'.data.toList ++ dd.data.toList)) A7 65 c7 tb w0 _ HT0.out H0.out (HBL.out _ bW) (fun k hk => ⟨(HS.out k hk).1, Nat.lt_of_lt_of_le (HS.out k hk).2 hz⟩) (by rw [List.length_cons, List.length_append, bsize, bsize, HY32.out, HD32.out]) s5 HTLB.out s7 (by omega) (by omega) k5 m5 k7 m7 (fun b o s h hk => Nat.not_le_of_lt (HS.out _ hk).2 (n5 b o s h)) (fun b o s h hk => Nat.not_le_of_lt (HS.out _ hk).2 (n7 b o s h)))).mono ?_
                  rintro e w8 ⟨N8, p8, q8, rfl, f8, hb8⟩
                  have hsy := hsz
                  have hsz := Nat.le_trans hsz hb8.size
                  have hz := Nat.le_trans hz hb8.size
                  have bW := bW.trans (hb8.mono hsy)
                  have hg := hg.below hb8 hg.lt
                  have hr := hr.below hb8 hr.lt
                  have co := co.below hb8
                  refine hK.out _ _ (hb8.mono hsy) ?_
                  clear hK K
                  try simp only [List.setIfInBounds_toArray, List.set_cons_zero, List.set_cons_succ]
                  refine regB_call (i := 9) rfl (by kernel_rfl) (by rfl) fun K hK => ?_
                  go_simp
                  have hb9 : Below w8.heap.size w8 (w8.alloc (.cells #[(.func (.func N8) #[] #[.pointer (some ⟨p8, 0, none⟩), .pointer (some ⟨q8, 0, none⟩)])] 70)) := (Below.refl _ _).alloc (Nat.le_refl _) _
                  have ka : At (w8.alloc (.cells #[(.func (.func N8) #[] #[.pointer (some ⟨p8, 0, none⟩), .pointer (some ⟨q8, 0, none⟩)])] 70)) w8.heap.size 70 [(.func (.func N8) #[] #[.pointer (some ⟨p8, 0, none⟩), .pointer (some ⟨q8, 0, none⟩)])] := At.new_ w8 _ 70 [(.func (.func N8) #[] #[.pointer (some ⟨p8, 0, none⟩), .pointer (some ⟨q8, 0, none⟩)])] rfl
                  have hno : v.ownBlock ≠ some w8.heap.size := fun e => Nat.lt_irrefl _ (co.a2.lt _ e).2
                  have hsy := hsz
                  have hsz := Nat.le_trans hsz hb9.size
                  have hz := Nat.le_trans hz hb9.size
                  have bW := bW.trans (hb9.mono hsy)
                  have hg := hg.below hb9 hg.lt
                  have hr := hr.below hb9 hr.lt
                  have co := co.below hb9
                  have f8 := f8.below hb9
                  refine hK.out _ _ (hb9.mono hsy) ?_
                  clear hK K
                  try simp only [List.setIfInBounds_toArray, List.set_cons_zero, List.set_cons_succ]
                  refine regB_call (i := 10) rfl (by kernel_rfl) (by rfl) fun K hK => ?_
                  go_simp
                  refine (insert_any (w.heap.size + 2 + 1) p.length v w8.heap.size (.func (.func N8) #[] #[.pointer (some ⟨p8, 0, none⟩), .pointer (some ⟨q8, 0, none⟩)]) gs _ co.a2 (Nat.le_trans (Nat.succ_le_of_lt hrg) (Nat.le_of_lt hg.lt)) ka hno rfl co.f2.one (by omega)).mono ?_
                  rintro e w10 ⟨z, rfl, hown, hgrw, hblk⟩
                  have hg10 := grown_at hgrw co.a2 hg course_ne
                  have hr10 := grown_at hgrw co.a2 hr course_ne
                  have hb10 : Below (w.heap.size + 2) _ w10 := (Below.refl _ _).grown hgrw hsz (fun k hk => Nat.le_of_succ_le (co.a2.lt k hk).1)
                  have co := co.ins2 hown hgrw hblk f8
                  have bW := bW.trans hb10
                  clear hg hr
                  refine hK.out _ _ hb10 ?_
                  clear hK K
                  try simp only [List.setIfInBounds_toArray, List.set_cons_zero, List.set_cons_succ]
                  refine regB_take (i := 11) (d := some 69) (v := (.pointer (some ⟨g, 3, none⟩))) rfl rfl (by kernel_rfl) (by kernel_rfl) (by kernel_rfl) (fun _ _ _ h => h) (by rfl) (by intro w' hSw; go_simp) ?_
                  try simp only [Act.put, List.setIfInBounds_toArray, List.set_cons_zero, List.set_cons_succ]
                  refine regB_call (i := 12) rfl (by kernel_rfl) (by rfl) fun K hK => ?_
                  refine oper_storeC rfl 59 (.tmp 69) (.tmp 68) rfl g 3 rfl z rfl (own_val co.a2).2 77 _ hg10 (by kernel_rfl) (by simp) (own_val co.a2).1 ?_
                  intro x12 hg12 o12
                  have hr := o12.at_ hr10 (Nat.ne_of_lt hrg)
                  have co := co.only o12 (.inr (.inr rfl)) hg10 course_ne
                  have bW := o12.below _ _ bW (Nat.le_of_lt hrg)
                  simp only [List.set_cons_zero, List.set_cons_succ] at hg12
                  refine hK.out _ _ (o12.below _ _ (Below.refl _ _) (Nat.le_of_lt hrg)) ?_
                  clear hK K
                  try simp only [List.setIfInBounds_toArray, List.set_cons_zero, List.set_cons_succ]
                  refine wpAnyH_done (by kernel_rfl) ?_ _
                  go_wp2_with fail
                  go_meet
                  exact ⟨u, z, x, o, _ :: p, q, fs, _ :: gs, hs, hg12, hr, co, hO, Lib.hid (by show orE _ (fo p) = _; rw [hP.out]; rfl), hQ, by omega, by simp only [List.length_cons]; omega, by omega, hrg, bW⟩
                · go_simp
                  refine (fv_of (pair_any (S3 (fun k => T k ∨ k = w.heap.size + 2 ∨ k = g) u v x) base A5 (32 + 32 + 1) c5 (1 :: (y'.data.toList ++ dd.data.toList)) A7 65 c7 tb w0 _ HT0.out H0.out (HBL.out _ bW) (fun k hk => ⟨(HS.out k hk).1, Nat.lt_of_lt_of_le (HS.out k hk).2 hz⟩) (by rw [List.length_cons, List.length_append, bsize, bsize, HY32.out, HD32.out]) s5 HTLB.out s7 (by omega) (by omega) k5 m5 k7 m7 (fun b o s h hk => Nat.not_le_of_lt (HS.out _ hk).2 (n5 b o s h)) (fun b o s h hk => Nat.not_le_of_lt (HS.out _ hk).2 (n7 b o s h)))).mono ?_
                  rintro e w8 ⟨N8, p8, q8, rfl, f8, hb8⟩
                  have hsy := hsz
                  have hsz := Nat.le_trans hsz hb8.size
                  have hz := Nat.le_trans hz hb8.size
                  have bW := bW.trans (hb8.mono hsy)
                  have hg := hg.below hb8 hg.lt
                  have hr := hr.below hb8 hr.lt
                  have co := co.below hb8
                  refine hK.out _ _ (hb8.mono hsy) ?_
                  clear hK K
                  try simp only [List.setIfInBounds_toArray, List.set_cons_zero, List.set_cons_succ]
                  refine regB_two (i := 1) (j := 9) rfl rfl (by kernel_rfl) (by rfl) (by rfl) (fun K hK => ?_) (fun K hK => ?_)
                  · have f9 := hg.cell 3
                    simp only [List.getElem?_cons_zero, List.getElem?_cons_succ] at f9
                    refine oper_yields (d := some 59) (v := v) rfl (by go_simp) ?_
                    refine hK.out _ _ (Below.refl _ _) ?_
                    clear hK K
                    try simp only [Act.put, List.setIfInBounds_toArray, List.set_cons_zero, List.set_cons_succ]
                    refine regB_call (i := 9) rfl (by kernel_rfl) (by rfl) fun K hK => ?_
                    go_simp
                    have hb9 : Below w8.heap.size w8 (w8.alloc (.cells #[(.func (.func N8) #[] #[.pointer (some ⟨p8, 0, none⟩), .pointer (some ⟨q8, 0, none⟩)])] 70)) := (Below.refl _ _).alloc (Nat.le_refl _) _
                    have ka : At (w8.alloc (.cells #[(.func (.func N8) #[] #[.pointer (some ⟨p8, 0, none⟩), .pointer (some ⟨q8, 0, none⟩)])] 70)) w8.heap.size 70 [(.func (.func N8) #[] #[.pointer (some ⟨p8, 0, none⟩), .pointer (some ⟨q8, 0, none⟩)])] := At.new_ w8 _ 70 [(.func (.func N8) #[] #[.pointer (some ⟨p8, 0, none⟩), .pointer (some ⟨q8, 0, none⟩)])] rfl
                    have hno : v.ownBlock ≠ some w8.heap.size := fun e => Nat.lt_irrefl _ (co.a2.lt _ e).2
                    have hsy := hsz
                    have hsz := Nat.le_trans hsz hb9.size
                    have hz := Nat.le_trans hz hb9.size
                    have bW := bW.trans (hb9.mono hsy)
                    have hg := hg.below hb9 hg.lt
                    have hr := hr.below hb9 hr.lt
                    have co := co.below hb9
                    have f8 := f8.below hb9
                    refine hK.out _ _ (hb9.mono hsy) ?_
                    clear hK K
                    try simp only [List.setIfInBounds_toArray, List.set_cons_zero, List.set_cons_succ]
                    refine regB_call (i := 10) rfl (by kernel_rfl) (by rfl) fun K hK => ?_
                    go_simp
                    refine (insert_any (w.heap.size + 2 + 1) p.length v w8.heap.size (.func (.func N8) #[] #[.pointer (some ⟨p8, 0, none⟩), .pointer (some ⟨q8, 0, none⟩)]) gs _ co.a2 (Nat.le_trans (Nat.succ_le_of_lt hrg) (Nat.le_of_lt hg.lt)) ka hno rfl co.f2.one (by omega)).mono ?_
                    rintro e w10 ⟨z, rfl, hown, hgrw, hblk⟩
                    have hg10 := grown_at hgrw co.a2 hg course_ne
                    have hr10 := grown_at hgrw co.a2 hr course_ne
                    have hb10 : Below (w.heap.size + 2) _ w10 := (Below.refl _ _).grown hgrw hsz (fun k hk => Nat.le_of_succ_le (co.a2.lt k hk).1)
                    have co := co.ins2 hown hgrw hblk f8
                    have bW := bW.trans hb10
                    clear hg hr
                    refine hK.out _ _ hb10 ?_
                    clear hK K
                    try simp only [List.setIfInBounds_toArray, List.set_cons_zero, List.set_cons_succ]
                    refine regB_take (i := 11) (d := some 69) (v := (.pointer (some ⟨g, 3, none⟩))) rfl rfl (by kernel_rfl) (by kernel_rfl) (by kernel_rfl) (fun _ _ _ h => h) (by rfl) (by intro w' hSw; go_simp) ?_
                    try simp only [Act.put, List.setIfInBounds_toArray, List.set_cons_zero, List.set_cons_succ]
                    refine regB_call (i := 12) rfl (by kernel_rfl) (by rfl) fun K hK => ?_
                    refine oper_storeC rfl 59 (.tmp 69) (.tmp 68) rfl g 3 rfl z rfl (own_val co.a2).2 77 _ hg10 (by kernel_rfl) (by simp) (own_val co.a2).1 ?_
                    intro x12 hg12 o12
                    have hr := o12.at_ hr10 (Nat.ne_of_lt hrg)
                    have co := co.only o12 (.inr (.inr rfl)) hg10 course_ne
                    have bW := o12.below _ _ bW (Nat.le_of_lt hrg)
                    simp only [List.set_cons_zero, List.set_cons_succ] at hg12
                    refine hK.out _ _ (o12.below _ _ (Below.refl _ _) (Nat.le_of_lt hrg)) ?_
                    clear hK K
                    try simp only [List.setIfInBounds_toArray, List.set_cons_zero, List.set_cons_succ]
                    refine wpAnyH_done (by kernel_rfl) ?_ _
                    go_wp2_with fail
                    go_meet
                    exact ⟨u, z, x, o, _ :: p, q, fs, _ :: gs, hs, hg12, hr, co, hO, Lib.hid (by show orE _ (fo p) = _; rw [hP.out]; rfl), hQ, by omega, by simp only [List.length_cons]; omega, by omega, hrg, bW⟩
                  · go_simp
                    have hb9 : Below w8.heap.size w8 (w8.alloc (.cells #[(.func (.func N8) #[] #[.pointer (some ⟨p8, 0, none⟩), .pointer (some ⟨q8, 0, none⟩)])] 70)) := (Below.refl _ _).alloc (Nat.le_refl _) _
                    have ka : At (w8.alloc (.cells #[(.func (.func N8) #[] #[.pointer (some ⟨p8, 0, none⟩), .pointer (some ⟨q8, 0, none⟩)])] 70)) w8.heap.size 70 [(.func (.func N8) #[] #[.pointer (some ⟨p8, 0, none⟩), .pointer (some ⟨q8, 0, none⟩)])] := At.new_ w8 _ 70 [(.func (.func N8) #[] #[.pointer (some ⟨p8, 0, none⟩), .pointer (some ⟨q8, 0, none⟩)])] rfl
                    have hno : v.ownBlock ≠ some w8.heap.size := fun e => Nat.lt_irrefl _ (co.a2.lt _ e).2
                    have hsy := hsz
                    have hsz := Nat.le_trans hsz hb9.size
                    have hz := Nat.le_trans hz hb9.size
                    have bW := bW.trans (hb9.mono hsy)
                    have hg := hg.below hb9 hg.lt
                    have hr := hr.below hb9 hr.lt
                    have co := co.below hb9
                    have f8 := f8.below hb9
                    refine hK.out _ _ (hb9.mono hsy) ?_
                    clear hK K
                    try simp only [List.setIfInBounds_toArray, List.set_cons_zero, List.set_cons_succ]
                    refine regB_call (i := 1) rfl (by kernel_rfl) (by rfl) fun K hK => ?_
                    have f9 := hg.cell 3
                    simp only [List.getElem?_cons_zero, List.getElem?_cons_succ] at f9
                    refine oper_yields (d := some 59) (v := v) rfl (by go_simp) ?_
                    refine hK.out _ _ (Below.refl _ _) ?_
                    clear hK K
                    try simp only [Act.put, List.setIfInBounds_toArray, List.set_cons_zero, List.set_cons_succ]
                    refine regB_call (i := 10) rfl (by kernel_rfl) (by rfl) fun K hK => ?_
                    go_simp
                    refine (insert_any (w.heap.size + 2 + 1) p.length v w8.heap.size (.func (.func N8) #[] #[.pointer (some ⟨p8, 0, none⟩), .pointer (some ⟨q8, 0, none⟩)]) gs _ co.a2 (Nat.le_trans (Nat.succ_le_of_lt hrg) (Nat.le_of_lt hg.lt)) ka hno rfl co.f2.one (by omega)).mono ?_
                    rintro e w10 ⟨z, rfl, hown, hgrw, hblk⟩
                    have hg10 := grown_at hgrw co.a2 hg course_ne
                    have hr10 := grown_at hgrw co.a2 hr course_ne
                    have hb10 : Below (w.heap.size + 2) _ w10 := (Below.refl _ _).grown hgrw hsz (fun k hk => Nat.le_of_succ_le (co.a2.lt k hk).1)
                    have co := co.ins2 hown hgrw hblk f8
                    have bW := bW.trans hb10
                    clear hg hr
                    refine hK.out _ _ hb10 ?_
                    clear hK K
                    try simp only [List.setIfInBounds_toArray, List.set_cons_zero, List.set_cons_succ]
                    refine regB_take (i := 11) (d := some 69) (v := (.pointer (some ⟨g, 3, none⟩))) rfl rfl (by kernel_rfl) (by kernel_rfl) (by kernel_rfl) (fun _ _ _ h => h) (by rfl) (by intro w' hSw; go_simp) ?_
                    try simp only [Act.put, List.setIfInBounds_toArray, List.set_cons_zero, List.set_cons_succ]
                    refine regB_call (i := 12) rfl (by kernel_rfl) (by rfl) fun K hK => ?_
                    refine oper_storeC rfl 59 (.tmp 69) (.tmp 68) rfl g 3 rfl z rfl (own_val co.a2).2 77 _ hg10 (by kernel_rfl) (by simp) (own_val co.a2).1 ?_
                    intro x12 hg12 o12
                    have hr := o12.at_ hr10 (Nat.ne_of_lt hrg)
                    have co := co.only o12 (.inr (.inr rfl)) hg10 course_ne
                    have bW := o12.below _ _ bW (Nat.le_of_lt hrg)
                    simp only [List.set_cons_zero, List.set_cons_succ] at hg12
                    refine hK.out _ _ (o12.below _ _ (Below.refl _ _) (Nat.le_of_lt hrg)) ?_
                    clear hK K
                    try simp only [List.setIfInBounds_toArray, List.set_cons_zero, List.set_cons_succ]
                    refine wpAnyH_done (by kernel_rfl) ?_ _
                    go_wp2_with fail
                    go_meet
                    exact ⟨u, z, x, o, _ :: p, q, fs, _ :: gs, hs, hg12, hr, co, hO, Lib.hid (by show orE _ (fo p) = _; rw [hP.out]; rfl), hQ, by omega, by simp only [List.length_cons]; omega, by omega, hrg, bW⟩
        case rest =>
          clear hcs
          obtain ⟨u, v, x, o, p, q, fs, gs, hs, hg, hr, co, hO, hP, hQ, lno, lnp, lnq, hrg, bW⟩ := hcut
          have g1 := hg.cell 1
          simp only [List.getElem?_cons_zero, List.getElem?_cons_succ] at g1
          go_wp2_with fail
          refine (nodeC_any y' dd _ (HT.out _ bW) HY32.out HD32.out).mono ?_
          rintro e w2 ⟨rfl, hb2⟩
          have bW := bW.trans (hb2.mono (Nat.le_of_lt hr.lt))
          have hg := hg.below hb2 hg.lt
          have hr := hr.below hb2 hr.lt
          have co := co.below hb2
          clear g1 hb2
          go_wp2_with (first
            | (refine wpList_storeC rfl rfl 9 (.tmp 74) (.tmp 73) rfl g 1 rfl (.string (nd y' dd)) rfl rfl 77 _ hg (by kernel_rfl) (by simp) rfl ?_; intro x3 hg3 o3; simp only [List.set_cons_zero, List.set_cons_succ] at hg3; have hr3 := o3.at_ hr (Nat.ne_of_lt hrg); have co3 := co.only o3 (.inr (.inr rfl)) hg course_ne; have bW3 := o3.below _ _ bW (Nat.le_of_lt hrg); have g0 := hg3.cell 0; have g1 := hg3.cell 1; have g2 := hg3.cell 2; have g3 := hg3.cell 3; have g4 := hg3.cell 4; simp only [List.getElem?_cons_zero, List.getElem?_cons_succ] at g0 g1 g2 g3 g4)
            | (refine wpList_storeB rfl rfl 77 (.tmp 8) (.tmp 75) rfl courseTy (w.heap.size + 2) rfl [.string x', .string (nd y' dd), u, v, x] rfl 77 _ hr3 rfl rfl (five_one (own_val co3.a1).1 (own_val co3.a2).1 (own_val co3.a3).1) ?_; intro x4 hr4 o4))
          have co4 := co3.only o4 (.inr (.inl rfl)) hr3 course_ne
          have bW4 := o4.below _ _ bW3 (Nat.le_refl _)
          exact bodyPost_ret (v := .agg #[.string x', .string (nd y' dd), u, v, x]) (results_cellL rfl courseTy _ _ (w.heap.size + 2) 77 [.string x', .string (nd y' dd), u, v, x] rfl hr4 rfl) rfl
            ⟨u, v, x, rfl, ⟨o, p, q, fs, gs, hs, co4.re (Nat.le_trans (Nat.le_add_right _ 2) (Nat.le_succ _)) (Below.refl _ _) (fun k hk => .inl (.inl hk)), hO.out.trans HOL.out.symm, hP.out.trans HFR.out.symm, hQ.out.trans HPR.out.symm, by omega, by omega, by omega⟩, HBW.out _ bW4⟩
end Go.Proofs.YtihkfomldbjpoaaDoor.ClW
