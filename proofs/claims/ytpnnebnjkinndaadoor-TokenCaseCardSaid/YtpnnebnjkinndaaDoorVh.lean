/- token: a sorted row of terms with their places. -/
import Derived.Test.YtpnnebnjkinndaaDoorVg
import Derived.Laws.StructEq
namespace Go.Proofs.YtpnnebnjkinndaaDoor.TokW
open Go.RowKit UtfW Go.Sort Go.Shelf
abbrev encP (p : Pl) : List Value := [encStr p.1, .int .i64 (p.2 : Int)]
theorem encP_len (p : Pl) : (encP p).length = 2 := rfl
theorem encP_one (p : Pl) : ∀ v ∈ encP p, v.oneCell' = true := by
  intro v hv; simp [encP] at hv; rcases hv with rfl | rfl <;> rfl
theorem atTy : ElemK Tryd.prog 30 35 (.agg #[.string ⟨#[]⟩, .int .i64 0]) 2 24 := ⟨by kernel_rfl, info_parts (by kernel_rfl), rfl, by omega, by omega⟩
theorem atRow : AggTy Tryd.prog 35 2 := ⟨by kernel_rfl, by kernel_rfl⟩
def OwP (e : TypeId) (base : Nat) (w : World) (v : Value) (l : List Pl) : Prop := w.ownsRow base e 2 v l.length (kcells encP l)
theorem eqAt_no {a b : ByteArray} {i j : Nat} (h : ¬ (a = b ∧ i = j)) (w : World) : Sem.run Tryd.prog (binOp .eql 35 (.agg #[.string a, .int .i64 (i : Int)]) (.agg #[.string b, .int .i64 (j : Int)])) w = .ok (.bool false) w := by
  have u3 := Tryd.underlying3
  have a3 := Tryd.isAgg3
  have z3 := Tryd.sizeOf3
  have u9 := Tryd.underlying9
  have a9 := Tryd.isAgg9
  have z9 := Tryd.sizeOf9
  have hS : Tryd.prog.underlying 35 = some (.struct (Tryd.prog.fieldsOf 35)) := by kernel_rfl
  have hp : Tryd.prog.stoodInHeld 35 = false := by kernel_rfl
  rw [run_eql_struct, show (10000 : Nat) = 9999 + 1 from rfl, run_equalIn_agg w 9999 35 _ _ hS hp]
  simp only [Program.fieldsOf, Tryd.underlying35]
  go_simp
  by_cases h1 : a = b
  · have h2 : ¬ i = j := fun g => h ⟨h1, g⟩
    have h3 : ¬ (i : Int) = (j : Int) := by omega
    subst h1
    simp [h3]
  · have q := beq_no h1
    intro g
    rw [g] at q
    simp at q
theorem guardAt (op : BinOp) (x y : Operand) (a b : ByteArray) (i j : Nat) (w : World) : Sem.run Tryd.prog (eqGuard op 35 x y (.agg #[.string a, .int .i64 (i : Int)]) (.agg #[.string b, .int .i64 (j : Int)])) w = .ok () w :=
  run_eqGuard_agg w op 35 x y _ _ (by kernel_rfl)
set_option maxRecDepth 100000 in
set_option maxHeartbeats 1000000 in
theorem compAt_any (A : Option Addr) (n cap : Nat) (l : List Pl) (w : World) (hn : l.length = n) (hA : Sl w A (kcells encP l)) (hne : ∀ k x y, l[k]? = some x → l[k + 1]? = some y → x ≠ y) (hn63 : n ≤ 1099511627776) (_hc : cap ≤ 9223372036854775807) :
    Calls Tryd.prog 51 #[.slice A n cap] w fun e w' => e = .returned (.slice A n cap) ∧ Below w.heap.size w w' := by
  have HN := Lib.hid hn
  have HE := Lib.hid hne
  clear hn hne
  by_cases h2 : n < 2
  · go_enter Tryd.func51, Tryd.ntmps51
    go_wp2_with fail
    go_ret
    exact ⟨rfl, Below.refl _ _⟩
  · go_enter Tryd.func51, Tryd.ntmps51
    go_wp2_with fail
    go_loopw [3] (fun i wr => ∃ k : Nat, 1 ≤ k ∧ k ≤ n ∧ i = .int .i64 (k : Int) ∧ Below w.heap.size w wr) (fun i _ => n - (intOf i).toNat)
    case atStart => exact ⟨1, by omega, by omega, rfl, Below.refl _ _⟩
    case round =>
      obtain ⟨k, hk1, hk, rfl, hbel⟩ := hrel
      by_cases hlt : k < n
      · obtain ⟨j, hj⟩ : ∃ j, k = j + 1 := ⟨k - 1, by omega⟩
        obtain ⟨b, o, rfl, hblt, hcell⟩ := Sl.kget encP_len hA (i := j) (by rw [HN.out]; omega) (by omega)
        obtain ⟨b', o', e', _, hcell'⟩ := Sl.kget encP_len hA (i := k) (by rw [HN.out]; omega) (by omega)
        cases e'
        have hne := HE.out j _ _ (List.getElem?_eq_getElem (by rw [HN.out]; omega)) (by rw [← hj]; exact List.getElem?_eq_getElem (by rw [HN.out]; omega))
        generalize hx : l[j]'(by rw [HN.out]; omega) = x at hcell hne
        generalize hy : l[k]'(by rw [HN.out]; omega) = y at hcell' hne
        obtain ⟨x1, x2⟩ := x
        obtain ⟨y1, y2⟩ := y
        have c0 := (hbel.cell (p := ⟨b, o + (j * 2 + 0), none⟩) hblt).trans (hcell 0 _ rfl)
        have c1 := (hbel.cell (p := ⟨b, o + (j * 2 + 1), none⟩) hblt).trans (hcell 1 _ rfl)
        have c2 := (hbel.cell (p := ⟨b, o + (k * 2 + 0), none⟩) hblt).trans (hcell' 0 _ rfl)
        have c3 := (hbel.cell (p := ⟨b, o + (k * 2 + 1), none⟩) hblt).trans (hcell' 1 _ rfl)
        have hjn : j < n := by omega
        have w1 : IntKind.i64.wrap (j : Int) = (j : Int) := IntWalk.i64_in _ (by omega)
        have w2 : (k : Int) - 1 = (j : Int) := by omega
        have HJ := Lib.hid hj
        obtain ⟨X1, hX1⟩ : ∃ X : ByteArray, X = ⟨x1.toArray⟩ := ⟨_, rfl⟩
        obtain ⟨Y1, hY1⟩ : ∃ X : ByteArray, X = ⟨y1.toArray⟩ := ⟨_, rfl⟩
        simp only [encStr] at c0 c2
        rw [← hX1, ← Nat.add_assoc, Nat.add_zero] at c0
        rw [← hY1, ← Nat.add_assoc, Nat.add_zero] at c2
        rw [← Nat.add_assoc] at c1 c3
        have heq := fun W => eqAt_no (a := Y1) (b := X1) (i := y2) (j := x2) (by
          rintro ⟨h1, h2⟩
          rw [hX1, hY1, mk_inj] at h1
          exact hne (by rw [h1, h2])) W
        have hgd := fun op p q W => guardAt op p q Y1 X1 y2 x2 W
        clear hx hy hcell hcell' hj hne hX1 hY1
        go_wp2_with fail
        go_quiet (fail)
        clear w1 w2 heq hgd
        go_wp2_with fail
        go_roundw
        case rel => exact ⟨k + 1, by omega, by omega, by go_num, hbel.trans (below_drewN (Below.refl _ _) _)⟩
        case measure => simp [intOf]; omega
      · have HK : Hid (k = n) := by show _ = _; omega
        go_wp2_with fail
        go_ret
        exact ⟨rfl, hbel⟩
theorem cloneA_any (B : Nat) (g n cap : Nat) (l : List Pl) (w : World) (hn : l.length = n) (h : w.ownsRow B 35 2 (.slice (some ⟨g, 0, none⟩) n cap) n (kcells encP l)) (hn40 : n ≤ 1099511627776) :
    Calls Tryd.prog 49 #[.slice (some ⟨g, 0, none⟩) n cap] w fun e w' => ∃ v', e = .returned v' ∧ w'.ownsRow w.heap.size 35 2 v' n (kcells encP l) ∧ v' ≠ .slice none 0 0 ∧ Below w.heap.size w w' := by
  obtain ⟨i, hi, hz, hs, hb⟩ := atTy.info
  have := AnyE.slices_Clone Tryd.cloneA i (.agg #[.string ⟨#[]⟩, .int .i64 0]) 2 24 hi hz hs hb rfl (by decide) Tryd.sizeOf35 g 0 n cap (kcells encP l) w (by rw [kcells_len encP_len, hn]) (by unfold maxLen; omega) (by omega)
    (fun j u hu => by have := h.cells (g := g) rfl j u hu; rw [add_lit] at this; exact this) (kcells_one encP_one l)
  exact this
theorem cloneA_nil (w : World) : Calls Tryd.prog 49 #[.slice none 0 0] w fun e w' => e = .returned (.slice none 0 0) ∧ w' = w := AnyE.slices_Clone_nil Tryd.cloneA 0 0 w
theorem sortA_any (g cap : Nat) (d : Array Pl) (w : World) (hH : HoldsK encP 2 w g 0 d) (hg : g < w.heap.size) (hsz : d.size < 4611686018427387904) :
    Calls Tryd.prog 50 #[.slice (some ⟨g, 0, none⟩) d.size cap, .func (.func 32) #[] #[]] w fun e w' =>
      e = .returned (.tuple #[]) ∧ ∃ d' n os, PermIn 0 d.size d d' ∧ SortedIn lessP 0 d.size d' ∧ w' = sortWorldK encP 2 w g 0 n d' os :=
  AnyQ.slices_SortFunc Tryd.sortA 2 Tryd.isAgg35 Tryd.sizeOf35 encP encP_len encP_one cmpP swoP 32 #[] g 0 cap d w (enters_of Tryd.func32 (by kernel_rfl) rfl)
    (fun m os dk _ x y => (compareAt_any ⟨x.1.toArray⟩ ⟨y.1.toArray⟩ x.2 y.2 _).mono fun e w' ⟨h1, h2⟩ => ⟨by rw [h1, ba_list, ba_list], h2⟩) hH hg hsz
theorem sortA_nil (w : World) (fv : Value) : Calls Tryd.prog 50 #[.slice none 0 0, fv] w fun e w' => e = .returned (.tuple #[]) ∧ w' = w := AnyF.slices_SortFunc_none Tryd.sortA none 0 fv w
/-- A new row of these terms with their places. -/
def PlsP (ty : TypeId) (l : List Pl) (w : World) (e : Ending) (w' : World) : Prop := ∃ v, e = .returned v ∧ OwP ty w.heap.size w' v l ∧ Below w.heap.size w w'
theorem OwP.nil (ty : TypeId) (base : Nat) (w : World) : OwP ty base w (.slice none 0 0) [] := World.ownsRow_nil _ _ _ _
set_option maxRecDepth 100000 in
set_option maxHeartbeats 2000000 in
theorem sortedA_any (B : Nat) (v : Value) (L : List (List UInt8)) (w : World) (hown : OwP 35 B w v (zipK L L.length)) (hn40 : L.length ≤ 1099511627776) :
    Calls Tryd.prog 31 #[v, .func (.func 32) #[] #[]] w (PlsP 35 (posU L) w) := by
  rcases hown.2 with ⟨rfl, hz⟩ | ⟨g, cap, cur, rfl, _, _, _, _, _⟩
  · have hL : L = [] := List.eq_nil_of_length_eq_zero (by rw [zipK_len] at hz; exact hz)
    subst hL
    clear hown hn40 hz
    go_enter Tryd.func31, Tryd.ntmps31
    go_wp2_with fail
    refine (cloneA_nil _).mono ?_
    rintro e w1 ⟨rfl, rfl⟩
    go_wp2_with fail
    refine (sortA_nil _ _).mono ?_
    rintro e w1 ⟨rfl, rfl⟩
    go_wp2_with fail
    refine (compAt_any none 0 0 [] _ rfl Sl.nil (fun k x y h => by simp at h) (by omega) (by omega)).mono ?_
    rintro e w1 ⟨rfl, b1⟩
    go_wp2_with fail
    go_ret
    exact ⟨_, rfl, OwP.nil _ _ _, b1⟩
  · obtain ⟨n, hn⟩ : ∃ n, L.length = n := ⟨_, rfl⟩
    obtain ⟨Z, hZ⟩ : ∃ Z, Z = zipK L L.length := ⟨_, rfl⟩
    have HZL : Hid (Z.length = n) := by show _ = _; rw [hZ, zipK_len, hn]
    have HZ := Lib.hid hZ
    unfold OwP at hown
    rw [zipK_len, ← hZ, hn] at hown
    rw [zipK_len, hn]
    rw [hn] at hn40
    have HN := Lib.hid hn
    clear hn hZ
    go_enter Tryd.func31, Tryd.ntmps31
    go_wp2_with fail
    refine (cloneA_any B g n cap Z _ HZL.out hown hn40).mono ?_
    rintro e w1 ⟨v1, rfl, hown1, hnn, b1⟩
    rcases hown1.2 with ⟨h, _⟩ | ⟨g1, cap1, cur1, rfl, hbase1, hb1, hc1, hm1, hs1, ht1⟩
    · exact absurd h hnn
    have hg1 : g1 < w1.heap.size := (Array.getElem?_eq_some_iff.1 hb1).1
    have hd0 : Z.toArray.size = n := by simp [HZL.out]
    have hH1 : HoldsK encP 2 w1 g1 0 Z.toArray := holdsK_of_block encP_len hb1 (by rw [HZL.out]; exact ht1)
    have HB1 := Lib.hid hb1
    have HS := Lib.hid hs1
    have HC1 := Lib.hid hc1
    clear ht1 hb1 hnn hown hs1
    have HSORT := Lib.hid (sortA_any g1 cap1 Z.toArray w1 hH1 hg1 (by rw [hd0]; omega))
    rw [hd0] at HSORT
    have HD0 := Lib.hid hd0
    clear hH1 hd0
    go_wp2_with fail
    refine HSORT.out.mono ?_
    rintro e w2 ⟨rfl, d', k, os, hperm, hsort, hw2⟩
    have hsz : d'.size = n := by rw [hperm.1, HD0.out]
    have hperm' := perm_of (d := Z.toArray) (by rw [HD0.out]; exact hperm)
    have hpos : d'.toList = posU L := pos_set (by rw [← HZ.out]; simpa using hperm') (by rw [hsz]; exact hsort)
    have hpl : (posU L).length = n := by rw [posU_len, HN.out]
    have hdl : d' = (posU L).toArray := by rw [← hpos]
    have hown2 : w2.ownsRow w.heap.size 35 2 (.slice (some ⟨g1, 0, none⟩) n cap1) n (kcells encP (posU L)) := by
      rw [hw2, hdl]
      exact ownsK_sorted encP_len hpl hbase1 HB1.out HC1.out hm1 HS.out
    have hgr2 : w1.grownBy w2 (some g1) := by rw [hw2]; exact grownBy_sortedK d'
    have b2 : Below w.heap.size w w2 := b1.grown hgr2 b1.size (fun j hj => by cases hj; exact hbase1)
    have hsl2 : Sl w2 (some ⟨g1, 0, none⟩) (kcells encP (posU L)) := Sl.of_ownK hown2
    have hap : ∀ k x y, (posU L)[k]? = some x → (posU L)[k + 1]? = some y → x ≠ y := by
      intro k x y h1 h2 e
      have hlt : k + 1 < (posU L).length := (List.getElem?_eq_some_iff.1 h2).1
      have hr := List.pairwise_iff_getElem.1 (posU_rise L) k (k + 1) (by omega) hlt (by omega)
      have e1 : (posU L)[k]'(by omega) = x := (List.getElem?_eq_some_iff.1 h1).2
      have e2 : (posU L)[k + 1]'hlt = y := (List.getElem?_eq_some_iff.1 h2).2
      rw [e1, e2, e] at hr
      exact ltP_irr _ hr
    have HCM := Lib.hid (compAt_any (some ⟨g1, 0, none⟩) n cap1 (posU L) w2 hpl hsl2 hap (by omega) (by unfold maxLen at hm1; omega))
    have HPL := Lib.hid hpl
    clear hw2 hgr2 hperm hperm' hsort HSORT hsz b1 HB1 HS hap hsl2 hdl hpos hpl
    go_wp2_with fail
    refine HCM.out.mono ?_
    rintro e w3 ⟨rfl, b3⟩
    have hown3 := own_below hown2 b3
    go_wp2_with fail
    go_ret
    refine ⟨_, rfl, ?_, b2.trans (b3.mono b2.size)⟩
    unfold OwP
    rw [HPL.out]
    exact hown3
end Go.Proofs.YtpnnebnjkinndaaDoor.TokW
