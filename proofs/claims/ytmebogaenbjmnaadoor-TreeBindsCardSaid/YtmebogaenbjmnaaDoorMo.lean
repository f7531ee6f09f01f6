/- TreeBinds: of two unlike digests that lead to one root from one place, some step of both seals unlike bytes with one sum. -/
import Derived.Test.YtmebogaenbjmnaaDoorMj
import Derived.Test.YtmebogaenbjmnaaDoorSeIs
import Derived.Test.YtmebogaenbjmnaaDoorConv
namespace Go.Proofs.YtmebogaenbjmnaaDoor.TrW
open Go.RowKit TreeW
open ShaW Sha
theorem wp_toBytesD {P : Program} {o : Oper} {a : Act} {w : World} {K : Act → World → Prop} {Q : Exit → Act → World → Prop} (d0 : Option Tmp) (hd0 : o.dst = d0) (src dst e : TypeId) (x : Operand) (ho : o.op = .convert src dst x)
    (hs : P.underlying src = some .string) (hd : P.underlying dst = some (.slice e)) (he : P.underlying e = some (.int .u8)) (s : ByteArray) (hx : a.eval x = .string s) (hm : s.size ≤ maxLen)
    (h : ∀ A c w', Below w.heap.size w w' → Sl w' A (bcells s.data.toList) → s.size ≤ c → c ≤ maxLen → (∀ b o s, A = some ⟨b, o, s⟩ → w.heap.size ≤ b) → K (a.put d0 (.slice A s.size c)) w') : o.wp P a w K Q := by
  subst hd0
  exact wp_toBytes src dst e x ho hs hd he s hx hm h
theorem ba_eq {s t : ByteArray} (h : s.data.toList = t.data.toList) : s = t := by
  cases s with | mk a => cases t with | mk b => simpa using h
theorem ways_size : ∀ (m : Nat) (leaf : ByteArray) (i n : Nat) (ss : List ByteArray), n ≤ m → leaf.size = 32 → Digs ss → ss.length = steps i n → ∀ z ∈ TreeW.ways nd ed leaf i n ss, z.1.size = 32 ∧ z.2.size = 32
  | m, leaf, i, n, ss, hm, h1, hd, hl => by
    by_cases h2 : n < 2
    · rw [TreeW.ways_one nd ed leaf i n ss h2]; intro z hz; simp at hz
    · obtain ⟨a, b, _, _⟩ := split_spec (n := n) (by omega)
      cases m with
      | zero => omega
      | succ m =>
        by_cases hi : i < split n
        · rw [steps_left (by omega) hi] at hl
          obtain ⟨q, d, rfl, hq⟩ := snoc_of hl
          rw [TreeW.ways_left nd ed (by omega) hi]
          intro z hz
          rcases List.mem_append.1 hz with hz | hz
          · exact ways_size m leaf i (split n) q (by omega) h1 (fun x hx => hd x (List.mem_append_left _ hx)) hq z hz
          · simp at hz; subst hz
            exact ⟨climb_size _ leaf i _ q (Nat.le_refl _) h1, hd d (by simp)⟩
        · rw [steps_right (by omega) hi] at hl
          obtain ⟨q, d, rfl, hq⟩ := snoc_of hl
          rw [TreeW.ways_right nd ed (by omega) hi]
          intro z hz
          rcases List.mem_append.1 hz with hz | hz
          · exact ways_size m leaf (i - split n) (n - split n) q (by omega) h1 (fun x hx => hd x (List.mem_append_left _ hx)) hq z hz
          · simp at hz; subst hz
            exact ⟨hd d (by simp), climb_size _ leaf _ _ q (Nat.le_refl _) h1⟩
theorem wy_size (u : ByteArray × ByteArray) (h1 : u.1.size = 32) (h2 : u.2.size = 32) : (wy u).size = 65 := by
  rw [← bsize, wy_list, List.length_cons, List.length_append, bsize, bsize, h1, h2]
/-- The steps' bytes of two that lead to one root. -/
theorem binds_plain (a b : ByteArray) (i n : Nat) (p q : List ByteArray) (ha : a.size = 32) (hb : b.size = 32) (hp : Digs p) (hq : Digs q) (lp : p.length = steps i n) (lq : q.length = steps i n) (hne : a ≠ b) (he : climb nd ed a i n p = climb nd ed b i n q) :
    ∃ K, K < steps i n ∧ ∀ x y, ((TreeW.ways nd ed a i n p).map wy)[K]? = some x → ((TreeW.ways nd ed b i n q).map wy)[K]? = some y → x.data.toList ≠ y.data.toList ∧ sha x.data.toList = sha y.data.toList := by
  obtain ⟨k, u, v, hu, hv, huv, hN⟩ := ways_bind nd ed n a b i n p q (Nat.le_refl _) hne he
  have hk := (List.getElem?_eq_some_iff.1 hu).1
  rw [ways_len nd ed n a i n p (Nat.le_refl _)] at hk
  refine ⟨k, hk, fun x y hx hy => ?_⟩
  rw [List.getElem?_map, hu] at hx
  rw [List.getElem?_map, hv] at hy
  obtain rfl : wy u = x := by simpa using hx
  obtain rfl : wy v = y := by simpa using hy
  have su := ways_size n a i n p (Nat.le_refl _) ha hp lp u (List.mem_of_getElem? hu)
  have sv := ways_size n b i n q (Nat.le_refl _) hb hq lq v (List.mem_of_getElem? hv)
  refine ⟨fun h => huv ?_, ?_⟩
  · rw [wy_list, wy_list] at h
    have h2 := List.append_inj (List.cons.inj h).2 (by rw [bsize, bsize, su.1, sv.1])
    exact Prod.ext (ba_eq h2.1) (ba_eq h2.2)
  · rw [wy_list, wy_list]
    exact SealW.mk_inj.1 hN
theorem ways_small (a : ByteArray) (i n : Nat) (p : List ByteArray) (ha : a.size = 32) (hp : Digs p) (lp : p.length = steps i n) : ∀ x ∈ (TreeW.ways nd ed a i n p).map wy, x.size = 65 := by
  intro x hx
  obtain ⟨z, hz, rfl⟩ := List.mem_map.1 hx
  have := ways_size n a i n p (Nat.le_refl _) ha hp lp z hz
  exact wy_size z this.1 this.2
/-- Whatever a path leads to. -/
theorem climb_some (leaf : ByteArray) (i n : Nat) (A : Option Addr) (l c : Nat) (ss : List ByteArray) (w : World) (hT : Tab w) (h1 : leaf.size = 32) (hi : i < n) (hn : n ≤ 1099511627776) (hl : ss.length = l) (hs : Sl w A (scells ss)) (hl63 : l ≤ 9223372036854775807) :
    Calls Tryd.prog 21 #[.string leaf, .int .i64 (i : Int), .int .i64 (n : Int), .slice A l c] w fun e w' => ∃ (r : ByteArray) (z : Int), e = .returned (.tuple #[.string r, .int .i64 z]) ∧ Below w.heap.size w w' := by
  by_cases h : l = steps i n ∧ Digs ss
  · refine (climb_ok leaf i n A l c ss w hT h1 hi hn hl hs hl63 h.1 h.2).mono ?_
    rintro e w' ⟨rfl, hb⟩
    exact ⟨_, _, rfl, hb⟩
  · refine (climb_proof leaf i n A l c ss w h1 hi hn hl hs hl63 (by
      by_cases h' : l = steps i n
      · exact .inr fun hd => h ⟨h', hd⟩
      · exact .inl h')).mono ?_
    rintro e w' ⟨rfl, hb⟩
    exact ⟨_, _, rfl, hb⟩
set_option maxRecDepth 1000000 in
set_option maxHeartbeats 8000000 in
theorem lawBinds (a b : ByteArray) (i n : Int) (A : Option Addr) (lp cp : Nat) (ps : List ByteArray) (B : Option Addr) (lq cq : Nat) (qs : List ByteArray) (w : World) (hT : Tab w)
    (hlp : ps.length = lp) (hA : Sl w A (scells ps)) (hpc : lp ≤ cp) (hcp : cp ≤ 9223372036854775807) (hlq : qs.length = lq) (hB : Sl w B (scells qs)) (hqc : lq ≤ cq) (hcq : cq ≤ 9223372036854775807) :
    Calls Tryd.prog 8 #[.string a, .string b, .int .i64 i, .int .i64 n, .slice A lp cp, .slice B lq cq] w fun e w' => e = .returned (.bool true) ∧ Below w.heap.size w w' := by
  have hpos := hT.pos
  have HT := Lib.hid (fun W (hb : Below w.heap.size w W) => hT.below hb hpos)
  have b0 : Below w.heap.size w w := Below.refl _ _
  have HP := Lib.hid hlp
  have HQ := Lib.hid hlq
  clear hlp hlq hT hpos
  by_cases hgp : Grt ps
  · have HGP := Lib.hid hgp
    clear hgp
    go_enter Tryd.func8, Tryd.ntmps8
    go_wp2_with fail
    refine (great_yes A lp cp ps _ HP.out hA (by omega) HGP.out).mono ?_
    rintro e w1 ⟨rfl, rfl⟩
    go_wp2_with fail
    refine (knows_any _ (HT.out _ b0)).mono ?_
    rintro e wk ⟨rfl, hbk⟩
    have bk := b0.trans (hbk.mono b0.size)
    go_wp2_with fail
    go_ret
    exact ⟨rfl, bk⟩
  have HGP := Lib.hid hgp
  clear hgp
  by_cases hgq : Grt qs
  · have HGQ := Lib.hid hgq
    clear hgq
    go_enter Tryd.func8, Tryd.ntmps8
    go_wp2_with fail
    refine (great_not A lp cp ps _ HP.out hA (by omega) HGP.out).mono ?_
    rintro e w1 ⟨rfl, rfl⟩
    go_wp2_with fail
    refine (great_yes B lq cq qs _ HQ.out hB (by omega) HGQ.out).mono ?_
    rintro e w1 ⟨rfl, rfl⟩
    go_wp2_with fail
    refine (knows_any _ (HT.out _ b0)).mono ?_
    rintro e wk ⟨rfl, hbk⟩
    have bk := b0.trans (hbk.mono b0.size)
    go_wp2_with fail
    go_ret
    exact ⟨rfl, bk⟩
  have HGQ := Lib.hid hgq
  clear hgq
  by_cases ha : ¬ a.size = 32
  · have ea : ¬ (a.size : Int) = 32 := by omega
    clear ha
    go_enter Tryd.func8, Tryd.ntmps8
    go_wp2_with fail
    refine (great_not A lp cp ps _ HP.out hA (by omega) HGP.out).mono ?_
    rintro e w1 ⟨rfl, rfl⟩
    go_wp2_with fail
    refine (great_not B lq cq qs _ HQ.out hB (by omega) HGQ.out).mono ?_
    rintro e w1 ⟨rfl, rfl⟩
    go_wp2_with fail
    refine (knows_any _ (HT.out _ b0)).mono ?_
    rintro e wk ⟨rfl, hbk⟩
    have bk := b0.trans (hbk.mono b0.size)
    go_wp2_with fail
    go_ret
    exact ⟨rfl, bk⟩
  have ha32 : a.size = 32 := by omega
  have ea : (a.size : Int) = 32 := by omega
  by_cases hb : ¬ b.size = 32
  · have eb : ¬ (b.size : Int) = 32 := by omega
    clear ha hb ha32
    go_enter Tryd.func8, Tryd.ntmps8
    go_wp2_with fail
    refine (great_not A lp cp ps _ HP.out hA (by omega) HGP.out).mono ?_
    rintro e w1 ⟨rfl, rfl⟩
    go_wp2_with fail
    refine (great_not B lq cq qs _ HQ.out hB (by omega) HGQ.out).mono ?_
    rintro e w1 ⟨rfl, rfl⟩
    go_wp2_with fail
    refine (knows_any _ (HT.out _ b0)).mono ?_
    rintro e wk ⟨rfl, hbk⟩
    have bk := b0.trans (hbk.mono b0.size)
    go_wp2_with fail
    go_ret
    exact ⟨rfl, bk⟩
  have hb32 : b.size = 32 := by omega
  have eb : (b.size : Int) = 32 := by omega
  have HA32 := Lib.hid ha32
  have HB32 := Lib.hid hb32
  clear ha hb ha32 hb32
  by_cases h2 : n < 1
  · go_enter Tryd.func8, Tryd.ntmps8
    go_wp2_with fail
    refine (great_not A lp cp ps _ HP.out hA (by omega) HGP.out).mono ?_
    rintro e w1 ⟨rfl, rfl⟩
    go_wp2_with fail
    refine (great_not B lq cq qs _ HQ.out hB (by omega) HGQ.out).mono ?_
    rintro e w1 ⟨rfl, rfl⟩
    go_wp2_with fail
    refine (climb_arg a i n A lp cp _ (.inr (.inl h2))).mono ?_
    rintro e w2 ⟨rfl, rfl⟩
    go_wp2_with fail
    refine (climb_arg b i n B lq cq _ (.inr (.inl h2))).mono ?_
    rintro e w2 ⟨rfl, rfl⟩
    go_wp2_with fail
    refine (knows_any _ (HT.out _ b0)).mono ?_
    rintro e wk ⟨rfl, hbk⟩
    have bk := b0.trans (hbk.mono b0.size)
    go_wp2_with fail
    go_ret
    exact ⟨rfl, bk⟩
  by_cases h3 : 1099511627776 < n
  · go_enter Tryd.func8, Tryd.ntmps8
    go_wp2_with fail
    refine (great_not A lp cp ps _ HP.out hA (by omega) HGP.out).mono ?_
    rintro e w1 ⟨rfl, rfl⟩
    go_wp2_with fail
    refine (great_not B lq cq qs _ HQ.out hB (by omega) HGQ.out).mono ?_
    rintro e w1 ⟨rfl, rfl⟩
    go_wp2_with fail
    refine (climb_arg a i n A lp cp _ (.inr (.inr (.inl h3)))).mono ?_
    rintro e w2 ⟨rfl, rfl⟩
    go_wp2_with fail
    refine (climb_arg b i n B lq cq _ (.inr (.inr (.inl h3)))).mono ?_
    rintro e w2 ⟨rfl, rfl⟩
    go_wp2_with fail
    refine (knows_any _ (HT.out _ b0)).mono ?_
    rintro e wk ⟨rfl, hbk⟩
    have bk := b0.trans (hbk.mono b0.size)
    go_wp2_with fail
    go_ret
    exact ⟨rfl, bk⟩
  by_cases h4 : i < 0
  · go_enter Tryd.func8, Tryd.ntmps8
    go_wp2_with fail
    refine (great_not A lp cp ps _ HP.out hA (by omega) HGP.out).mono ?_
    rintro e w1 ⟨rfl, rfl⟩
    go_wp2_with fail
    refine (great_not B lq cq qs _ HQ.out hB (by omega) HGQ.out).mono ?_
    rintro e w1 ⟨rfl, rfl⟩
    go_wp2_with fail
    refine (climb_arg a i n A lp cp _ (.inr (.inr (.inr (.inl h4))))).mono ?_
    rintro e w2 ⟨rfl, rfl⟩
    go_wp2_with fail
    refine (climb_arg b i n B lq cq _ (.inr (.inr (.inr (.inl h4))))).mono ?_
    rintro e w2 ⟨rfl, rfl⟩
    go_wp2_with fail
    refine (knows_any _ (HT.out _ b0)).mono ?_
    rintro e wk ⟨rfl, hbk⟩
    have bk := b0.trans (hbk.mono b0.size)
    go_wp2_with fail
    go_ret
    exact ⟨rfl, bk⟩
  by_cases h5 : n ≤ i
  · go_enter Tryd.func8, Tryd.ntmps8
    go_wp2_with fail
    refine (great_not A lp cp ps _ HP.out hA (by omega) HGP.out).mono ?_
    rintro e w1 ⟨rfl, rfl⟩
    go_wp2_with fail
    refine (great_not B lq cq qs _ HQ.out hB (by omega) HGQ.out).mono ?_
    rintro e w1 ⟨rfl, rfl⟩
    go_wp2_with fail
    refine (climb_arg a i n A lp cp _ (.inr (.inr (.inr (.inr h5))))).mono ?_
    rintro e w2 ⟨rfl, rfl⟩
    go_wp2_with fail
    refine (climb_arg b i n B lq cq _ (.inr (.inr (.inr (.inr h5))))).mono ?_
    rintro e w2 ⟨rfl, rfl⟩
    go_wp2_with fail
    refine (knows_any _ (HT.out _ b0)).mono ?_
    rintro e wk ⟨rfl, hbk⟩
    have bk := b0.trans (hbk.mono b0.size)
    go_wp2_with fail
    go_ret
    exact ⟨rfl, bk⟩
  obtain ⟨i, rfl⟩ : ∃ n : Nat, i = n := ⟨i.toNat, by omega⟩
  obtain ⟨n, rfl⟩ : ∃ m : Nat, n = m := ⟨n.toNat, by omega⟩
  have hi : i < n := by omega
  have hn : n ≤ 1099511627776 := by omega
  clear h2 h3 h4 h5
  by_cases hpo : lp ≠ steps i n ∨ ¬ Digs ps
  · have HN := Lib.hid hpo
    clear hpo
    go_enter Tryd.func8, Tryd.ntmps8
    go_wp2_with fail
    refine (great_not A lp cp ps _ HP.out hA (by omega) HGP.out).mono ?_
    rintro e w1 ⟨rfl, rfl⟩
    go_wp2_with fail
    refine (great_not B lq cq qs _ HQ.out hB (by omega) HGQ.out).mono ?_
    rintro e w1 ⟨rfl, rfl⟩
    go_wp2_with fail
    refine (climb_proof a i n A lp cp ps _ HA32.out hi hn HP.out hA (by omega) HN.out).mono ?_
    rintro e w2 ⟨rfl, hb2⟩
    have b2 := b0.trans (hb2.mono b0.size)
    go_wp2_with fail
    refine (climb_some b i n B lq cq qs _ (HT.out _ b2) HB32.out hi hn HQ.out (hB.below b2) (by omega)).mono ?_
    rintro e w3 ⟨r, z, rfl, hb3⟩
    have b3 := b2.trans (hb3.mono b2.size)
    go_wp2_with fail
    refine (knows_any _ (HT.out _ b3)).mono ?_
    rintro e wk ⟨rfl, hbk⟩
    have bk := b3.trans (hbk.mono b3.size)
    go_wp2_with fail
    go_ret
    exact ⟨rfl, bk⟩
  have HSP : Hid (lp = steps i n) := Classical.byContradiction fun h => hpo (.inl h)
  have HDP : Hid (Digs ps) := Classical.byContradiction fun h => hpo (.inr h)
  clear hpo
  by_cases hqo : lq ≠ steps i n ∨ ¬ Digs qs
  · have HN := Lib.hid hqo
    clear hqo
    go_enter Tryd.func8, Tryd.ntmps8
    go_wp2_with fail
    refine (great_not A lp cp ps _ HP.out hA (by omega) HGP.out).mono ?_
    rintro e w1 ⟨rfl, rfl⟩
    go_wp2_with fail
    refine (great_not B lq cq qs _ HQ.out hB (by omega) HGQ.out).mono ?_
    rintro e w1 ⟨rfl, rfl⟩
    go_wp2_with fail
    refine (climb_ok a i n A lp cp ps _ (HT.out _ b0) HA32.out hi hn HP.out hA (by omega) HSP.out HDP.out).mono ?_
    rintro e w2 ⟨rfl, hb2⟩
    have b2 := b0.trans (hb2.mono b0.size)
    go_wp2_with fail
    refine (climb_proof b i n B lq cq qs _ HB32.out hi hn HQ.out (hB.below b2) (by omega) HN.out).mono ?_
    rintro e w3 ⟨rfl, hb3⟩
    have b3 := b2.trans (hb3.mono b2.size)
    go_wp2_with fail
    refine (knows_any _ (HT.out _ b3)).mono ?_
    rintro e wk ⟨rfl, hbk⟩
    have bk := b3.trans (hbk.mono b3.size)
    go_wp2_with fail
    go_ret
    exact ⟨rfl, bk⟩
  have HSQ : Hid (lq = steps i n) := Classical.byContradiction fun h => hqo (.inl h)
  have HDQ : Hid (Digs qs) := Classical.byContradiction fun h => hqo (.inr h)
  clear hqo
  by_cases hab : a = b
  · have e1 := SealW.beq_yes hab
    clear hab
    go_enter Tryd.func8, Tryd.ntmps8
    go_wp2_with fail
    refine (great_not A lp cp ps _ HP.out hA (by omega) HGP.out).mono ?_
    rintro e w1 ⟨rfl, rfl⟩
    go_wp2_with fail
    refine (great_not B lq cq qs _ HQ.out hB (by omega) HGQ.out).mono ?_
    rintro e w1 ⟨rfl, rfl⟩
    go_wp2_with fail
    refine (climb_ok a i n A lp cp ps _ (HT.out _ b0) HA32.out hi hn HP.out hA (by omega) HSP.out HDP.out).mono ?_
    rintro e w2 ⟨rfl, hb2⟩
    have b2 := b0.trans (hb2.mono b0.size)
    go_wp2_with fail
    refine (climb_ok b i n B lq cq qs _ (HT.out _ b2) HB32.out hi hn HQ.out (hB.below b2) (by omega) HSQ.out HDQ.out).mono ?_
    rintro e w3 ⟨rfl, hb3⟩
    have b3 := b2.trans (hb3.mono b2.size)
    go_wp2_with fail
    refine (knows_any _ (HT.out _ b3)).mono ?_
    rintro e wk ⟨rfl, hbk⟩
    have bk := b3.trans (hbk.mono b3.size)
    go_wp2_with fail
    go_ret
    exact ⟨rfl, bk⟩
  by_cases hxy : climb nd ed a i n ps = climb nd ed b i n qs
  · skip
    obtain ⟨K, hK, hKB⟩ := binds_plain a b i n ps qs HA32.out HB32.out HDP.out HDQ.out (by rw [HP.out]; exact HSP.out) (by rw [HQ.out]; exact HSQ.out) hab hxy
    rw [← HSP.out] at hK
    have HKB := Lib.hid hKB
    have HXY := Lib.hid hxy
    have e1 := SealW.beq_no hab
    have HLPQ : Hid (lq = lp) := by show _ = _; rw [HSP.out]; exact HSQ.out
    have SMU := Lib.hid (ways_small a i n ps HA32.out HDP.out (by rw [HP.out]; exact HSP.out))
    have SMV := Lib.hid (ways_small b i n qs HB32.out HDQ.out (by rw [HQ.out]; exact HSQ.out))
    have LU : Hid (((TreeW.ways nd ed a i n ps).map wy).length = lp) := by show _ = _; rw [List.length_map, ways_len nd ed n a i n ps (Nat.le_refl _)]; exact HSP.out.symm
    have LV : Hid (((TreeW.ways nd ed b i n qs).map wy).length = lp) := by show _ = _; rw [List.length_map, ways_len nd ed n b i n qs (Nat.le_refl _)]; exact HSP.out.symm
    have HWU := Lib.hid (fun (w : World) hs => ways_any n a i n A lp cp ps (Nat.le_refl _) w HA32.out HP.out hs HDP.out hpc hn (by omega) HSP.out)
    have HWV := Lib.hid (fun (w : World) hs => ways_any n b i n B lq cq qs (Nat.le_refl _) w HB32.out HQ.out hs HDQ.out hqc hn (by omega) HSQ.out)
    have k1 : ¬ (n : Int) < 1 := by omega
    have k2 : ¬ (n : Int) > 1099511627776 := by omega
    have k3 : ¬ (i : Int) < 0 := by omega
    have k4 : ¬ (i : Int) ≥ (n : Int) := by omega
    have hlp64 : lp ≤ 1099511627776 := by rw [HSP.out]; exact Nat.le_trans (steps_le n i) hn
    clear hab hxy hKB
    go_enter Tryd.func8, Tryd.ntmps8
    go_wp2_with fail
    refine (great_not A lp cp ps _ HP.out hA (by omega) HGP.out).mono ?_
    rintro e w1 ⟨rfl, rfl⟩
    go_wp2_with fail
    refine (great_not B lq cq qs _ HQ.out hB (by omega) HGQ.out).mono ?_
    rintro e w1 ⟨rfl, rfl⟩
    go_wp2_with fail
    refine (climb_ok a i n A lp cp ps _ (HT.out _ b0) HA32.out hi hn HP.out hA (by omega) HSP.out HDP.out).mono ?_
    rintro e w2 ⟨rfl, hb2⟩
    have b2 := b0.trans (hb2.mono b0.size)
    go_wp2_with fail
    refine (climb_ok b i n B lq cq qs _ (HT.out _ b2) HB32.out hi hn HQ.out (hB.below b2) (by omega) HSQ.out HDQ.out).mono ?_
    rintro e w3 ⟨rfl, hb3⟩
    have b3 := b2.trans (hb3.mono b2.size)
    rw [← HXY.out]
    obtain rfl : lq = lp := HLPQ.out
    go_wp2_with fail
    refine (steps_any n i n (Nat.le_refl _) _ hn (by omega)).mono ?_
    rintro e w4 ⟨rfl, rfl⟩
    rw [← HSQ.out]
    go_wp2_with fail
    clear k1 k2 k3 k4 hb2 hb3
    refine (HWU.out _ (hA.below b3)).mono ?_
    rintro e w4 ⟨vu, rfl, hownu, hb4⟩
    have b4 := b3.trans (hb4.mono b3.size)
    go_wp2_with fail
    refine (HWV.out _ (hB.below b4)).mono ?_
    rintro e w5 ⟨vv, rfl, hownv, hb5⟩
    have b5 := b4.trans (hb5.mono b4.size)
    have hownu2 := hownu.below hb5
    obtain ⟨U, hU⟩ : ∃ U, (TreeW.ways nd ed a i n ps).map wy = U := ⟨_, rfl⟩
    obtain ⟨V, hV⟩ : ∃ V, (TreeW.ways nd ed b i n qs).map wy = V := ⟨_, rfl⟩
    rw [hU] at hownu2
    rw [hV] at hownv
    have HKB2 := HKB
    have SU := SMU
    have SV := SMV
    have LU2 := LU
    have LV2 := LV
    rw [hU, hV] at HKB2
    rw [hU] at SU LU2
    rw [hV] at SV LV2
    obtain ⟨Au, cu, rfl, slu, _, _, _⟩ := hownu2.slice
    obtain ⟨Av, cv, rfl, slv, _, _, _⟩ := hownv.slice
    rw [LU2.out, LV2.out]
    clear hownu hownu2 hownv hU hV LU LV SMU SMV HKB HWU HWV hb4 hb5
    go_wp2_with fail
    go_loopw [19] (fun vj wr => ∃ j : Nat, j ≤ K ∧ vj = .int .i64 (j : Int) ∧ Below w5.heap.size w5 wr) (fun vj _ => K + 1 - (intOf vj).toNat)
    case atStart => exact ⟨0, by omega, rfl, Below.refl _ _⟩
    case round =>
      obtain ⟨j, hj, rfl, hbel⟩ := hrel
      have br := b5.trans (hbel.mono b5.size)
      have br0 : Below wr.heap.size wr wr.drew := (Below.refl _ _).drew
      have hju : j < U.length := by rw [LU2.out]; omega
      have hjv : j < V.length := by rw [LV2.out]; omega
      have gu := get_of hju
      have gv := get_of hjv
      obtain ⟨X, hX⟩ : ∃ X, U.getD j ⟨#[]⟩ = X := ⟨_, rfl⟩
      obtain ⟨Y, hY⟩ : ∃ Y, V.getD j ⟨#[]⟩ = Y := ⟨_, rfl⟩
      rw [hX] at gu
      rw [hY] at gv
      have slu1 := slu.below hbel
      have slv1 := slv.below hbel
      obtain ⟨bu, ou, rfl, hbu, hcu⟩ := slu1.get (j := j) (by rw [scells_len]; exact hju)
      obtain ⟨bv, ov, rfl, hbv, hcv⟩ := slv1.get (j := j) (by rw [scells_len]; exact hjv)
      have HCX : Hid (∀ w', Below wr.heap.size wr.drew w' → w'.cell? ⟨bu, ou + j, none⟩ = some (.string X)) := fun w' hb => (hb.cell (p := ⟨bu, ou + j, none⟩) hbu).trans (hcu j _ (scells_at gu))
      have HCY : Hid (∀ w', Below wr.heap.size wr.drew w' → w'.cell? ⟨bv, ov + j, none⟩ = some (.string Y)) := fun w' hb => (hb.cell (p := ⟨bv, ov + j, none⟩) hbv).trans (hcv j _ (scells_at gv))
      have HZX := Lib.hid (SU.out X (List.mem_of_getElem? gu))
      have HZY := Lib.hid (SV.out Y (List.mem_of_getElem? gv))
      have kj : (j : Int) < (lq : Int) := by omega
      have HKK := Lib.hid (fun (h : j = K) => HKB2.out X Y (by rw [← h]; exact gu) (by rw [← h]; exact gv))
      clear hju hjv gu gv hX hY slu1 slv1 hcu hcv
      by_cases hres : X.data.toList ≠ Y.data.toList ∧ sha X.data.toList = sha Y.data.toList
      · have HRES : Hid (decide (X.data.toList ≠ Y.data.toList ∧ sha X.data.toList = sha Y.data.toList) = true) := decide_eq_true hres
        clear hres
        go_wp2_with fail
        refine regB_begin (wr.heap.size) (by kernel_rfl) ?_
        change wpAnyH _ _ _ _ _ 12 #[false, false, false, false, false, false, false, false, false, false, false, false] _ _
        refine regB_take (i := 0) (d := some 122) (v := (.slice (some ⟨bu, ou, none⟩) lq cu)) rfl rfl (by kernel_rfl) (by kernel_rfl) (by kernel_rfl) (fun _ _ _ h => h) (by rfl) (by intro w' hSw; go_simp) ?_
        try simp only [Act.put, List.setIfInBounds_toArray, List.set_cons_zero, List.set_cons_succ]
        refine regB_take (i := 1) (d := some 123) (v := (.int .i64 (j : Int))) rfl rfl (by kernel_rfl) (by kernel_rfl) (by kernel_rfl) (fun _ _ _ h => h) (by rfl) (by intro w' hSw; go_simp) ?_
        try simp only [Act.put, List.setIfInBounds_toArray, List.set_cons_zero, List.set_cons_succ]
        refine regB_take (i := 2) (d := some 124) (v := (.pointer (some ⟨bu, ou + j, none⟩))) rfl rfl (by kernel_rfl) (by kernel_rfl) (by kernel_rfl) (fun _ _ _ h => h) (by rfl) (by intro w' hSw; go_simp) ?_
        try simp only [Act.put, List.setIfInBounds_toArray, List.set_cons_zero, List.set_cons_succ]
        refine regB_take (i := 3) (d := some 125) (v := (.string X)) rfl rfl (by kernel_rfl) (by kernel_rfl) (by kernel_rfl) (fun _ _ _ h => h) (by rfl) (by intro w' hSw; have h9 := HCX.out w' hSw; go_simp) ?_
        try simp only [Act.put, List.setIfInBounds_toArray, List.set_cons_zero, List.set_cons_succ]
        refine regB_take (i := 5) (d := some 127) (v := (.slice (some ⟨bv, ov, none⟩) lq cv)) rfl rfl (by kernel_rfl) (by kernel_rfl) (by kernel_rfl) (fun _ _ _ h => h) (by rfl) (by intro w' hSw; go_simp) ?_
        try simp only [Act.put, List.setIfInBounds_toArray, List.set_cons_zero, List.set_cons_succ]
        refine regB_take (i := 6) (d := some 128) (v := (.int .i64 (j : Int))) rfl rfl (by kernel_rfl) (by kernel_rfl) (by kernel_rfl) (fun _ _ _ h => h) (by rfl) (by intro w' hSw; go_simp) ?_
        try simp only [Act.put, List.setIfInBounds_toArray, List.set_cons_zero, List.set_cons_succ]
        refine regB_take (i := 7) (d := some 129) (v := (.pointer (some ⟨bv, ov + j, none⟩))) rfl rfl (by kernel_rfl) (by kernel_rfl) (by kernel_rfl) (fun _ _ _ h => h) (by rfl) (by intro w' hSw; go_simp) ?_
        try simp only [Act.put, List.setIfInBounds_toArray, List.set_cons_zero, List.set_cons_succ]
        refine regB_take (i := 8) (d := some 130) (v := (.string Y)) rfl rfl (by kernel_rfl) (by kernel_rfl) (by kernel_rfl) (fun _ _ _ h => h) (by rfl) (by intro w' hSw; have h9 := HCY.out w' hSw; go_simp) ?_
        try simp only [Act.put, List.setIfInBounds_toArray, List.set_cons_zero, List.set_cons_succ]
        refine regB_two (i := 4) (j := 9) rfl rfl (by kernel_rfl) (by rfl) (by rfl) (fun K hK => ?_) (fun K hK => ?_)
        · refine wp_toBytesD (some 126) rfl 9 49 5 (.tmp 125) rfl SealW.underStr SealW.underBytes SealW.underU8 X rfl (by have := HZX.out; unfold maxLen; omega) ?_
          intro A4 c4 w4 hb4 s4 k4 m4 a4
          have b4 := br0.trans (hb4.mono br0.size)
          try simp only [Act.put]
          refine hK.out _ _ (hb4.mono br0.size) ?_
          clear hK K
          try simp only [List.setIfInBounds_toArray, List.set_cons_zero, List.set_cons_succ]
          refine regB_call (i := 9) rfl (by kernel_rfl) (by rfl) fun K hK => ?_
          refine wp_toBytesD (some 131) rfl 9 49 5 (.tmp 130) rfl SealW.underStr SealW.underBytes SealW.underU8 Y rfl (by have := HZY.out; unfold maxLen; omega) ?_
          intro A9 c9 w9 hb9 s9 k9 m9 a9
          have b9 := b4.trans (hb9.mono b4.size)
          have s4 := s4.below hb9
          try simp only [Act.put]
          refine hK.out _ _ (hb9.mono b4.size) ?_
          clear hK K
          try simp only [List.setIfInBounds_toArray, List.set_cons_zero, List.set_cons_succ]
          refine regB_take (i := 10) (d := some 132) (v := (.agg #[.slice A4 X.size c4, .slice A9 Y.size c9])) rfl rfl (by kernel_rfl) (by kernel_rfl) (by kernel_rfl) (fun _ _ _ h => h) (by rfl) (by intro w' hSw; go_simp) ?_
          try simp only [Act.put, List.setIfInBounds_toArray, List.set_cons_zero, List.set_cons_succ]
          refine regB_call (i := 11) rfl (by kernel_rfl) (by rfl) fun K hK => ?_
          go_simp
          refine (SealW.is_any A4 X.size c4 X.data.toList A9 Y.size c9 Y.data.toList _ (HT.out _ (br.trans (b9.mono br.size))) (bsize X) s4 (bsize Y) s9 (by have := HZX.out; omega) (by have := HZY.out; omega) k4 (by unfold maxLen at m4; omega) k9 (by unfold maxLen at m9; omega)).mono ?_
          rintro e w5 ⟨rfl, hb5⟩
          have b5 := b9.trans (hb5.mono b9.size)
          rw [HRES.out]
          refine hK.out _ _ (hb5.mono b9.size) ?_
          clear hK K
          try simp only [List.setIfInBounds_toArray, List.set_cons_zero, List.set_cons_succ]
          refine wpAnyH_done (by kernel_rfl) ?_ _
          have bz := br.trans (b5.mono br.size)
          go_wp2_with fail
          refine (knows_any _ (HT.out _ bz)).mono ?_
          rintro e wk ⟨rfl, hbk⟩
          have bk := bz.trans (hbk.mono bz.size)
          go_wp2_with fail
          go_ret
          exact ⟨rfl, bk⟩
        · refine wp_toBytesD (some 131) rfl 9 49 5 (.tmp 130) rfl SealW.underStr SealW.underBytes SealW.underU8 Y rfl (by have := HZY.out; unfold maxLen; omega) ?_
          intro A9 c9 w9 hb9 s9 k9 m9 a9
          have b9 := br0.trans (hb9.mono br0.size)
          try simp only [Act.put]
          refine hK.out _ _ (hb9.mono br0.size) ?_
          clear hK K
          try simp only [List.setIfInBounds_toArray, List.set_cons_zero, List.set_cons_succ]
          refine regB_call (i := 4) rfl (by kernel_rfl) (by rfl) fun K hK => ?_
          refine wp_toBytesD (some 126) rfl 9 49 5 (.tmp 125) rfl SealW.underStr SealW.underBytes SealW.underU8 X rfl (by have := HZX.out; unfold maxLen; omega) ?_
          intro A4 c4 w4 hb4 s4 k4 m4 a4
          have b4 := b9.trans (hb4.mono b9.size)
          have s9 := s9.below hb4
          try simp only [Act.put]
          refine hK.out _ _ (hb4.mono b9.size) ?_
          clear hK K
          try simp only [List.setIfInBounds_toArray, List.set_cons_zero, List.set_cons_succ]
          refine regB_take (i := 10) (d := some 132) (v := (.agg #[.slice A4 X.size c4, .slice A9 Y.size c9])) rfl rfl (by kernel_rfl) (by kernel_rfl) (by kernel_rfl) (fun _ _ _ h => h) (by rfl) (by intro w' hSw; go_simp) ?_
          try simp only [Act.put, List.setIfInBounds_toArray, List.set_cons_zero, List.set_cons_succ]
          refine regB_call (i := 11) rfl (by kernel_rfl) (by rfl) fun K hK => ?_
          go_simp
          refine (SealW.is_any A4 X.size c4 X.data.toList A9 Y.size c9 Y.data.toList _ (HT.out _ (br.trans (b4.mono br.size))) (bsize X) s4 (bsize Y) s9 (by have := HZX.out; omega) (by have := HZY.out; omega) k4 (by unfold maxLen at m4; omega) k9 (by unfold maxLen at m9; omega)).mono ?_
          rintro e w5 ⟨rfl, hb5⟩
          have b5 := b4.trans (hb5.mono b4.size)
          rw [HRES.out]
          refine hK.out _ _ (hb5.mono b4.size) ?_
          clear hK K
          try simp only [List.setIfInBounds_toArray, List.set_cons_zero, List.set_cons_succ]
          refine wpAnyH_done (by kernel_rfl) ?_ _
          have bz := br.trans (b5.mono br.size)
          go_wp2_with fail
          refine (knows_any _ (HT.out _ bz)).mono ?_
          rintro e wk ⟨rfl, hbk⟩
          have bk := bz.trans (hbk.mono bz.size)
          go_wp2_with fail
          go_ret
          exact ⟨rfl, bk⟩
      · have HRES : Hid (decide (X.data.toList ≠ Y.data.toList ∧ sha X.data.toList = sha Y.data.toList) = false) := decide_eq_false hres
        have hjK : ¬ j = K := fun h => hres (HKK.out h)
        clear hres HKK
        go_wp2_with fail
        refine regB_begin (wr.heap.size) (by kernel_rfl) ?_
        change wpAnyH _ _ _ _ _ 12 #[false, false, false, false, false, false, false, false, false, false, false, false] _ _
        refine regB_take (i := 0) (d := some 122) (v := (.slice (some ⟨bu, ou, none⟩) lq cu)) rfl rfl (by kernel_rfl) (by kernel_rfl) (by kernel_rfl) (fun _ _ _ h => h) (by rfl) (by intro w' hSw; go_simp) ?_
        try simp only [Act.put, List.setIfInBounds_toArray, List.set_cons_zero, List.set_cons_succ]
        refine regB_take (i := 1) (d := some 123) (v := (.int .i64 (j : Int))) rfl rfl (by kernel_rfl) (by kernel_rfl) (by kernel_rfl) (fun _ _ _ h => h) (by rfl) (by intro w' hSw; go_simp) ?_
        try simp only [Act.put, List.setIfInBounds_toArray, List.set_cons_zero, List.set_cons_succ]
        refine regB_take (i := 2) (d := some 124) (v := (.pointer (some ⟨bu, ou + j, none⟩))) rfl rfl (by kernel_rfl) (by kernel_rfl) (by kernel_rfl) (fun _ _ _ h => h) (by rfl) (by intro w' hSw; go_simp) ?_
        try simp only [Act.put, List.setIfInBounds_toArray, List.set_cons_zero, List.set_cons_succ]
        refine regB_take (i := 3) (d := some 125) (v := (.string X)) rfl rfl (by kernel_rfl) (by kernel_rfl) (by kernel_rfl) (fun _ _ _ h => h) (by rfl) (by intro w' hSw; have h9 := HCX.out w' hSw; go_simp) ?_
        try simp only [Act.put, List.setIfInBounds_toArray, List.set_cons_zero, List.set_cons_succ]
        refine regB_take (i := 5) (d := some 127) (v := (.slice (some ⟨bv, ov, none⟩) lq cv)) rfl rfl (by kernel_rfl) (by kernel_rfl) (by kernel_rfl) (fun _ _ _ h => h) (by rfl) (by intro w' hSw; go_simp) ?_
        try simp only [Act.put, List.setIfInBounds_toArray, List.set_cons_zero, List.set_cons_succ]
        refine regB_take (i := 6) (d := some 128) (v := (.int .i64 (j : Int))) rfl rfl (by kernel_rfl) (by kernel_rfl) (by kernel_rfl) (fun _ _ _ h => h) (by rfl) (by intro w' hSw; go_simp) ?_
        try simp only [Act.put, List.setIfInBounds_toArray, List.set_cons_zero, List.set_cons_succ]
        refine regB_take (i := 7) (d := some 129) (v := (.pointer (some ⟨bv, ov + j, none⟩))) rfl rfl (by kernel_rfl) (by kernel_rfl) (by kernel_rfl) (fun _ _ _ h => h) (by rfl) (by intro w' hSw; go_simp) ?_
        try simp only [Act.put, List.setIfInBounds_toArray, List.set_cons_zero, List.set_cons_succ]
        refine regB_take (i := 8) (d := some 130) (v := (.string Y)) rfl rfl (by kernel_rfl) (by kernel_rfl) (by kernel_rfl) (fun _ _ _ h => h) (by rfl) (by intro w' hSw; have h9 := HCY.out w' hSw; go_simp) ?_
        try simp only [Act.put, List.setIfInBounds_toArray, List.set_cons_zero, List.set_cons_succ]
        refine regB_two (i := 4) (j := 9) rfl rfl (by kernel_rfl) (by rfl) (by rfl) (fun K hK => ?_) (fun K hK => ?_)
        · refine wp_toBytesD (some 126) rfl 9 49 5 (.tmp 125) rfl SealW.underStr SealW.underBytes SealW.underU8 X rfl (by have := HZX.out; unfold maxLen; omega) ?_
          intro A4 c4 w4 hb4 s4 k4 m4 a4
          have b4 := br0.trans (hb4.mono br0.size)
          try simp only [Act.put]
          refine hK.out _ _ (hb4.mono br0.size) ?_
          clear hK K
          try simp only [List.setIfInBounds_toArray, List.set_cons_zero, List.set_cons_succ]
          refine regB_call (i := 9) rfl (by kernel_rfl) (by rfl) fun K hK => ?_
          refine wp_toBytesD (some 131) rfl 9 49 5 (.tmp 130) rfl SealW.underStr SealW.underBytes SealW.underU8 Y rfl (by have := HZY.out; unfold maxLen; omega) ?_
          intro A9 c9 w9 hb9 s9 k9 m9 a9
          have b9 := b4.trans (hb9.mono b4.size)
          have s4 := s4.below hb9
          try simp only [Act.put]
          refine hK.out _ _ (hb9.mono b4.size) ?_
          clear hK K
          try simp only [List.setIfInBounds_toArray, List.set_cons_zero, List.set_cons_succ]
          refine regB_take (i := 10) (d := some 132) (v := (.agg #[.slice A4 X.size c4, .slice A9 Y.size c9])) rfl rfl (by kernel_rfl) (by kernel_rfl) (by kernel_rfl) (fun _ _ _ h => h) (by rfl) (by intro w' hSw; go_simp) ?_
          try simp only [Act.put, List.setIfInBounds_toArray, List.set_cons_zero, List.set_cons_succ]
          refine regB_call (i := 11) rfl (by kernel_rfl) (by rfl) fun K hK => ?_
          go_simp
          refine (SealW.is_any A4 X.size c4 X.data.toList A9 Y.size c9 Y.data.toList _ (HT.out _ (br.trans (b9.mono br.size))) (bsize X) s4 (bsize Y) s9 (by have := HZX.out; omega) (by have := HZY.out; omega) k4 (by unfold maxLen at m4; omega) k9 (by unfold maxLen at m9; omega)).mono ?_
          rintro e w5 ⟨rfl, hb5⟩
          have b5 := b9.trans (hb5.mono b9.size)
          rw [HRES.out]
          refine hK.out _ _ (hb5.mono b9.size) ?_
          clear hK K
          try simp only [List.setIfInBounds_toArray, List.set_cons_zero, List.set_cons_succ]
          refine wpAnyH_done (by kernel_rfl) ?_ _
          clear s4 s9 k4 m4 a4 k9 m9 a9
          go_wp2_with fail
          go_roundw
          case rel => exact ⟨j + 1, by omega, by go_num, hbel.trans (b5.mono hbel.size)⟩
          case measure => simp [intOf]; omega
        · refine wp_toBytesD (some 131) rfl 9 49 5 (.tmp 130) rfl SealW.underStr SealW.underBytes SealW.underU8 Y rfl (by have := HZY.out; unfold maxLen; omega) ?_
          intro A9 c9 w9 hb9 s9 k9 m9 a9
          have b9 := br0.trans (hb9.mono br0.size)
          try simp only [Act.put]
          refine hK.out _ _ (hb9.mono br0.size) ?_
          clear hK K
          try simp only [List.setIfInBounds_toArray, List.set_cons_zero, List.set_cons_succ]
          refine regB_call (i := 4) rfl (by kernel_rfl) (by rfl) fun K hK => ?_
          refine wp_toBytesD (some 126) rfl 9 49 5 (.tmp 125) rfl SealW.underStr SealW.underBytes SealW.underU8 X rfl (by have := HZX.out; unfold maxLen; omega) ?_
          intro A4 c4 w4 hb4 s4 k4 m4 a4
          have b4 := b9.trans (hb4.mono b9.size)
          have s9 := s9.below hb4
          try simp only [Act.put]
          refine hK.out _ _ (hb4.mono b9.size) ?_
          clear hK K
          try simp only [List.setIfInBounds_toArray, List.set_cons_zero, List.set_cons_succ]
          refine regB_take (i := 10) (d := some 132) (v := (.agg #[.slice A4 X.size c4, .slice A9 Y.size c9])) rfl rfl (by kernel_rfl) (by kernel_rfl) (by kernel_rfl) (fun _ _ _ h => h) (by rfl) (by intro w' hSw; go_simp) ?_
          try simp only [Act.put, List.setIfInBounds_toArray, List.set_cons_zero, List.set_cons_succ]
          refine regB_call (i := 11) rfl (by kernel_rfl) (by rfl) fun K hK => ?_
          go_simp
          refine (SealW.is_any A4 X.size c4 X.data.toList A9 Y.size c9 Y.data.toList _ (HT.out _ (br.trans (b4.mono br.size))) (bsize X) s4 (bsize Y) s9 (by have := HZX.out; omega) (by have := HZY.out; omega) k4 (by unfold maxLen at m4; omega) k9 (by unfold maxLen at m9; omega)).mono ?_
          rintro e w5 ⟨rfl, hb5⟩
          have b5 := b4.trans (hb5.mono b4.size)
          rw [HRES.out]
          refine hK.out _ _ (hb5.mono b4.size) ?_
          clear hK K
          try simp only [List.setIfInBounds_toArray, List.set_cons_zero, List.set_cons_succ]
          refine wpAnyH_done (by kernel_rfl) ?_ _
          clear s4 s9 k4 m4 a4 k9 m9 a9
          go_wp2_with fail
          go_roundw
          case rel => exact ⟨j + 1, by omega, by go_num, hbel.trans (b5.mono hbel.size)⟩
          case measure => simp [intOf]; omega
  · have e1 := SealW.beq_no hab
    have e2 := SealW.beq_no hxy
    clear hab hxy
    go_enter Tryd.func8, Tryd.ntmps8
    go_wp2_with fail
    refine (great_not A lp cp ps _ HP.out hA (by omega) HGP.out).mono ?_
    rintro e w1 ⟨rfl, rfl⟩
    go_wp2_with fail
    refine (great_not B lq cq qs _ HQ.out hB (by omega) HGQ.out).mono ?_
    rintro e w1 ⟨rfl, rfl⟩
    go_wp2_with fail
    refine (climb_ok a i n A lp cp ps _ (HT.out _ b0) HA32.out hi hn HP.out hA (by omega) HSP.out HDP.out).mono ?_
    rintro e w2 ⟨rfl, hb2⟩
    have b2 := b0.trans (hb2.mono b0.size)
    go_wp2_with fail
    refine (climb_ok b i n B lq cq qs _ (HT.out _ b2) HB32.out hi hn HQ.out (hB.below b2) (by omega) HSQ.out HDQ.out).mono ?_
    rintro e w3 ⟨rfl, hb3⟩
    have b3 := b2.trans (hb3.mono b2.size)
    go_wp2_with fail
    refine (knows_any _ (HT.out _ b3)).mono ?_
    rintro e wk ⟨rfl, hbk⟩
    have bk := b3.trans (hbk.mono b3.size)
    go_wp2_with fail
    go_ret
    exact ⟨rfl, bk⟩
end Go.Proofs.YtmebogaenbjmnaaDoor.TrW
