/- The laws UtfBack. -/
import Derived.Test.YthgbmeighgpkgaaDoorUm
import Derived.Test.YthgbmeighgpkgaaDoorInts
namespace Go.Proofs.YthgbmeighgpkgaaDoor.UtfW
open Go.RowKit
theorem flat_len (ks : List Nat) : (ks.flatMap encU).length ≤ 4 * ks.length := by
  induction ks with
  | nil => simp
  | cons k ks ih => have := encU_le4 k; rw [List.flatMap_cons, List.length_append, List.length_cons]; omega
theorem own_apart {w w' : World} {B B2 : Nat} {e e2 : TypeId} {v v2 : Value} {n n2 : Nat} {xs xs2 : List Value} (hne : e ≠ e2) (h : w.ownsRow B e 1 v n xs) (h2 : w.ownsRow B2 e2 1 v2 n2 xs2) (hg : w.grownBy w' v2.ownBlock) : w'.ownsRow B e 1 v n xs := by
  refine h.kept hg ?_
  rcases h.2 with ⟨rfl, _⟩ | ⟨g, cap, cur, rfl, _, hh, _⟩
  · exact .inl rfl
  · right
    rcases h2.2 with ⟨rfl, _⟩ | ⟨g2, cap2, cur2, rfl, _, hh2, _⟩
    · simp [Value.ownBlock]
    · intro heq
      simp only [Value.ownBlock, Option.some.injEq] at heq
      subst heq
      rw [hh] at hh2
      simp only [Option.some.injEq, Obj.cells.injEq] at hh2
      exact hne hh2.2.1
set_option maxRecDepth 1000000 in
set_option maxHeartbeats 2000000 in
theorem lawBack (A : Option Addr) (n c : Nat) (zs : List Int) (w : World) (hT : Tabs w) (hn : zs.length = n) (hA : Sl w A (zcells zs)) :
    Calls Tryd.prog 6 #[.slice A n c] w fun e w' => e = .returned (.bool true) ∧ Below w.heap.size w w' := by
  have HT := Lib.hid (fun W (hb : Below w.heap.size w W) => hT.below hb hT.pos)
  have HM := Lib.hid hn
  clear hn
  by_cases hg : 200 < n
  · go_enter Tryd.func6, Tryd.ntmps6
    go_wp2_with fail
    refine (knows_any _ hT).mono ?_
    rintro e w1 ⟨rfl, b1⟩
    go_wp2_with fail
    go_ret
    exact ⟨rfl, b1⟩
  · clear hT
    go_enter Tryd.func6, Tryd.ntmps6
    go_wp2_with fail
    go_loopw [3, 4, 5] (fun b kept i wr => ∃ (k : Nat) (ks : List Nat), k ≤ n ∧ i = .int .i64 (k : Int) ∧ ks.length ≤ k ∧ Hid (∀ x ∈ ks, rightC (x : Int)) ∧ Ow w.heap.size wr b (ks.flatMap encU) ∧ OwI w.heap.size wr kept ks ∧ Below w.heap.size w wr) (fun _ _ i _ => n - (intOf i).toNat)
    case atStart => exact ⟨0, [], by omega, rfl, Nat.le_refl _, (fun x hx => by cases hx), Ow.nil _ _, OwI.nil _ _, Below.refl _ _⟩
    case round =>
      obtain ⟨k, ks, hk, rfl, hkk, HR, hb, hkept, hbel⟩ := hrel
      have hs := hbel.size
      have hfl := flat_len ks
      by_cases hlt : k < n
      · obtain ⟨p, o, rfl, hplt, hpc⟩ := hA.get (j := k) (by rw [zcells_len, HM.out]; exact hlt)
        have hc0 := hpc k _ (zcells_get zs k (by rw [HM.out]; exact hlt))
        have HC : Hid (∀ W : World, Below w.heap.size w W → W.cell? ⟨p, o + k, none⟩ = some (.int .i64 (zs.getD k 0))) := fun W hW => (hW.cell (p := ⟨p, o + k, none⟩) hplt).trans hc0
        clear hpc hc0
        generalize zs.getD k 0 = z at *
        have c0 := HC.out _ hbel
        by_cases hr : rightC z
        · obtain ⟨y, rfl⟩ : ∃ y : Nat, z = (y : Int) := ⟨z.toNat, by unfold rightC at hr; omega⟩
          have h4 := encU_le4 y
          obtain ⟨ne, hne⟩ : ∃ ne, (encU y).length = ne := ⟨_, rfl⟩
          obtain ⟨nf, hnf⟩ : ∃ nf, (ks.flatMap encU).length = nf := ⟨_, rfl⟩
          rw [hne] at h4
          rw [hnf] at hfl
          have HNE := Lib.hid hne
          have HNF := Lib.hid hnf
          clear hne hnf
          have HI := Lib.hid (fun (W : World) => new_int W y)
          go_wp2_with fail
          refine (encode_ok y _ (HT.out _ hbel) hr).mono ?_
          rintro e w2 ⟨v2, rfl, hown2, hb2⟩
          have b2 := hbel.trans (hb2.mono hs)
          have s2 := b2.size
          have hb' := hb.below hb2
          have hkept' := hkept.below hb2
          unfold Ow at hb'
          rw [HNF.out] at hb'
          obtain ⟨A2, c2, rfl, hs2, _, _, _⟩ := hown2.slice
          rw [HNE.out]
          clear c0 hb hkept hown2 hb2
          go_wp2_with (first
            | (refine wpList_app rfl (.tmp 30) (.tmp 31) 22 rfl bytesTy w.heap.size u3 nf (bcells (ks.flatMap encU)) rfl hb' A2 ne c2 (bcells (encU y)) rfl (by rw [bcells_len]; exact HNE.out) hs2 (bcells_one _) (by omega) s2 ?_; intro v3 w3 hown3 hgr3 hbl3; have b3 := below_app b2 hgr3 hb' (Nat.le_refl _) s2; have s3 := b3.size; have c1 := HC.out _ b3; have kept3 := own_apart (by decide) hkept' hb' hgr3; have B3A := Lib.hid (fun (o : Obj) => b3.alloc s3 o); clear hb' hkept' hgr3 hbl3 hs2)
            | (refine wpList_app rfl (.tmp 33) (.tmp 38) 29 rfl intsTy w.heap.size u4 ks.length (icells ks) rfl (kept3.alloc _) _ 1 1 (icells [y]) rfl rfl (HI.out _) (icells_one _) (by omega) (by simp; omega) ?_; intro v4 w4 hown4 hgr4 hbl4; have b4 := below_app (B3A.out _) hgr4 (kept3.alloc (.cells #[.int .i64 (y : Int)] 3)) (Nat.le_refl _) (by simp; omega); have own3 := own_apart (by decide) (hown3.alloc (.cells #[.int .i64 (y : Int)] 3)) (kept3.alloc (.cells #[.int .i64 (y : Int)] 3)) hgr4; clear hown3 kept3 B3A b3 hgr4 hbl4))
          clear c1
          have HR2 := Lib.hid (fun x (hx : x ∈ ks ++ [y]) => (List.mem_append.1 hx).elim (fun h => HR.out x h) (fun h => by rw [List.mem_singleton.1 h]; exact hr))
          clear hr
          go_roundw
          case rel =>
            refine ⟨k + 1, ks ++ [y], by omega, by go_num, ?_, HR2, ?_, snoc_ownI rfl hown4, b4⟩
            · rw [List.length_append, List.length_singleton]; omega
            · unfold Ow
              rw [List.flatMap_append, List.flatMap_cons, List.flatMap_nil, List.append_nil, List.length_append, HNF.out, HNE.out, ← bcells_app]
              exact own3
          case measure => simp [intOf]; omega
        · have hd := Lib.hid (decide_eq_false hr)
          go_wp2_with fail
          refine (encode_bad z _ hr).mono ?_
          rintro e w2 ⟨rfl, rfl⟩
          go_wp2_with fail
          refine (refRight z _).mono ?_
          rintro e w2 ⟨rfl, rfl⟩
          rw [hd.out]
          clear hr
          go_wp2_with fail
          clear c0
          go_roundw
          case rel => exact ⟨k + 1, ks, by omega, by go_num, by omega, HR, hb, hkept, hbel⟩
          case measure => simp [intOf]; omega
      · have HB := Lib.hid (dec_back ks HR.out)
        obtain ⟨N, hN⟩ : ∃ N, ks.length = N := ⟨_, rfl⟩
        obtain ⟨nf, hnf⟩ : ∃ nf, (ks.flatMap encU).length = nf := ⟨_, rfl⟩
        have HN := Lib.hid hN
        have HNF := Lib.hid hnf
        obtain ⟨L, hL⟩ : ∃ L, L = ks := ⟨_, rfl⟩
        obtain ⟨A3, c3, rfl, hs3, hc3, hm3, _⟩ := hb.slice
        obtain ⟨A4, c4, rfl, hs4, _, _, _⟩ := hkept.slice
        rw [hN, hnf]
        rw [hN] at hkk hfl
        rw [hnf] at hfl hc3
        clear hN hnf hb hkept
        go_wp2_with fail
        refine (decode_any A3 nf c3 (ks.flatMap encU) _ (HT.out _ hbel) HNF.out hs3 hc3 (by unfold maxLen at hm3; omega) (by omega)).mono ?_
        rintro e w3 ⟨v3, rfl, hown3, hb3⟩
        rw [HB.out, ← hL] at hown3
        rw [← hL] at hs4 HN
        have b3 := hbel.trans (hb3.mono hs)
        obtain ⟨A5, c5, rfl, hs1, _, _, _⟩ := hown3.slice
        have hs2 := hs4.below hb3
        rw [HN.out]
        clear hs3 hs4 hown3 hb3 hL HB HNF HR hc3 hm3 hfl
        go_wp2_with fail
        go_loopw [9] (fun i wr => ∃ k : Nat, k ≤ N ∧ i = .int .i64 (k : Int) ∧ Below w.heap.size w wr ∧ Below w3.heap.size w3 wr) (fun i _ => N - (intOf i).toNat)
        case atStart => exact ⟨0, by omega, rfl, b3, Below.refl _ _⟩
        case round =>
          obtain ⟨k, hk, rfl, hbel, hbel3⟩ := hrel
          by_cases hlt : k < N
          · obtain ⟨p, o, rfl, hplt, hpc⟩ := hs1.get (j := k) (by rw [icells_len, HN.out]; exact hlt)
            obtain ⟨q, r, rfl, hqlt, hqc⟩ := hs2.get (j := k) (by rw [icells_len, HN.out]; exact hlt)
            have c1 := (hbel3.cell (p := ⟨p, o + k, none⟩) hplt).trans (hpc k _ (icells_get L k (by rw [HN.out]; exact hlt)))
            have c2 := (hbel3.cell (p := ⟨q, r + k, none⟩) hqlt).trans (hqc k _ (icells_get L k (by rw [HN.out]; exact hlt)))
            clear hpc hqc
            generalize L.getD k 0 = y at *
            go_wp2_with fail
            go_quiet (fail)
            go_wp2_with fail
            clear c1 c2
            go_roundw
            case rel => exact ⟨k + 1, by omega, by go_num, below_drewN hbel _, below_drewN hbel3 _⟩
            case measure => simp [intOf]; omega
          · go_wp2_with fail
            refine (knows_any _ (HT.out _ hbel)).mono ?_
            rintro e w9 ⟨rfl, hb9⟩
            go_wp2_with fail
            go_ret
            exact ⟨rfl, hbel.trans (hb9.mono hbel.size)⟩
end Go.Proofs.YthgbmeighgpkgaaDoor.UtfW
