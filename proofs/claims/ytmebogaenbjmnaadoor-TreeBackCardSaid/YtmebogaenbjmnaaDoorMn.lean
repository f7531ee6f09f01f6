/- TreeBack: a path leads from its leaf to the root. -/
import Derived.Test.YtmebogaenbjmnaaDoorMj
namespace Go.Proofs.YtmebogaenbjmnaaDoor.TrW
open Go.RowKit TreeW
open ShaW Sha
theorem path_digs : ∀ (m : Nat) (ss : List ByteArray) (i : Nat), ss.length ≤ m → Digs ss → Digs (path nd ed ss i)
  | m, ss, i, hm, h => by
    by_cases h2 : ss.length < 2
    · rw [path_one nd ed ss i h2]; intro x hx; simp at hx
    · obtain ⟨a, b, _, _⟩ := split_spec (n := ss.length) (by omega)
      cases m with
      | zero => omega
      | succ m =>
        rw [path_two nd ed ss i (by omega)]
        split
        · exact digs_push (path_digs m _ i (by rw [List.length_take]; omega) (h.take _)) (rt_size _ _ (Nat.le_refl _) (h.drop _))
        · exact digs_push (path_digs m _ _ (by rw [List.length_drop]; omega) (h.drop _)) (rt_size _ _ (Nat.le_refl _) (h.take _))
set_option maxRecDepth 1000000 in
set_option maxHeartbeats 4000000 in
theorem lawBack (A : Option Addr) (l c : Nat) (vs : List Value) (bss : List (List UInt8)) (place : Int) (w : World) (hT : Tab w) (hl : bss.length = l) (hA : Sl w A vs) (hR : RowsAt w vs bss) (hlc : l ≤ c) (hc63 : c ≤ 9223372036854775807) :
    Calls Tryd.prog 6 #[.slice A l c, .int .i64 place] w fun e w' => e = .returned (.bool true) ∧ Below w.heap.size w w' := by
  have hpos := hT.pos
  have HT := Lib.hid (fun W (hb : Below w.heap.size w W) => hT.below hb hpos)
  have b0 : Below w.heap.size w w := Below.refl _ _
  have HL := Lib.hid hl
  have HR := Lib.hid hR
  clear hl hT hpos hR
  go_enter Tryd.func6, Tryd.ntmps6
  go_wp2_with fail
  refine (digests_law A l c vs bss _ HL.out hA HR.out (by omega)).mono ?_
  rintro e w1 ⟨v, rfl, hown, hb1⟩
  have b1 := b0.trans (hb1.mono b0.size)
  have hlen := dg_len (bss.take 60)
  have hdig := dg_digs (bss.take 60)
  obtain ⟨ds, hds⟩ : ∃ ds, dg (bss.take 60) = ds := ⟨_, rfl⟩
  rw [hds] at hown hlen hdig
  obtain ⟨A1, c1, rfl, hs1, hc1, hm1, _⟩ := hown.slice
  obtain ⟨m, hm⟩ : ∃ m, ds.length = m := ⟨_, rfl⟩
  have HM := Lib.hid hm
  have HD := Lib.hid hdig
  have hm60 : m ≤ 60 := by rw [← hm]; exact Nat.le_trans hlen (by rw [List.length_take]; omega)
  rw [hm] at hc1 ⊢
  clear hown hlen hdig hds hm hb1 HR hA
  by_cases hz : m = 0
  · subst hz
    go_wp2_with fail
    refine (knows_any _ (HT.out _ b1)).mono ?_
    rintro e wk ⟨rfl, hbk⟩
    have bk := b1.trans (hbk.mono b1.size)
    go_wp2_with fail
    go_ret
    exact ⟨rfl, bk⟩
  · have hne : ((m : Int) == 0) = false := by simpa using hz
    have hu : 0 ≤ IntKind.u64.wrap place := by rw [IntKind.wrap_u64]; omega
    obtain ⟨i, hi⟩ : ∃ i : Nat, (IntKind.u64.wrap place).tmod (m : Int) = (i : Int) := ⟨((IntKind.u64.wrap place).tmod (m : Int)).toNat, by
      have := Int.tmod_nonneg (m : Int) hu
      omega⟩
    have him : i < m := by
      have h1 : (IntKind.u64.wrap place).tmod (m : Int) < (m : Int) := Int.tmod_lt_of_pos _ (by omega)
      omega
    have hget := get_of (ss := ds) (j := i) (by rw [HM.out]; exact him)
    obtain ⟨x, hx⟩ : ∃ x, ds.getD i ⟨#[]⟩ = x := ⟨_, rfl⟩
    rw [hx] at hget
    have HX := Lib.hid (HD.out x (List.mem_of_getElem? hget))
    have HCP := Lib.hid (climb_path nd ed m ds i x (by rw [HM.out]; omega) hget)
    have HG := Lib.hid hget
    have HPL := Lib.hid (path_len nd ed m ds i (by rw [HM.out]; omega))
    have HRZ := Lib.hid (rt_size m ds (by rw [HM.out]; omega) HD.out)
    clear hu hx hget
    go_wp2_with fail
    refine (path_ok A1 m c1 ds i _ (HT.out _ b1) HM.out hs1 HD.out him hc1 (by omega)).mono ?_
    rintro e w2 ⟨v2, rfl, hown2, hb2⟩
    have b2 := b1.trans (hb2.mono b1.size)
    have hs2 := hs1.below hb2
    obtain ⟨A2, c2, rfl, sl2, _, _, _⟩ := hown2.slice
    obtain ⟨P, hP⟩ : ∃ P, path nd ed ds i = P := ⟨_, rfl⟩
    have HP := Lib.hid hP
    obtain ⟨q, hq⟩ : ∃ q, P.length = q := ⟨_, rfl⟩
    have HQ := Lib.hid hq
    rw [hP] at sl2 ⊢
    rw [hq]
    have hqm : q ≤ m := by rw [← hq, ← hP]; exact Nat.le_trans (path_le ds i) (by rw [HM.out]; omega)
    clear hown2 hb2 hs1 hP hq
    go_wp2_with fail
    refine (Root_ok A1 m c1 ds _ (HT.out _ b2) HM.out hs2 hc1 (by omega) HD.out).mono ?_
    rintro e w3 ⟨rfl, hb3⟩
    have b3 := b2.trans (hb3.mono b2.size)
    have hs3 := hs2.below hb3
    have sl3 := sl2.below hb3
    obtain ⟨b, o, rfl, hblt, hcell⟩ := hs3.get (j := i) (by rw [scells_len, HM.out]; exact him)
    have hc0 := hcell i _ (scells_at HG.out)
    clear hb3 hs2 sl2 hcell
    go_wp2_with fail
    refine (climb_ok x i m A2 q c2 P _ (HT.out _ b3) HX.out him (by omega) HQ.out sl3 (by omega) (by rw [← HQ.out, ← HP.out, HPL.out, HM.out]) (by rw [← HP.out]; exact path_digs m ds i (by rw [HM.out]; omega) HD.out)).mono ?_
    rintro e w4 ⟨rfl, hb4⟩
    have HC : Hid (climb nd ed x i m P = rt ds) := by
      show _ = _
      have := HCP.out
      rw [HM.out, HP.out] at this
      exact this
    rw [HC.out]
    have b4 := b3.trans (hb4.mono b3.size)
    have hz4 : ((rt ds).size : Int) = 32 := by have := HRZ.out; omega
    clear hb4 hc0
    go_wp2_with fail
    refine (knows_any _ (HT.out _ b4)).mono ?_
    rintro e wk ⟨rfl, hbk⟩
    have bk := b4.trans (hbk.mono b4.size)
    go_wp2_with fail
    go_ret
    exact ⟨rfl, bk⟩
end Go.Proofs.YtmebogaenbjmnaaDoor.TrW
