/- tree: root. -/
import Derived.Test.YtmebogaenbjmnaaDoorMb
import Derived.Lib.RabinKarpLaws
namespace Go.Proofs.YtmebogaenbjmnaaDoor.TrW
open Go.RowKit TreeW
open ShaW Sha
theorem take_snoc {ss : List ByteArray} {j : Nat} {s : ByteArray} (hs : ss[j]? = some s) : ss.take (j + 1) = ss.take j ++ [s] := by
  rw [List.take_add_one, hs]; rfl
theorem push_full {ss st : List ByteArray} {j : Nat} {s : ByteArray} (h : Full nd ed (ss.take j) st) (hs : ss[j]? = some s) : Mid nd ed (ss.take (j + 1)) (j + 1) (st ++ [s]) := by
  rw [take_snoc hs]
  have hj := (List.getElem?_eq_some_iff.1 hs).1
  have e : (ss.take j).length = j := by rw [List.length_take]; omega
  have := h.push s
  rwa [e] at this
/-- Each on the stack is a digest. -/
theorem digs_two {st : List ByteArray} {x y : ByteArray} (h : Digs (st ++ [x, y])) : Digs st ∧ x.size = 32 ∧ y.size = 32 :=
  ⟨fun z hz => h z (List.mem_append_left _ hz), h x (by simp), h y (by simp)⟩
theorem digs_join {st : List ByteArray} {x y : ByteArray} (h : Digs (st ++ [x, y])) : Digs (st ++ [nd x y]) := by
  intro z hz
  rcases List.mem_append.1 hz with hz | hz
  · exact h z (List.mem_append_left _ hz)
  · simp at hz; subst hz; exact nd_size _ _
theorem digs_push {st : List ByteArray} {s : ByteArray} (h : Digs st) (hs : s.size = 32) : Digs (st ++ [s]) := by
  intro z hz
  rcases List.mem_append.1 hz with hz | hz
  · exact h z hz
  · simp at hz; subst hz; exact hs
set_option maxRecDepth 1000000 in
set_option maxHeartbeats 2000000 in
theorem root_any (A : Option Addr) (l c : Nat) (ss : List ByteArray) (w : World) (hT : Tab w) (hl : ss.length = l) (hs : Sl w A (scells ss)) (hd : Digs ss) (hl40 : l ≤ 1099511627776) :
    Calls Tryd.prog 31 #[.slice A l c] w fun e w' => e = .returned (.string (rt ss)) ∧ Below w.heap.size w w' := by
  have hpos := hT.pos
  have HT := Lib.hid (fun W (hb : Below w.heap.size w W) => hT.below hb hpos)
  have HL := Lib.hid hl
  have HD := Lib.hid hd
  have h0 : Below w.heap.size w w := Below.refl _ _
  by_cases hz : l = 0
  · have HZ : Hid (rt ss = ed) := by show _ = _; rw [List.eq_nil_of_length_eq_zero (by omega : ss.length = 0)]; rfl
    subst hz
    clear hl hd hs
    go_enter Tryd.func31, Tryd.ntmps31
    go_wp2_with fail
    refine (sum_wide none 0 0 [] _ hT rfl Sl.nil (by omega) (by omega) (by omega)).mono ?_
    rintro e w1 ⟨rfl, hb1⟩
    go_wp2_with fail
    go_ret
    exact ⟨by rw [HZ.out]; rfl, hb1⟩
  have hpos0 : ((l : Int) == 0) = false := by simpa using hz
  clear hl hd hT hpos
  go_enter Tryd.func31, Tryd.ntmps31
  go_wp2_with fail
  go_loopw [3, 4, 5, 12] (fun v _ _ i wr => ∃ (j : Nat) (st : List ByteArray), j ≤ l ∧ i = .int .i64 (j : Int) ∧ Hid (Full nd ed (ss.take j) st) ∧ OwS w.heap.size wr v st ∧ Hid (Digs st) ∧ Below w.heap.size w wr) (fun _ _ _ i _ => l - (intOf i).toNat)
  case atStart => exact ⟨0, [], by omega, rfl, Full.nil, OwS.nil _ _, fun x hx => by simp at hx, h0⟩
  case round =>
    clear h0
    obtain ⟨j, st, hj, rfl, HF, hown, HSD, hbel⟩ := hrel
    by_cases hlt : j < l
    · obtain ⟨b, o, rfl, hblt, hcell⟩ := hs.get (j := j) (by rw [scells_len, HL.out]; exact hlt)
      have hc0 := (hbel.cell (p := ⟨b, o + j, none⟩) hblt).trans (hcell j _ (scells_get ss j (by rw [HL.out]; exact hlt)))
      have hget := get_of (ss := ss) (j := j) (by rw [HL.out]; exact hlt)
      obtain ⟨s, hsj⟩ : ∃ s, ss.getD j ⟨#[]⟩ = s := ⟨_, rfl⟩
      rw [hsj] at hc0 hget
      have HM := Lib.hid (push_full HF.out hget)
      have HSD1 := Lib.hid (digs_push HSD.out (HD.out s (List.mem_of_getElem? hget)))
      have hlen := HF.out.len
      have hlt2 : st.length ≤ j := by rw [List.length_take] at hlen; omega
      obtain ⟨m, hm⟩ : ∃ m, m = st.length := ⟨_, rfl⟩
      have HMM := Lib.hid hm
      rw [← hm] at hlt2
      unfold OwS at hown
      rw [← hm] at hown
      have hsl : ∀ (W : World), Sl (W.alloc (.cells #[.string s] 9)) (some ⟨W.heap.size, 0, none⟩) (scells [s]) := fun W => new_str W s
      have HSL := Lib.hid hsl
      have hbx := hbel.alloc hbel.size (.cells #[.string s] 9)
      clear hcell hget hsj hlen hm hsl
      go_wp2_with (refine wpList_app rfl (.tmp 15) (.tmp 20) 22 rfl strsTy w.heap.size _ m (scells st) rfl (hown.alloc _) _ 1 1 (scells [s]) rfl rfl (HSL.out _) (scells_one _) (by omega) hbx.size ?_; intro v1 w1 hown1 hgr1 hbl1)
      have hb1 := below_app hbx hgr1 (hown.alloc (.cells #[.string s] 9)) (Nat.le_refl _) hbx.size
      have hown2 := snoc_ownS HMM.out hown1
      clear hown hown1 hgr1 hbl1 hbx hbel HF HSD HSL hc0
      go_loopw [3, 5] (fun v i wi => ∃ (n : Nat) (st : List ByteArray), i = .int .i64 (n : Int) ∧ Hid (Mid nd ed (ss.take (j + 1)) n st) ∧ OwS w.heap.size wi v st ∧ Hid (Digs st) ∧ Below w.heap.size w wi) (fun _ i _ => (intOf i).toNat)
      case atStart => exact ⟨j + 1, st ++ [s], by go_num, HM, hown2, HSD1, hb1⟩
      case round =>
        clear HM hown2 HSD1 hb1 HMM hlt2 m st
        obtain ⟨n, st, rfl, HM, hown, HSD, hbel⟩ := hrel
        have hn1 := HM.out.pos
        have hn2 : n ≤ l := by have := hn1.2; rw [List.length_take] at this; have := HL.out; omega
        have hn3 : 1 ≤ n := hn1.1
        clear hn1
        have hand := and_one n (by omega)
        by_cases hev : n % 2 = 0
        · obtain ⟨st', x, y, hst, HM2⟩ := HM.out.even hev
          have hle := HM.out.len
          subst hst
          have HD2 := digs_two HSD.out
          have HMM := Lib.hid HM2
          have HDD := Lib.hid (digs_join HSD.out)
          have h32x := Lib.hid HD2.2.1
          have h32y := Lib.hid HD2.2.2
          have hle2 : st'.length ≤ 1099511627776 := by rw [List.length_append, List.length_take] at hle; have := HL.out; omega
          rw [hev] at hand
          clear HD2 HM2 HSD HM hle
          go_wp2_with fail
          refine (combined_any w.heap.size u3 st' x y _ (fun W hb => HT.out W (hbel.trans hb)) hbel.size hown h32x.out h32y.out hle2).mono ?_
          rintro e w2 ⟨v2, rfl, hown2, hb2⟩
          have bb := hbel.trans hb2
          clear hand hown hb2
          go_wp2_with fail
          go_roundw
          case rel => exact ⟨n / 2, st' ++ [nd x y], by go_num, HMM, hown2, HDD, bb⟩
          case measure => simp [intOf]; omega
        · have hod : n % 2 = 1 := by omega
          have HF := Lib.hid (HM.out.odd hod)
          rw [hod] at hand
          clear hev hod HM
          go_wp2_with fail
          clear hand
          go_roundw
          case rel => exact ⟨j + 1, st, by omega, by go_num, HF, hown, HSD, hbel⟩
          case measure => simp [intOf]; omega
    · have HFF : Hid (Full nd ed ss st) := by
        have := HF.out
        rwa [List.take_of_length_le (by rw [HL.out]; omega)] at this
      have HLA := Lib.hid (HFF.out.last (fun h => hz (by rw [← HL.out, h]; rfl)))
      clear HF HFF
      go_wp2_with fail
      go_loopw [3] (fun v wi => ∃ st : List ByteArray, Hid (Last nd ed ss st) ∧ OwS w.heap.size wi v st ∧ Hid (Digs st) ∧ st.length ≤ l ∧ Below w.heap.size w wi) (fun v _ => slLen v)
      case atStart => exact ⟨st, HLA, hown, HSD, by have := (HLA.out).len; have := HL.out; omega, hbel⟩
      case round =>
        clear HLA hown HSD hbel st
        obtain ⟨st, HLA, hown, HSD, hle, hbel⟩ := hrel
        by_cases h2 : 2 ≤ st.length
        · obtain ⟨st', x, y, hst, HM2⟩ := HLA.out.more h2
          subst hst
          have HD2 := digs_two HSD.out
          have HMM := Lib.hid HM2
          have HDD := Lib.hid (digs_join HSD.out)
          have h32x := Lib.hid HD2.2.1
          have h32y := Lib.hid HD2.2.2
          have hown0 := hown
          obtain ⟨A', c', rfl, _, _, _, _⟩ := hown.slice
          obtain ⟨m, hm⟩ : ∃ m, (st' ++ [x, y]).length = m := ⟨_, rfl⟩
          rw [hm] at hown0 h2 hle ⊢
          have hm' : st'.length + 2 = m := by rw [← hm, List.length_append]; rfl
          have HM' := Lib.hid hm'
          have hgt : (1 : Int) < (m : Int) := by omega
          clear HD2 HM2 HSD HLA hown hm hm'
          go_wp2_with fail
          refine (combined_any w.heap.size (.slice A' m c') st' x y _ (fun W hb => HT.out W (hbel.trans hb)) hbel.size hown0 h32x.out h32y.out (by have := HM'.out; omega)).mono ?_
          rintro e w2 ⟨v2, rfl, hown2, hb2⟩
          have bb := hbel.trans hb2
          clear hown0 hb2
          have hown3 := hown2
          obtain ⟨A2, c2, rfl, _, _, _, _⟩ := hown2.slice
          have hl2 : (st' ++ [nd x y]).length = st'.length + 1 := by rw [List.length_append]; rfl
          rw [hl2] at hown3 ⊢
          have HL2 := Lib.hid hl2
          clear hown2 hl2
          go_wp2_with fail
          go_roundw
          case rel => exact ⟨st' ++ [nd x y], HMM, hown3, HDD, by rw [HL2.out]; have := HM'.out; omega, bb⟩
          case measure => simp [slLen]; have := HM'.out; omega
        · have h1 : st.length = 1 := by have := HLA.out.pos; omega
          have HS := Lib.hid (HLA.out.one h1)
          obtain ⟨A', c', rfl, hsl, _, _, _⟩ := hown.slice
          rw [h1]
          rw [HS.out] at hsl
          clear hown HLA h2 h1
          obtain ⟨b', o', rfl, _, hcell⟩ := hsl.get (j := 0) (by simp [scells])
          have hc0 : wr.cell? ⟨b', o', none⟩ = some (.string (root nd ed ss)) := hcell 0 _ rfl
          clear hcell hsl
          go_wp2_with fail
          go_ret
          exact ⟨rfl, hbel⟩
end Go.Proofs.YtmebogaenbjmnaaDoor.TrW
