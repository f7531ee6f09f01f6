/- token: rows of texts; wordLen, termOf, Terms. -/
import Derived.Test.YtpnnebnjkinndaaDoorTw
import Derived.Test.YtpnnebnjkinndaaDoorUf
import Derived.Test.YtpnnebnjkinndaaDoorUj
import Derived.Deep.Onto
namespace Go.Proofs.YtpnnebnjkinndaaDoor.TokW
open Go.RowKit UtfW
theorem strsTy : ElemTy Tryd.prog 26 9 (.string ⟨#[]⟩) 16 := ⟨by kernel_rfl, info_parts (by kernel_rfl), rfl, by omega⟩
/-- Rows of texts of the call's own. -/
def OwS (base : Nat) (w : World) (v : Value) (ss : List ByteArray) : Prop := w.ownsRow base 9 1 v ss.length (scells ss)
theorem OwS.nil (base : Nat) (w : World) : OwS base w (.slice none 0 0) [] := World.ownsRow_nil _ _ _ _
theorem OwS.slice {base : Nat} {w : World} {v : Value} {ss : List ByteArray} (h : OwS base w v ss) : ∃ A c, v = .slice A ss.length c ∧ Sl w A (scells ss) ∧ ss.length ≤ c ∧ c ≤ maxLen ∧ (∀ b o s, A = some ⟨b, o, s⟩ → base ≤ b) := by
  obtain ⟨A, c, h1, h2, h3, _, h5, h6⟩ := own_slice h
  exact ⟨A, c, h1, h2, h3, h5, h6⟩
theorem OwS.below {B : Nat} {v : Value} {ss : List ByteArray} {w w' : World} (h : OwS B w v ss) (hb : Below w.heap.size w w') : OwS B w' v ss := own_below h hb
theorem OwS.base {B B' : Nat} {v : Value} {ss : List ByteArray} {w : World} (h : OwS B w v ss) (hb : B' ≤ B) : OwS B' w v ss := World.ownsRow.mono h hb
theorem scells_app (a b : List ByteArray) : scells a ++ scells b = scells (a ++ b) := by simp [scells]
theorem new_str (W : World) (s : ByteArray) : Sl (W.alloc (.cells #[.string s] 9)) (some ⟨W.heap.size, 0, none⟩) (scells [s]) := Sl.of_at_all (At.new_ W _ 9 (scells [s]) rfl)
theorem snoc_ownS {w : World} {base : Nat} {v : Value} {a : List ByteArray} {x : ByteArray} {n : Nat} (hn : n = a.length) (h : w.ownsRow base 9 1 v (n + 1) (scells a ++ scells [x])) : OwS base w v (a ++ [x]) := by
  subst hn
  unfold OwS
  rw [List.length_append, ← scells_app]
  exact h
theorem snoc_ownB {w : World} {base : Nat} {v : Value} {a b : List UInt8} {n m : Nat} (hn : n = a.length) (hm : m = b.length) (h : w.ownsRow base 5 1 v (n + m) (bcells a ++ bcells b)) : Ow base w v (a ++ b) := by
  subst hn hm
  unfold Ow
  rw [List.length_append, ← bcells_app]
  exact h
theorem run_to {P : Program} {t e : TypeId} {z : Value} {by_ : Nat} (E : ElemTy P t e z by_) (w : World) (A : Option Addr) (n c h : Nat) (jk : IntKind) (hh : h ≤ c) :
    (Instr.slice t (.slice A n c) none (some (.int jk (h : Int))) none).run P w = .ok (.slice A h c) w := by
  simp [Instr.slice, run_underlying E.ht, Instr.sliceBounds, E.size, run_sliceBound w jk (h : Int) c _ (by omega) (by omega)]
  intro _
  cases A <;> simp [Addr.add]
theorem icells_take (a : List Nat) (n : Nat) : (icells a).take n = icells (a.take n) := by simp [icells]
theorem icells_drop (a : List Nat) (n : Nat) : (icells a).drop n = icells (a.drop n) := by simp [icells]
theorem ba_eq {s t : ByteArray} (h : s.data.toList = t.data.toList) : s = t := by
  cases s with | mk a => cases t with | mk b => simpa using h
theorem sbytes_app (a b : List ByteArray) : sbytes (a ++ b) = sbytes a ++ sbytes b := by simp [sbytes]
theorem sbytes_inj : ∀ {a b : List ByteArray}, sbytes a = sbytes b → a = b
  | [], [], _ => rfl
  | x :: xs, y :: ys, h => by
    have h' : x.data.toList = y.data.toList ∧ sbytes xs = sbytes ys := by simpa [sbytes] using h
    rw [ba_eq h'.1, sbytes_inj h'.2]
  | [], _ :: _, h => by simp [sbytes] at h
  | _ :: _, [], h => by simp [sbytes] at h
theorem inU_of {c : Nat} {a b : Bool} (h1 : letterU (c : Int) = a) (h2 : inR (c : Int) 48 57 = b) : inU c = (a || b) := by unfold inU; rw [h1, h2]
set_option maxRecDepth 1000000 in
set_option maxHeartbeats 1000000 in
theorem wordLen_any (B : Option Addr) (l d : Nat) (cs : List Nat) (w : World) (hT : Tabs w) (hl : cs.length = l) (hb : Sl w B (icells cs)) (hl40 : l ≤ 1099511627776) :
    Calls Tryd.prog 24 #[.slice B l d] w fun e w' => e = .returned (.int .i64 ((wl cs : Nat) : Int)) ∧ Below w.heap.size w w' := by
  have HL := Lib.hid hl
  have HT := Lib.hid (fun W (hb : Below w.heap.size w W) => hT.below hb hT.pos)
  clear hl hT
  go_enter Tryd.func24, Tryd.ntmps24
  go_wp2_with fail
  go_loopw [3] (fun i wr => ∃ k : Nat, k ≤ l ∧ i = .int .i64 (k : Int) ∧ Hid (wl cs = k + wl (cs.drop k)) ∧ Below w.heap.size w wr) (fun i _ => l - (intOf i).toNat)
  case atStart => exact ⟨0, by omega, rfl, by show _ = _; simp, Below.refl _ _⟩
  case round =>
    obtain ⟨k, hk, rfl, HK, hbel⟩ := hrel
    have hs := hbel.size
    by_cases hlt : k < l
    · obtain ⟨b, o, rfl, hblt, hcell⟩ := hb.get (j := k) (by rw [icells_len, HL.out]; exact hlt)
      have hc0 := (hbel.cell (p := ⟨b, o + k, none⟩) hblt).trans (hcell k _ (icells_get cs k (by rw [HL.out]; exact hlt)))
      obtain ⟨c, hc⟩ : ∃ c, cs.getD k 0 = c := ⟨_, rfl⟩
      rw [hc] at hc0
      have HY := Lib.hid (fun hi => wl_drop (by rw [HL.out]; exact hlt) hc hi)
      have HN := Lib.hid (fun hi => wl_drop_no (by rw [HL.out]; exact hlt) hc hi)
      clear hcell hc
      by_cases hlet : letterU (c : Int) = true
      · have HI := Lib.hid (inU_of hlet rfl)
        have HLE := Lib.hid hlet
        clear hlet
        go_wp2_with fail
        refine (letter_any (c : Int) _ (HT.out _ hbel)).mono ?_
        rintro e w1 ⟨rfl, b1⟩
        rw [HLE.out]
        have bb := hbel.trans (b1.mono hs)
        clear b1 hc0
        go_wp2_with fail
        go_roundw
        case rel => exact ⟨k + 1, by omega, by go_num, by show _ = _; rw [HK.out, HY.out (by rw [HI.out]; rfl)]; omega, bb⟩
        case measure => simp [intOf]; omega
      · have hlet' : letterU (c : Int) = false := by simpa using hlet
        have HLE := Lib.hid hlet'
        clear hlet hlet'
        go_wp2_with fail
        refine (letter_any (c : Int) _ (HT.out _ hbel)).mono ?_
        rintro e w1 ⟨rfl, b1⟩
        rw [HLE.out]
        have bb := hbel.trans (b1.mono hs)
        have hc1 := (b1.cell (p := ⟨b, o + k, none⟩) (by simp; omega)).trans hc0
        clear b1 hc0
        go_wp2_with fail
        refine (digit_any (c : Int) _ (HT.out _ bb)).mono ?_
        rintro e w2 ⟨rfl, b2⟩
        have bb2 := bb.trans (b2.mono bb.size)
        clear b2 hc1 bb
        by_cases hdig : inR (c : Int) 48 57 = true
        · have HI := Lib.hid (inU_of HLE.out hdig)
          rw [hdig]
          clear hdig
          go_wp2_with fail
          go_roundw
          case rel => exact ⟨k + 1, by omega, by go_num, by show _ = _; rw [HK.out, HY.out (by rw [HI.out]; rfl)]; omega, bb2⟩
          case measure => simp [intOf]; omega
        · have hdig' : inR (c : Int) 48 57 = false := by simpa using hdig
          have HI := Lib.hid (inU_of HLE.out hdig')
          rw [hdig']
          clear hdig hdig'
          go_wp2_with fail
          go_ret
          exact ⟨by rw [HK.out, HN.out (by rw [HI.out]; rfl)]; simp, bb2⟩
    · have HF : Hid (wl cs = k) := by
        show _ = _
        rw [HK.out, wl_drop_end cs (by rw [HL.out]; omega)]; rfl
      go_wp2_with fail
      go_ret
      exact ⟨by rw [HF.out]; rfl, hbel⟩
/-- A text of these bytes. -/
def StrP (l : List UInt8) (w : World) (e : Ending) (w' : World) : Prop := ∃ s : ByteArray, e = .returned (.string s) ∧ s.data.toList = l ∧ Below w.heap.size w w'
set_option maxRecDepth 1000000 in
set_option maxHeartbeats 1000000 in
theorem termOf_any (B : Option Addr) (l d : Nat) (cs : List Nat) (w : World) (hT : Tabs w) (hl : cs.length = l) (hb : Sl w B (icells cs)) (hin : ∀ x ∈ cs, inU x = true) (hl40 : l ≤ 1099511627776) :
    Calls Tryd.prog 25 #[.slice B l d] w (StrP (termU cs) w) := by
  have HL := Lib.hid hl
  have HIN := Lib.hid hin
  have HT := Lib.hid (fun W (hb : Below w.heap.size w W) => hT.below hb hT.pos)
  clear hl hT hin
  go_enter Tryd.func25, Tryd.ntmps25
  go_wp2_with fail
  go_loopw [3, 10] (fun t i wr => ∃ (k : Nat) (T : List UInt8), k ≤ l ∧ i = .int .i64 (k : Int) ∧ Ow w.heap.size wr t T ∧ T.length ≤ 64 ∧ Hid (termU cs = termG T (cs.drop k)) ∧ Below w.heap.size w wr) (fun _ i _ => l - (intOf i).toNat)
  case atStart => exact ⟨0, [], by omega, rfl, Ow.nil _ _, by simp, rfl, Below.refl _ _⟩
  case round =>
    obtain ⟨k, T, hk, rfl, hown, hT64, HK, hbel⟩ := hrel
    have hs := hbel.size
    by_cases hlt : k < l
    · obtain ⟨b, o, rfl, hblt, hcell⟩ := hb.get (j := k) (by rw [icells_len, HL.out]; exact hlt)
      have hc0 := (hbel.cell (p := ⟨b, o + k, none⟩) hblt).trans (hcell k _ (icells_get cs k (by rw [HL.out]; exact hlt)))
      obtain ⟨c, hc⟩ : ∃ c, cs.getD k 0 = c := ⟨_, rfl⟩
      rw [hc] at hc0
      have hkl : k < cs.length := by rw [HL.out]; exact hlt
      have hcin : inU c = true := HIN.out c (by
        have : c = cs[k] := by rw [← hc]; simp [List.getD, hkl]
        rw [this]; exact List.getElem_mem hkl)
      have hsm := in_small hcin
      have HY := Lib.hid (fun hi => termG_more (s := T) hkl hc hi)
      have HN := Lib.hid (fun hi => termG_full (s := T) hkl hc hi)
      have HR := Lib.hid hsm.2.2
      have hle4 := encU_le4 (smallN c)
      clear hcell hc hcin hsm hkl
      obtain ⟨E, hE⟩ : ∃ E, E = encU (smallN c) := ⟨_, rfl⟩
      have HE := Lib.hid hE
      rw [← hE] at HY HN hle4
      clear hE
      obtain ⟨n, hn⟩ : ∃ n, n = E.length := ⟨_, rfl⟩
      have HEN := Lib.hid hn
      rw [← hn] at HY HN hle4
      clear hn
      obtain ⟨m, hm⟩ : ∃ m, m = T.length := ⟨_, rfl⟩
      have HM := Lib.hid hm
      rw [← hm] at HY HN hT64
      clear hm
      go_wp2_with fail
      refine (small_any (c : Int) _ (HT.out _ hbel)).mono ?_
      rintro e w1 ⟨rfl, b1⟩
      rw [small_nat]
      have bb1 := hbel.trans (b1.mono hs)
      have hown1 := hown.below b1
      clear b1 hown hc0
      go_wp2_with fail
      refine (encode_ok (smallN c) _ (HT.out _ bb1) HR.out).mono ?_
      rintro e w2 ⟨v2, rfl, hown2, b2⟩
      have bb2 := bb1.trans (b2.mono bb1.size)
      have hown3 := hown1.below b2
      rw [← HE.out] at hown2
      obtain ⟨A2, c2, rfl, hs2, _, _, hge2⟩ := hown2.slice
      obtain ⟨A3, c3, rfl, hs3, _, _, _⟩ := hown3.slice
      rw [← HM.out] at hown3 ⊢
      rw [← HEN.out]
      have hz2 := bb2.size
      have hown3' : w2.ownsRow w.heap.size 5 1 (.slice A3 m c3) m (bcells T) := by
        have := hown3
        unfold Ow at this
        rw [← HM.out] at this
        exact this
      clear hown1 hown2 hown3 b2 bb1
      by_cases hfull : 64 < m + n
      · have HF : Hid (termU cs = T) := by show _ = _; rw [HK.out, HN.out hfull]
        have hstr := run_str (P := Tryd.prog) w2 22 9 5 underBytes underU8 underStr A3 T m c3 HM.out.symm hs3
        clear hown3' hs2 hs3
        go_wp2_with fail
        go_ret
        exact ⟨_, rfl, by rw [HF.out], bb2⟩
      · go_wp2_with (refine wpList_app rfl (.tmp 26) (.tmp 27) 22 rfl bytesTy w.heap.size (.slice A3 m c3) m (bcells T) rfl hown3' A2 n c2 (bcells E) rfl (by rw [bcells_len]; exact HEN.out.symm) hs2 (bcells_one _) (by omega) hz2 ?_; intro v3 w3 hown4 hgr4 hbl4)
        have bb3 := below_app bb2 hgr4 hown3' (Nat.le_refl _) hz2
        go_roundw
        case rel => exact ⟨k + 1, T ++ E, by omega, by go_num, snoc_ownB HM.out HEN.out hown4, by rw [List.length_append, ← HM.out, ← HEN.out]; omega, by show _ = _; rw [HK.out, HY.out hfull], bb3⟩
        case measure => simp [intOf]; omega
    · have HF : Hid (termU cs = T) := by show _ = _; rw [HK.out, termG_end T cs (by rw [HL.out]; omega)]
      obtain ⟨A3, c3, rfl, hs3, _, _, _⟩ := hown.slice
      have hstr := run_str (P := Tryd.prog) wr 22 9 5 underBytes underU8 underStr A3 T T.length c3 rfl hs3
      clear hown hs3
      go_wp2_with fail
      go_ret
      exact ⟨_, rfl, by rw [HF.out], hbel⟩
end Go.Proofs.YtpnnebnjkinndaaDoor.TokW
