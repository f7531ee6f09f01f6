/- token: strings.Compare; a sorted row of texts, each once; Set. -/
import Derived.Test.YtpnnebnjkinndaaDoorVd
import Derived.Test.YtpnnebnjkinndaaDoorTx
import Derived.Test.YtpnnebnjkinndaaDoorSl
import Derived.Sort.OwnSorted
import Derived.Lib.Bytealg
namespace Go.Proofs.YtpnnebnjkinndaaDoor.TokW
open Go.RowKit UtfW Go.Sort Go.Shelf
theorem ba_list (x : List UInt8) : (ByteArray.mk x.toArray).data.toList = x := by simp
set_option maxRecDepth 100000 in
set_option maxHeartbeats 1000000 in
theorem compareString_any (a b : ByteArray) (w : World) : Calls Tryd.prog 47 #[.string a, .string b] w fun e w' => e = .returned (.int .i64 (Lib.compareBytes a.data.toList b.data.toList)) ∧ w' = w := by
  go_enter Tryd.func47, Tryd.ntmps47
  go_wp2
  rw [run_callFunc_extern Tryd.func61 (by kernel_rfl) (by kernel_rfl) (by kernel_rfl) (e := Extern.BytealgCompare.compare) (by kernel_rfl), Lib.run_compareString]
  simp only [Result.andThen]
  rw [Oper.upon_value]
  go_wp2
  go_ret
  exact ⟨rfl, rfl⟩
set_option maxHeartbeats 1000000 in
theorem compare_any (a b : ByteArray) (w : World) : Calls Tryd.prog 29 #[.string a, .string b] w fun e w' => e = .returned (.int .i64 (Lib.compareBytes a.data.toList b.data.toList)) ∧ w' = w := by
  go_enter Tryd.func29, Tryd.ntmps29
  go_wp2_with fail
  refine (compareString_any a b _).mono ?_
  rintro e w1 ⟨rfl, rfl⟩
  go_wp2_with fail
  go_ret
  exact ⟨rfl, rfl⟩
theorem enc_of (s : ByteArray) : encStr s.data.toList = Value.string s := rfl
theorem enc_cells (ss : List ByteArray) : scells ss = (sbytes ss).map encStr := by
  unfold scells sbytes
  rw [List.map_map]
  rfl
def ofBytes (l : List (List UInt8)) : List ByteArray := l.map fun x => ⟨x.toArray⟩
theorem sbytes_of (l : List (List UInt8)) : sbytes (ofBytes l) = l := by
  unfold sbytes ofBytes
  rw [List.map_map]
  conv => rhs; rw [← List.map_id l]
  apply List.map_congr_left
  intro x _
  simp
theorem scells_of (l : List (List UInt8)) : scells (ofBytes l) = l.map encStr := by
  rw [enc_cells, sbytes_of]
theorem ofBytes_len (l : List (List UInt8)) : (ofBytes l).length = l.length := by simp [ofBytes]
set_option maxHeartbeats 1000000 in
theorem cloneS_any (B : Nat) (g n cap : Nat) (ss : List ByteArray) (w : World) (hn : ss.length = n) (h : OwS B w (.slice (some ⟨g, 0, none⟩) n cap) ss) (hn40 : n ≤ 1099511627776) :
    Calls Tryd.prog 44 #[.slice (some ⟨g, 0, none⟩) n cap] w fun e w' => ∃ v', e = .returned v' ∧ w'.ownsRow w.heap.size 9 1 v' n (scells ss) ∧ v' ≠ .slice none 0 0 ∧ Below w.heap.size w w' := by
  obtain ⟨i, hi, hz, hs, hb⟩ := strsTy.info
  have := AnyE.slices_Clone Tryd.cloneS i (.string ⟨#[]⟩) 1 16 hi hz hs hb rfl (by decide) Tryd.sizeOf9 g 0 n cap (scells ss) w (by rw [scells_len, hn, Nat.mul_one]) (by unfold maxLen; omega) (by omega)
    (fun j u hu => by have := h.cells (g := g) rfl j u hu; rw [add_lit] at this; exact this) (scells_one ss)
  exact this
theorem clone_nil (w : World) : Calls Tryd.prog 44 #[.slice none 0 0] w fun e w' => e = .returned (.slice none 0 0) ∧ w' = w := AnyE.slices_Clone_nil Tryd.cloneS 0 0 w
theorem sortS_any (g cap : Nat) (d : Array (List UInt8)) (w : World) (hH : Holds encStr w g 0 d) (hg : g < w.heap.size) (hsz : d.size < 4611686018427387904) :
    Calls Tryd.prog 45 #[.slice (some ⟨g, 0, none⟩) d.size cap, .func (.func 29) #[] #[]] w fun e w' =>
      e = .returned (.tuple #[]) ∧ ∃ d' n os, PermIn 0 d.size d d' ∧ SortedIn ltS 0 d.size d' ∧ w' = sortWorld encStr w g 0 n d' os :=
  Any.slices_SortFunc Tryd.sortS encStr (fun _ => rfl) Lib.compareBytes swoS 29 #[] g 0 cap d w (enters_of Tryd.func29 (by kernel_rfl) rfl)
    (fun m os dk _ x y => (compare_any ⟨x.toArray⟩ ⟨y.toArray⟩ _).mono fun e w' ⟨h1, h2⟩ => ⟨by rw [h1, ba_list, ba_list], 0, #[], by rw [h2, grow_empty]; rfl⟩) hH hg hsz
theorem sort_nil (w : World) (fv : Value) : Calls Tryd.prog 45 #[.slice none 0 0, fv] w fun e w' => e = .returned (.tuple #[]) ∧ w' = w := AnyF.slices_SortFunc_none { Tryd.sortS with } none 0 fv w
theorem eqlS : EqlAt Tryd.prog 9 encStr (fun x y => decide (x = y)) := ⟨fun x y w => by
  rw [(EqlAt.string Tryd.prog 9).1 ⟨x.toArray⟩ ⟨y.toArray⟩ w]
  show Result.ok (Value.bool ((⟨x.toArray⟩ : ByteArray).toList == (⟨y.toArray⟩ : ByteArray).toList)) w = Result.ok (Value.bool (decide (x = y))) w
  rw [beq_str]
  congr 2
  rw [decide_eq_decide]
  exact mk_inj, fun op a b x y w => (EqlAt.string Tryd.prog 9).2 op a b ⟨x.toArray⟩ ⟨y.toArray⟩ w⟩
theorem neqS : NeqAt Tryd.prog 9 encStr (fun x y => decide (x = y)) := ⟨fun x y w => by
  rw [(NeqAt.string Tryd.prog 9).1 ⟨x.toArray⟩ ⟨y.toArray⟩ w]
  show Result.ok (Value.bool (!((⟨x.toArray⟩ : ByteArray).toList == (⟨y.toArray⟩ : ByteArray).toList))) w = Result.ok (Value.bool (!(decide (x = y)))) w
  rw [beq_str]
  congr 3
  rw [decide_eq_decide]
  exact mk_inj, fun op a b x y w => (EqlAt.string Tryd.prog 9).2 op a b ⟨x.toArray⟩ ⟨y.toArray⟩ w⟩
theorem compS_any (g cap : Nat) (d : Array (List UInt8)) (w : World) (hH : Holds encStr w g 0 d) (hsz : d.size ≤ 9223372036854775807) (hcap : d.size ≤ cap) :
    Calls Tryd.prog 46 #[.slice (some ⟨g, 0, none⟩) d.size cap] w fun e w' => e = .returned (.slice (some ⟨g, 0, none⟩) (Lib.compactUpTo d d.size).length cap) ∧ ∃ q, w' = putRow encStr (Sort.ahead w q) g 0 (Lib.compactUpTo d d.size ++ List.replicate (d.size - (Lib.compactUpTo d d.size).length) []).toArray :=
  AnyE.slices_Compact Tryd.compS encStr (fun _ => rfl) eqlS neqS [] Tryd.zeroValue9 g 0 cap d w hH hsz hcap
set_option maxHeartbeats 400000 in
theorem comp_nil (w : World) : Calls Tryd.prog 46 #[.slice none 0 0] w fun e w' => e = .returned (.slice none 0 0) ∧ w = w' := by
  go_enter Tryd.func46, Tryd.ntmps46
  go_wp2_with fail
  go_ret
  exact ⟨rfl, rfl⟩
/-- Behind a sort and a compaction: the first ones, of the call's own. -/
theorem own_after {w : World} {base g cap q : Nat} {e : TypeId} {os : Array Obj} {cur : Array Value} (ts more : List (List UInt8)) (hb : w.heap[g]? = some (.cells cur e (0, 0))) (h1 : (ts ++ more).length ≤ cap) (h2 : cap ≤ maxLen) (h3 : cur.size = cap * 1) (hbase : base ≤ g) :
    (grow (putRow encStr (Sort.ahead w q) g 0 (ts ++ more).toArray) os).ownsRow base e 1 (.slice (some ⟨g, 0, none⟩) ts.length cap) ts.length (ts.map encStr) := by
  have hl : ts.length ≤ (ts ++ more).length := by rw [List.length_append]; omega
  refine ⟨by simp, .inr ⟨g, cap, _, rfl, hbase, heap_sorted _ hb, by omega, h2, by simp [putCells, h3], ?_⟩⟩
  have h4 := take_putCells cur (ts ++ more) (by omega)
  have h5 := congrArg (List.take ts.length) h4
  rw [List.take_take, Nat.min_eq_left hl, ← List.map_take, List.take_left] at h5
  rw [Nat.mul_one]
  exact h5
set_option maxRecDepth 100000 in
set_option maxHeartbeats 2000000 in
theorem sortedS_any (B : Nat) (v : Value) (ss : List ByteArray) (w : World) (hown : OwS B w v ss) (hn40 : ss.length ≤ 1099511627776) :
    Calls Tryd.prog 28 #[v, .func (.func 29) #[] #[]] w (TextsP (setU (sbytes ss)) w) := by
  rcases hown.2 with ⟨rfl, hz⟩ | ⟨g, cap, cur, rfl, _, _, _, _, _⟩
  · have hn := Lib.hid (clone_nil)
    obtain rfl : ss = [] := List.eq_nil_of_length_eq_zero hz
    clear hown hn40 hz
    go_enter Tryd.func28, Tryd.ntmps28
    go_wp2_with fail
    refine (clone_nil _).mono ?_
    rintro e w1 ⟨rfl, rfl⟩
    go_wp2_with fail
    refine (sort_nil _ _).mono ?_
    rintro e w1 ⟨rfl, rfl⟩
    go_wp2_with fail
    refine (comp_nil _).mono ?_
    rintro e w1 ⟨rfl, rfl⟩
    go_wp2_with fail
    go_ret
    exact ⟨_, [], rfl, rfl, OwS.nil _ _, Below.refl _ _⟩
  · obtain ⟨n, hn⟩ : ∃ n, ss.length = n := ⟨_, rfl⟩
    rw [hn] at hown hn40 ⊢
    have HN := Lib.hid hn
    clear hn
    go_enter Tryd.func28, Tryd.ntmps28
    go_wp2_with fail
    refine (cloneS_any B g n cap ss _ HN.out hown hn40).mono ?_
    rintro e w1 ⟨v1, rfl, hown1, hnn, b1⟩
    rcases hown1.2 with ⟨h, _⟩ | ⟨g1, cap1, cur1, rfl, hbase1, hb1, hc1, hm1, hs1, ht1⟩
    · exact absurd h hnn
    have HB1 := Lib.hid hb1
    have hg1 : g1 < w1.heap.size := (Array.getElem?_eq_some_iff.1 hb1).1
    have hd0 : (sbytes ss).toArray.size = n := by simp [sbytes_len, HN.out]
    have hH1 : Holds encStr w1 g1 0 (sbytes ss).toArray := by
      refine holds_of_block hb1 ?_
      rw [Nat.mul_one] at ht1
      rw [sbytes_len, HN.out, ht1, enc_cells]
    have HS := Lib.hid hs1
    have HC1 := Lib.hid hc1
    clear ht1 hb1 hnn hown hs1
    have HSORT := Lib.hid (sortS_any g1 cap1 (sbytes ss).toArray w1 hH1 hg1 (by rw [hd0]; omega))
    rw [hd0] at HSORT
    have HD0 := Lib.hid hd0
    clear hH1 hd0
    go_wp2_with fail
    refine HSORT.out.mono ?_
    rintro e w2 ⟨rfl, d', k, os, hperm, hsort, hw2⟩
    have hsz : d'.size = n := by rw [hperm.1, HD0.out]
    have hb2 : w2.heap[g1]? = some (.cells (putCells encStr 0 d' cur1) 9 (0, 0)) := by rw [hw2]; exact heap_sorted d' HB1.out
    have hgr2 : w1.grownBy w2 (some g1) := by rw [hw2]; exact grownBy_sorted d'
    have b2 : Below w.heap.size w w2 := b1.grown hgr2 b1.size (fun j hj => by cases hj; exact hbase1)
    have hH2 : Holds encStr w2 g1 0 d' := by
      have : d' = d'.toList.toArray := by simp
      rw [this]
      refine holds_of_block hb2 ?_
      rw [this]
      have := take_putCells cur1 d'.toList (by rw [Array.length_toList, hsz, HS.out]; omega)
      simpa using this
    have hcm := compS_any g1 cap1 d' w2 hH2 (by omega) (by rw [hsz]; exact HC1.out)
    have hkl := kept_len d'
    have hperm' := perm_of (d := (sbytes ss).toArray) (by rw [HD0.out]; exact hperm)
    have hset : Lib.compactUpTo d' d'.size = setU (sbytes ss) := by
      refine kept_set (by simpa using hperm') ?_
      rw [hsz]; exact hsort
    rw [hsz] at hcm hkl hset
    obtain ⟨K, hK⟩ : ∃ K, K = Lib.compactUpTo d' n := ⟨_, rfl⟩
    rw [← hK] at hcm hkl hset
    have HCM := Lib.hid hcm
    have HB2 := Lib.hid hb2
    have HSET := Lib.hid hset
    have HP : Hid ((putCells encStr 0 d' cur1).size = cap1 * 1) := by show _ = _; simp [putCells, HS.out]
    clear hw2 hgr2 hH2 hcm hb2 hset hK hperm hperm' hsort HSORT hsz b1 HB1 HS
    go_wp2_with fail
    refine HCM.out.mono ?_
    rintro e w3 ⟨rfl, q, hw3⟩
    have hown3 : w3.ownsRow w.heap.size 9 1 (.slice (some ⟨g1, 0, none⟩) K.length cap1) K.length (K.map encStr) := by
      have := own_after (w := w2) (base := w.heap.size) (g := g1) (cap := cap1) (q := q) (os := #[]) K (List.replicate (n - K.length) []) HB2.out (by rw [List.length_append, List.length_replicate]; have := HC1.out; omega) hm1 HP.out hbase1
      rw [grow_empty] at this
      rw [hw3]; exact this
    have hgr3 : w2.grownBy w3 (some g1) := by
      have := grownBy_sorted (w := w2) (g := g1) (n := q) (os := #[]) (K ++ List.replicate (n - K.length) []).toArray
      rw [grow_empty] at this
      rw [hw3]; exact this
    have b3 : Below w.heap.size w w3 := b2.grown hgr3 b2.size (fun j hj => by cases hj; exact hbase1)
    clear hw3 hgr3 HCM
    go_wp2_with fail
    go_ret
    refine ⟨_, ofBytes K, rfl, by rw [sbytes_of, HSET.out], ?_, b3⟩
    unfold OwS
    rw [ofBytes_len, scells_of]
    exact hown3
set_option maxHeartbeats 1000000 in
theorem set_any (B : Option Addr) (l d : Nat) (bs : List UInt8) (w : World) (hT : Tabs w) (hl : bs.length = l) (hb : Sl w B (bcells bs)) (hld : l ≤ d) (hd63 : d ≤ 9223372036854775807) (hl40 : l ≤ 1099511627776) :
    Calls Tryd.prog 14 #[.slice B l d] w (TextsP (setU (termsU bs)) w) := by
  have hlen := terms_len bs
  rw [hl] at hlen
  have HL := Lib.hid hl
  clear hl
  go_enter Tryd.func14, Tryd.ntmps14
  go_wp2_with fail
  refine (terms_any B l d bs _ hT HL.out hb hld hd63 hl40).mono ?_
  rintro e w1 ⟨v1, ss, rfl, hss, hown1, bb1⟩
  have hsl : ss.length ≤ l := by rw [← hss, sbytes_len] at hlen; exact hlen
  have HSS := Lib.hid hss
  clear hss
  go_wp2_with fail
  refine (sortedS_any w.heap.size v1 ss _ hown1 (by omega)).mono ?_
  rintro e w2 ⟨v2, tt, rfl, htt, hown2, bb2⟩
  go_wp2_with fail
  go_ret
  exact ⟨_, tt, rfl, by rw [htt, HSS.out], hown2.base bb1.size, bb1.trans (bb2.mono bb1.size)⟩
end Go.Proofs.YtpnnebnjkinndaaDoor.TokW
