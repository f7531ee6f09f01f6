/- seal: marked. -/
import Derived.Test.YtmebogaenbjmnaaDoorRows
import Derived.Test.YtmebogaenbjmnaaDoorStr
import Derived.Outline
import Derived.Lib.ConvBytes
namespace Go.Proofs.YtmebogaenbjmnaaDoor.SealW
open Go.RowKit
theorem bytesTy : ElemTy Tryd.prog 49 5 (.int .u8 0) 1 :=
  ⟨by kernel_rfl, info_parts (by kernel_rfl), rfl, by omega⟩
theorem underBytes : Tryd.prog.underlying 49 = some (.slice 5) := by kernel_rfl
theorem underU8 : Tryd.prog.underlying 5 = some (.int .u8) := by kernel_rfl
theorem underStr : Tryd.prog.underlying 9 = some .string := by kernel_rfl
theorem own_lit (w : World) (base : Nat) (e : TypeId) (cs : List Value) (n : Nat) (hn : cs.length = n) (hb : base ≤ w.heap.size) (hm : n ≤ 1000) :
    (w.alloc (.cells cs.toArray e)).ownsRow base e 1 (.slice (some ⟨w.heap.size, 0, none⟩) n n) n cs := by
  have := World.ownsRow_lit (base := base) (e := e) (size := 1) w cs.toArray n hb (by simp only [maxLen]; omega) (by simpa using hn)
  simpa using this
/-- Slices of bytes that read so. -/
def Parts (w : World) (vs : List Value) (bss : List (List UInt8)) : Prop :=
  ∀ j, j < bss.length → ∃ B d, vs[j]? = some (.slice B (bss.getD j []).length d) ∧ Sl w B (bcells (bss.getD j []))
theorem Parts.one {w : World} {B : Option Addr} {l d : Nat} {bs : List UInt8} (hl : bs.length = l) (hb : Sl w B (bcells bs)) : Parts w [.slice B l d] [bs] := by
  intro j hj
  have : j = 0 := by simpa using hj
  subst this
  exact ⟨B, d, by simp [hl], hb⟩
theorem Parts.two {w : World} {B C : Option Addr} {l d m c : Nat} {bs cs : List UInt8} (hl : bs.length = l) (hb : Sl w B (bcells bs)) (hm : cs.length = m) (hc : Sl w C (bcells cs)) : Parts w [.slice B l d, .slice C m c] [bs, cs] := by
  intro j hj
  match j with
  | 0 => exact ⟨B, d, by simp [hl], hb⟩
  | 1 => exact ⟨C, c, by simp [hm], hc⟩
  | j + 2 => simp at hj; omega
theorem flat_snoc (bss : List (List UInt8)) (k : Nat) (h : k < bss.length) : (bss.take (k + 1)).flatten = (bss.take k).flatten ++ bss.getD k [] := by
  have e : bss.take (k + 1) = bss.take k ++ [bss.getD k []] := by
    rw [List.take_add_one]
    simp [h]
  rw [e, List.flatten_append]
  simp
theorem flat_le (bss : List (List UInt8)) (k : Nat) : (bss.take k).flatten.length ≤ bss.flatten.length := by
  have : bss.flatten = (bss.take k).flatten ++ (bss.drop k).flatten := by rw [← List.flatten_append, List.take_append_drop]
  rw [this, List.length_append]; omega
set_option maxRecDepth 100000 in
set_option maxHeartbeats 1000000 in
theorem marked_any (k : UInt8) (A : Option Addr) (n c : Nat) (vs : List Value) (bss : List (List UInt8)) (w : World) (hn : bss.length = n) (hv : vs.length = n) (hA : Sl w A vs) (hP : Parts w vs bss) (hn63 : n ≤ 1000) (h45 : bss.flatten.length ≤ 35184372088832) :
    Calls Tryd.prog 51 #[.int .u8 (ub k), .slice A n c] w fun e w' => ∃ A' c', e = .returned (.slice A' (k :: bss.flatten).length c') ∧ Sl w' A' (bcells (k :: bss.flatten)) ∧ (k :: bss.flatten).length ≤ c' ∧ c' ≤ maxLen ∧ Below w.heap.size w w' := by
  have HN : Hid (bss.length = n) := hn
  have HV : Hid (vs.length = n) := hv
  have h0 : Below w.heap.size w (w.alloc (.cells (bcells [k]).toArray 5)) := (Below.refl _ _).alloc (Nat.le_refl _) _
  have o0 := own_lit w w.heap.size 5 (bcells [k]) 1 rfl (Nat.le_refl _) (by omega)
  clear hn hv
  go_enter Tryd.func51, Tryd.ntmps51
  go_wp2_with fail
  go_loopw [5, 7, 12] (fun v p i wr => ∃ j : Nat, j ≤ n ∧ i = .int .i64 j ∧ wr.ownsRow w.heap.size 5 1 v (k :: (bss.take j).flatten).length (bcells (k :: (bss.take j).flatten)) ∧ Below w.heap.size w wr)
    (fun _ _ i _ => n - (intOf i).toNat)
  case atStart => exact ⟨0, by omega, rfl, o0, h0⟩
  case round =>
    clear o0 h0
    obtain ⟨j, hj, rfl, hown, hbel⟩ := hrel
    by_cases hlt : j < n
    · obtain ⟨B, d, hvj, hB⟩ := hP j (by rw [HN.out]; exact hlt)
      have hjv : j < vs.length := by rw [HV.out]; exact hlt
      obtain ⟨b, o, rfl, hblt, hcell⟩ := hA.get hjv
      have hcw := (hbel.cell (p := ⟨b, o + j, none⟩) hblt).trans (hcell j _ hvj)
      have hB2 := hB.below hbel
      have HX : Hid ((bss.take (j + 1)).flatten = (bss.take j).flatten ++ bss.getD j []) := flat_snoc bss j (by rw [HN.out]; exact hlt)
      have hle := flat_le bss (j + 1)
      rw [HX.out, List.length_append] at hle
      clear hcell hvj hjv hB
      obtain ⟨p, hp⟩ : ∃ p, p = bss.getD j [] := ⟨_, rfl⟩
      rw [← hp] at hB2 hle hcw HX
      obtain ⟨l, hl⟩ : ∃ l, p.length = l := ⟨_, rfl⟩
      have HL : Hid (p.length = l) := hl
      rw [hl] at hcw hle
      obtain ⟨q, hq⟩ : ∃ q, q = (bss.take j).flatten := ⟨_, rfl⟩
      rw [← hq] at hown hle HX
      obtain ⟨m, hm⟩ : ∃ m, (k :: q).length = m := ⟨_, rfl⟩
      have HM : Hid ((k :: q).length = m) := hm
      rw [hm] at hown
      have hml : m + l ≤ 35184372088833 := by simp at hm; omega
      clear hp hl hq hm hle
      go_wp2_with (refine wpList_app rfl (.tmp 16) (.tmp 17) 49 rfl bytesTy w.heap.size u5 m (bcells (k :: q)) rfl hown B l d (bcells p) rfl (by rw [bcells_len]; exact HL.out) hB2 (bcells_one _) (by omega) hbel.size ?_; intro v1 w1 hown1 hgr1 hbl1)
      have hb1 := below_app hbel hgr1 hown (Nat.le_refl _) hbel.size
      go_roundw
      case rel =>
        refine ⟨j + 1, by omega, by go_num, ?_, hb1⟩
        rw [HX.out, ← List.cons_append, List.length_append, ← bcells_app, HL.out, HM.out]; exact hown1
      case measure => simp [intOf]; omega
    · have hjn : j = n := by omega
      have hfl : bss.take j = bss := List.take_of_length_le (by rw [HN.out]; omega)
      rw [hfl] at hown
      obtain ⟨A', c', rfl, hsl, hc', _, hm', _⟩ := own_slice hown
      clear hown hfl
      go_wp2_with fail
      go_ret
      exact ⟨A', c', rfl, hsl, hc', hm', hbel⟩
end Go.Proofs.YtmebogaenbjmnaaDoor.SealW
