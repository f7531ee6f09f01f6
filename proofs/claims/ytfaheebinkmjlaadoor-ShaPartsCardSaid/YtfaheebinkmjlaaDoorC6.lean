/- For every slice of slices of bytes: of its first 20 parts those of at most 1000 bytes, added one by one, have the sum that the reference tells of all of them joined, behind each part; N and Rest are as the document says; beyond, the known answers hold (rubricklaw01.ShaParts answers true; the slices read as before). Condition: the table of the rounds holds, when the call begins, what the program's text lays (the card ties it). -/
import Derived.Test.YtfaheebinkmjlaaDoorC3
import Derived.Test.YtfaheebinkmjlaaDoorE5
import Derived.Below
import Derived.Deep.Matrix
namespace Go.Proofs.YtfaheebinkmjlaaDoor
open Go.ChangeShapes Go.WideShapes Go.ChangeAt Go.RowKit
open Sha
theorem under26 : Tryd.prog.underlying 26 = some (.slice 22) := by kernel_rfl
theorem open_rows {H : Type} {enc : TypeId × Value → H} {W : World} {a : Option Addr} {l c : Nat} {d : DataW H} {p : List MemPlace} (h : DataW.Trod enc Tryd.prog W 0 (fun _ => true) true 26 (.slice a l c) d p) :
    ∃ (b o : Nat) (q : Nat → List UInt8) (Ar : Nat → Option Addr) (L C : Nat → Nat), l ≤ c ∧ c ≤ maxLen ∧ (0 < l → a = some ⟨b, o, none⟩ ∧ b < W.heap.size) ∧
      ∀ r, r < l → W.cell? ⟨b, o + r, none⟩ = some (.slice (Ar r) (L r) (C r)) ∧ (q r).length = L r ∧ L r ≤ C r ∧ C r ≤ 9223372036854775807 ∧ Sl W (Ar r) (bcells (q r)) := by
  obtain ⟨fuel, hf⟩ := h
  rcases Deep.open_int_rows under26 under22 under5 (by kernel_rfl) (by kernel_rfl) hf with ⟨hcs, _⟩ | ⟨x, l', c', A, L, C, Z, hcs, _, hl, hm, _, hr⟩
  · simp [Value.cells] at hcs
    obtain ⟨rfl, rfl, rfl⟩ := hcs
    exact ⟨0, 0, fun _ => [], fun _ => none, fun _ => 0, fun _ => 0, Nat.le_refl _, by simp [maxLen], fun h => absurd h (by omega), fun r h => absurd h (by omega)⟩
  · simp [Value.cells] at hcs
    obtain ⟨rfl, rfl, rfl⟩ := hcs
    obtain ⟨b, off, spot⟩ := x
    refine ⟨b, off, fun r => asBytes ((Z r).take (L r)), A, L, C, hl, hm, fun hpos => ?_, fun r hlt => ?_⟩
    · have hc := (hr 0 (by omega)).1
      have hspot : spot = none := by simpa [Addr.add] using World.cell?_spot hc
      subst hspot
      exact ⟨rfl, by rw [add_lit] at hc; exact block_lt_of_cell hc⟩
    · obtain ⟨hc, h1, h2, h3, h4, h5, h6⟩ := hr r (by omega)
      have hspot : spot = none := by
        simpa [Addr.add] using World.cell?_spot (hr 0 (by omega)).1
      subst hspot
      rw [add_lit] at hc
      refine ⟨hc, by rw [asBytes_len, List.length_take]; omega, h1, by unfold maxLen at h2; omega, ?_⟩
      cases hA : A r with
      | none =>
        have hz : L r = 0 := by have := h5 hA; omega
        show Sl W none (bcells (asBytes ((Z r).take (L r))))
        rw [hz]
        exact Sl.nil
      | some a' => exact sl_asBytes (fun i hi => (h6 a' hA).2 i (by omega)) (by omega) h4
end Go.Proofs.YtfaheebinkmjlaaDoor
namespace Go.Proofs.YtfaheebinkmjlaaDoor.shaPartsC
open Go.ChangeShapes Go.WideShapes Go.ChangeAt Go.RowKit
open Sha
theorem contract (H : Type) (enc : TypeId × Value → H) (W : World) (base : Nat) (args : Array Value) (ds gs : List (DataW H)) (before : List MemPlace)
    (hval : ∀ (j : Nat) t v, Tryd.f4.params[j]? = some t → args[j]? = some v → Value.okWide Tryd.prog W .any base t v)
    (hW : DataW.Whole enc Tryd.prog Tryd.f4.params.toList Rows.shaPartsSpec.vars false W args.toList ds gs before) (hL : laidMetH Tryd.prog Rows.shaPartsRow.laid W) :
    Calls Tryd.prog 4 args W fun e W' => ∃ v, e = .returned v ∧ Rows.shaPartsSpec.post enc Tryd.prog Tryd.f4 false true false false W args v W' := by
  have hW' := hW
  obtain ⟨p, q, hA0, hV, rfl, hfz, hnd⟩ := hW
  have hA : DataW.TrodAll enc Tryd.prog W 0 (fun _ => true) true Tryd.f4.params.toList args.toList ds p := hA0
  rw [Tryd.params4] at hA hval
  obtain ⟨v0, vs0, d0, ds0, p0, q0, hargs, rfl, rfl, h0, r0⟩ := trodAll_cons hA
  obtain ⟨rfl, rfl, rfl⟩ := trodAll_nil r0
  obtain rfl : args = #[v0] := by cases args; simp_all
  obtain ⟨rfl, rfl⟩ := trodVars_none hV
  obtain ⟨a0, l0, c0, rfl⟩ := okWide_slice under26 (hval 0 26 v0 rfl rfl)
  have k0 := h0
  have lt0 : ∀ x ∈ p0, x.block < W.heap.size := by obtain ⟨m, hm⟩ := k0; exact DataW.trod_lt m _ _ _ hm
  obtain ⟨b, o, q, Ar, L, C, hlc, hcm, hA1, hR⟩ := open_rows h0
  clear hA0
  refine (lawParts a0 l0 c0 b o q Ar L C W (tab_of hL) (by unfold maxLen at hcm; omega) hA1 hR).mono fun e W' ⟨he, bel⟩ => ?_
  subst he
  exact ⟨_, rfl, _, _, _, [], _, [], hW', trodAll_mk1 (shut_bool Tryd.underlying4 _), (trodAll_cons_mk (Below.trod laidOut (by kernel_rfl) (of_decide_eq_true (by kernel_rfl)) k0 bel lt0) trodAll_mk0), rfl, bel.frame _, fun h => by cases h⟩
theorem laid_met (os : Os) : laidMet Tryd.prog Rows.shaPartsRow.laid ((laidWorld os).forCall (fun _ _ => 0) ⟨#[], #[.slice none 0 0], []⟩).memory :=
  laidMet_of_run' 80 (by kernel_rfl) (by kernel_rfl)
theorem reads (os : Os) {H : Type} (enc : TypeId × Value → H) : ∃ places, DataW.whole enc Tryd.prog ((laidWorld os).forCall (fun _ _ => 0) ⟨#[], #[.slice none 0 0], []⟩).memory Tryd.f4.params.toList Rows.shaPartsSpec.vars false #[Value.slice none 0 0].toList 8 = some ([.nil], [], places) :=
  ⟨[], by kernel_rfl⟩
set_option maxRecDepth 100000 in
theorem lifted (os : Os) (started : os.Started) (H : Type) (enc : TypeId × Value → H) (F : Stop.Interp) :
    ReturnsInHanded {} Tryd.checked os 4 .any ((OpenSpec.ofChange Rows.shaPartsSpec).preRow enc Tryd.prog Tryd.f4 Rows.shaPartsRow.domain false Rows.shaPartsRow.laid) (((OpenSpec.ofChange Rows.shaPartsSpec).at F).post enc Tryd.prog Tryd.f4 false true false false) := by
  obtain ⟨places, hx⟩ := reads os enc
  refine returnsInHanded_of_row (C := Tryd.checked) (s := OpenSpec.ofChange Rows.shaPartsSpec) own started (by kernel_rfl) Tryd.func4
    (witness_row_at (enc := enc) (C := Tryd.checked) false (laidWorld os) #[.slice none 0 0] rfl (by kernel_rfl) (by kernel_rfl) (by kernel_rfl)
      (OpenSpec.preRow_of_cond 8 hx (by kernel_rfl) (fun k hk => by cases hk) (by kernel_rfl) (laid_met os))) ?_
  intro W base args ds gs before hval hW _ _ _ hL _ _
  exact contract H enc W base args ds gs before hval hW hL
theorem said : Rows.ShaPartsSaid :=
  OpenClaim.holds_of_cond 4 Tryd.f4 rfl rfl rfl rfl rfl rfl rfl ⟨rfl, rfl, rfl, rfl, rfl⟩ rfl rfl rfl rfl rfl (by kernel_rfl) Tryd.func4 (by kernel_rfl)
    (of_decide_eq_true (by kernel_rfl)) (by unfold Func.isWrapper; first | (rw [if_pos (by decide +kernel)]; kernel_rfl) | (rw [if_neg (by decide +kernel)]; exact ⟨rfl, rfl⟩))
    (fun os started H enc _ F => by rw [OpenClaim.pre_eq_preRow]; exact lifted os started H enc F)
theorem plain (f : FuncId) (fn : Func) (hf : Tryd.pinned.checked.prog.funcNamed "rubrick/rubricklaw01.ShaParts" = some f) (hfn : Tryd.pinned.checked.prog.funcs[f]? = some fn) :
    false = Tryd.pinned.checked.prog.looks [] ∧ ∀ (j : Nat) t, fn.params[j]? = some t → Tryd.pinned.checked.prog.wantsStandIn t = false := by
  obtain rfl : f = 4 := Option.some.inj ((show Tryd.prog.funcNamed "rubrick/rubricklaw01.ShaParts" = some 4 by kernel_rfl).symm.trans hf) |>.symm
  obtain rfl : fn = Tryd.f4 := (Option.some.inj (Tryd.func4.symm.trans hfn)).symm
  refine ⟨by kernel_rfl, fun j t ht => ?_⟩
  rw [Tryd.params4] at ht
  have hm := Array.mem_of_getElem? ht
  have h22 : Tryd.prog.wantsStandIn 26 = false := by kernel_rfl
  simp at hm
  subst hm; exact h22
/-- THE CARD. -/
theorem card : Rows.ShaPartsCardSaid :=
  Claim7.holds_tied_plain_at .later [] _ _ _ _ said (fun _ h => by cases h) (by kernel_rfl) (fun _ h => by cases h) shaParts_row_tie rfl ⟨rfl, rfl⟩ (by kernel_rfl) rfl plain (by kernel_rfl)
end Go.Proofs.YtfaheebinkmjlaaDoor.shaPartsC
