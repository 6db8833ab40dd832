import Derived.Test.YtaokemapkgggoaaDoorGd02
import Derived.Test.YtaokemapkgggoaaDoorKb32
namespace Go.Proofs.YtaokemapkgggoaaDoor
open Go.ChangeShapes Go.WideShapes Go.ChangeAt Go.RowKit

set_option maxRecDepth 100000 in
theorem contract (H : Type) (enc : TypeId × Value → H) (W : World) (base : Nat) (args : Array Value) (ds gs : List (DataW H)) (before : List MemPlace)
    (hval : ∀ (j : Nat) t v, Tryd.f7.params[j]? = some t → args[j]? = some v → Value.okWide Tryd.prog W .any base t v)
    (hW : DataW.Whole enc Tryd.prog Tryd.f7.params.toList Rows.guardedSpec.vars false W args.toList ds gs before) (hL : laidMetH Tryd.prog Rows.guardedRow.laid W) :
    Calls Tryd.prog 7 args W fun e W' => ∃ v, e = .returned v ∧ Rows.guardedSpec.post enc Tryd.prog Tryd.f7 false true false false W args v W' := by
  have hW' := hW
  obtain ⟨p, q, hA0, hV, rfl, _, _⟩ := hW
  have hA : DataW.TrodAll enc Tryd.prog W 0 (fun _ => true) true Tryd.f7.params.toList args.toList ds p := hA0
  have hA2 := hA
  clear hA0
  rw [Tryd.params7] at hA hval
  obtain ⟨u0, l0, d0, e0, p0, q0, E0, D0, P0, h0, hA⟩ := trodAll_cons hA
  obtain ⟨u1, l1, d1, e1, p1, q1, E1, D1, P1, h1, hA⟩ := trodAll_cons hA
  obtain ⟨u2, l2, d2, e2, p2, q2, E2, D2, P2, h2, hA⟩ := trodAll_cons hA
  obtain ⟨y0, y1, y2⟩ := trodAll_nil hA
  obtain ⟨rfl, rfl⟩ := trodVars_none hV
  obtain rfl : args = #[u0, u1, u2] := Array.toList_inj.1 (by rw [E0, E1, E2, y0])
  obtain rfl : ds = [d0, d1, d2] := by rw [D0, D1, D2, y1]
  clear E0 P0 E1 P1 E2 P2 D0 D1 D2 y0 y1 y2 hA
  obtain ⟨c, rfl⟩ := okWide_int underI (hval 0 3 u0 rfl rfl)
  have b0 : -9223372036854775808 ≤ c ∧ c ≤ 9223372036854775807 := int_in h0
  obtain ⟨v1a, v1n, v1c, rfl⟩ := okWide_slice underSteps (hval 1 33 u1 rfl rfl)
  have s1 : StepsAt W v1a v1n ∧ v1n ≤ maxLen := by obtain ⟨fuel, hf⟩ := h1; exact steps_in hf
  obtain ⟨v2a, v2n, v2c, rfl⟩ := okWide_slice underInts (hval 2 34 u2 rfl rfl)
  have s2 : IntsAt W v2a v2n ∧ v2n ≤ maxLen := by obtain ⟨fuel, hf⟩ := h2; exact ints_in hf
  simp only [List.append_nil] at hW'
  have hlt : ∀ x ∈ p, x.block < W.heap.size := fun x hx => by simpa using hW'.lt x hx
  refine (keep_Guarded W c v1a v2a v1n v1c v2n v2c (glob_of_laid hL) b0.1 b0.2 s1.1 s2.1 (Nat.lt_of_le_of_lt s1.2 (by decide))).mono fun e W' ⟨he, hb⟩ => ?_
  subst he
  refine ⟨_, rfl, _, _, _, [], _, [], hW', ?_, below_trodAll hb ?_ hA2 hlt, rfl, hb.frame _, fun h => by cases h⟩
  · exact trodAll_mk1 (shut_bool underB _)
  · intro t ht
    rw [Tryd.params7] at ht
    have ht2 : t = 3 ∨ t = 33 ∨ t = 34 := by simp at ht; omega
    rcases ht2 with rfl | rfl | rfl
    · exact ⟨by kernel_rfl, of_decide_eq_true (by kernel_rfl)⟩
    · exact ⟨by kernel_rfl, of_decide_eq_true (by kernel_rfl)⟩
    · exact ⟨by kernel_rfl, of_decide_eq_true (by kernel_rfl)⟩

theorem laid_met (os : Os) : laidMet Tryd.prog Rows.guardedRow.laid ((laidWorld Tryd.prog os).forCall (fun _ _ => 0) ⟨#[], #[.int .i64 0, .slice none 0 0, .slice none 0 0], []⟩).memory :=
  laidMet_of_run' 8 (by kernel_rfl) (by kernel_rfl)
theorem reads (os : Os) {H : Type} (enc : TypeId × Value → H) : ∃ places, DataW.whole enc Tryd.prog ((laidWorld Tryd.prog os).forCall (fun _ _ => 0) ⟨#[], #[.int .i64 0, .slice none 0 0, .slice none 0 0], []⟩).memory Tryd.f7.params.toList Rows.guardedSpec.vars false #[Value.int .i64 0, Value.slice none 0 0, Value.slice none 0 0].toList 8 = some ([.lit (.int .i64 0), .nil, .nil], [], places) :=
  ⟨[], by kernel_rfl⟩

set_option maxRecDepth 100000 in
theorem lifted (os : Os) (started : os.Started) (H : Type) (enc : TypeId × Value → H) (F : Stop.Interp) :
    ReturnsInHanded {} Tryd.checked os 7 .any ((OpenSpec.ofChange Rows.guardedSpec).preRow enc Tryd.prog Tryd.f7 Rows.guardedRow.domain false Rows.guardedRow.laid) (((OpenSpec.ofChange Rows.guardedSpec).at F).post enc Tryd.prog Tryd.f7 false true false false) := by
  obtain ⟨places, hx⟩ := reads os enc
  refine returnsInHanded_of_row (C := Tryd.checked) (s := (OpenSpec.ofChange Rows.guardedSpec)) own started (by kernel_rfl) Tryd.func7
    (witness_row_at (enc := enc) (C := Tryd.checked) false (laidWorld Tryd.prog os) #[.int .i64 0, .slice none 0 0, .slice none 0 0] rfl (by kernel_rfl) (by kernel_rfl) (by kernel_rfl)
      (OpenSpec.preRow_of_cond 8 hx (by kernel_rfl) (fun k hk => by cases hk) (by kernel_rfl) (laid_met os))) ?_
  intro W base args ds gs before hval hW _ _ _ hL _ _
  exact contract H enc W base args ds gs before hval hW hL

theorem said : Rows.GuardedSaid :=
  OpenClaim.holds_of_cond 7 Tryd.f7 rfl rfl rfl rfl rfl rfl rfl ⟨rfl, rfl, rfl, rfl, rfl⟩ rfl rfl rfl rfl rfl (by kernel_rfl) Tryd.func7 (by kernel_rfl)
    (of_decide_eq_true (by kernel_rfl)) (by unfold Func.isWrapper; first | (rw [if_pos (by decide +kernel)]; kernel_rfl) | (rw [if_neg (by decide +kernel)]; exact ⟨rfl, rfl⟩))
    (fun os started H enc _ F => by rw [OpenClaim.pre_eq_preRow]; exact lifted os started H enc F)

theorem plain (f : FuncId) (fn : Func) (hf : Tryd.pinned.checked.prog.funcNamed "warden/wardenkeep.Guarded" = some f) (hfn : Tryd.pinned.checked.prog.funcs[f]? = some fn) :
    true = Tryd.pinned.checked.prog.looks [] ∧ ∀ (j : Nat) t, fn.params[j]? = some t → Tryd.pinned.checked.prog.wantsStandIn t = false := by
  obtain rfl : f = 7 := Option.some.inj ((show Tryd.prog.funcNamed "warden/wardenkeep.Guarded" = some 7 by kernel_rfl).symm.trans hf) |>.symm
  obtain rfl : fn = Tryd.f7 := (Option.some.inj (Tryd.func7.symm.trans hfn)).symm
  refine ⟨by kernel_rfl, fun j t ht => ?_⟩
  rw [Tryd.params7] at ht
  have ht2 : t = 3 ∨ t = 33 ∨ t = 34 := by have := Array.mem_of_getElem? ht; simp at this; omega
  rcases ht2 with rfl | rfl | rfl
  · exact (show Tryd.prog.wantsStandIn 3 = false by kernel_rfl)
  · exact (show Tryd.prog.wantsStandIn 33 = false by kernel_rfl)
  · exact (show Tryd.prog.wantsStandIn 34 = false by kernel_rfl)

theorem guarded_holds : Rows.GuardedCardSaid :=
  Claim7.holds_tied_plain_at .later [] _ _ _ _ said (fun _ h => by cases h) (by kernel_rfl) (fun _ h => by cases h) guarded_row_tie rfl ⟨rfl, rfl⟩ (by kernel_rfl) rfl plain (by kernel_rfl)
end Go.Proofs.YtaokemapkgggoaaDoor
