import Derived.Test.YtaokemapkgggoaaDoorTd06
import Derived.Test.YtaokemapkgggoaaDoorKb32
namespace Go.Proofs.YtaokemapkgggoaaDoor
open Go.ChangeShapes Go.WideShapes Go.ChangeAt Go.RowKit

set_option maxRecDepth 100000 in
theorem contract (H : Type) (enc : TypeId × Value → H) (W : World) (base : Nat) (args : Array Value) (ds gs : List (DataW H)) (before : List MemPlace)
    (hval : ∀ (j : Nat) t v, Tryd.f8.params[j]? = some t → args[j]? = some v → Value.okWide Tryd.prog W .any base t v)
    (hW : DataW.Whole enc Tryd.prog Tryd.f8.params.toList Rows.tornSpec.vars false W args.toList ds gs before) (hL : laidMetH Tryd.prog Rows.tornRow.laid W) :
    Calls Tryd.prog 8 args W fun e W' => ∃ v, e = .returned v ∧ Rows.tornSpec.post enc Tryd.prog Tryd.f8 false true false false W args v W' := by
  have hW' := hW
  obtain ⟨p, q, hA0, hV, rfl, _, _⟩ := hW
  have hA : DataW.TrodAll enc Tryd.prog W 0 (fun _ => true) true Tryd.f8.params.toList args.toList ds p := hA0
  have hA2 := hA
  clear hA0
  rw [Tryd.params8] at hA hval
  obtain ⟨u0, l0, d0, e0, p0, q0, E0, D0, P0, h0, hA⟩ := trodAll_cons hA
  obtain ⟨u1, l1, d1, e1, p1, q1, E1, D1, P1, h1, hA⟩ := trodAll_cons hA
  obtain ⟨u2, l2, d2, e2, p2, q2, E2, D2, P2, h2, hA⟩ := trodAll_cons hA
  obtain ⟨u3, l3, d3, e3, p3, q3, E3, D3, P3, h3, hA⟩ := trodAll_cons hA
  obtain ⟨u4, l4, d4, e4, p4, q4, E4, D4, P4, h4, hA⟩ := trodAll_cons hA
  obtain ⟨u5, l5, d5, e5, p5, q5, E5, D5, P5, h5, hA⟩ := trodAll_cons hA
  obtain ⟨y0, y1, y2⟩ := trodAll_nil hA
  obtain ⟨rfl, rfl⟩ := trodVars_none hV
  obtain rfl : args = #[u0, u1, u2, u3, u4, u5] := Array.toList_inj.1 (by rw [E0, E1, E2, E3, E4, E5, y0])
  obtain rfl : ds = [d0, d1, d2, d3, d4, d5] := by rw [D0, D1, D2, D3, D4, D5, y1]
  clear E0 P0 E1 P1 E2 P2 E3 P3 E4 P4 E5 P5 D0 D1 D2 D3 D4 D5 y0 y1 y2 hA
  obtain ⟨c, rfl⟩ := okWide_int underI (hval 0 3 u0 rfl rfl)
  have b0 : -9223372036854775808 ≤ c ∧ c ≤ 9223372036854775807 := int_in h0
  obtain ⟨v1a, v1n, v1c, rfl⟩ := okWide_slice underInts (hval 1 34 u1 rfl rfl)
  have s1 : IntsAt W v1a v1n ∧ v1n ≤ maxLen := by obtain ⟨fuel, hf⟩ := h1; exact ints_in hf
  obtain ⟨kind, rfl⟩ := okWide_int underI (hval 2 3 u2 rfl rfl)
  have b2 : -9223372036854775808 ≤ kind ∧ kind ≤ 9223372036854775807 := int_in h2
  obtain ⟨slot, rfl⟩ := okWide_int underI (hval 3 3 u3 rfl rfl)
  have b3 : -9223372036854775808 ≤ slot ∧ slot ≤ 9223372036854775807 := int_in h3
  obtain ⟨fresh, rfl⟩ := okWide_int underI (hval 4 3 u4 rfl rfl)
  have b4 : -9223372036854775808 ≤ fresh ∧ fresh ≤ 9223372036854775807 := int_in h4
  obtain ⟨power, rfl⟩ := okWide_int underI (hval 5 3 u5 rfl rfl)
  have b5 : -9223372036854775808 ≤ power ∧ power ≤ 9223372036854775807 := int_in h5
  simp only [List.append_nil] at hW'
  have hlt : ∀ x ∈ p, x.block < W.heap.size := fun x hx => by simpa using hW'.lt x hx
  refine (keep_Torn W c kind slot fresh power v1a v1n v1c (glob_of_laid hL) b0.1 b0.2 b2.1 b2.2 b3.1 b3.2 b4.1 b4.2 b5.1 b5.2 s1.1 (Nat.lt_of_le_of_lt s1.2 (by decide))).mono fun e W' ⟨he, hb⟩ => ?_
  subst he
  refine ⟨_, rfl, _, _, _, [], _, [], hW', ?_, below_trodAll hb ?_ hA2 hlt, rfl, hb.frame _, fun h => by cases h⟩
  · exact trodAll_mk1 (shut_bool underB _)
  · intro t ht
    rw [Tryd.params8] at ht
    have z0 : t ∈ [3, 34, 3, 3, 3, 3] := ht
    rcases List.mem_cons.1 z0 with rfl | z1
    · exact ⟨by kernel_rfl, of_decide_eq_true (by kernel_rfl)⟩
    rcases List.mem_cons.1 z1 with rfl | z2
    · exact ⟨by kernel_rfl, of_decide_eq_true (by kernel_rfl)⟩
    rcases List.mem_cons.1 z2 with rfl | z3
    · exact ⟨by kernel_rfl, of_decide_eq_true (by kernel_rfl)⟩
    rcases List.mem_cons.1 z3 with rfl | z4
    · exact ⟨by kernel_rfl, of_decide_eq_true (by kernel_rfl)⟩
    rcases List.mem_cons.1 z4 with rfl | z5
    · exact ⟨by kernel_rfl, of_decide_eq_true (by kernel_rfl)⟩
    rcases List.mem_cons.1 z5 with rfl | z6
    · exact ⟨by kernel_rfl, of_decide_eq_true (by kernel_rfl)⟩
    cases z6

theorem laid_met (os : Os) : laidMet Tryd.prog Rows.tornRow.laid ((laidWorld Tryd.prog os).forCall (fun _ _ => 0) ⟨#[], #[.int .i64 0, .slice none 0 0, .int .i64 0, .int .i64 0, .int .i64 0, .int .i64 0], []⟩).memory :=
  laidMet_of_run' 8 (by kernel_rfl) (by kernel_rfl)
theorem reads (os : Os) {H : Type} (enc : TypeId × Value → H) : ∃ places, DataW.whole enc Tryd.prog ((laidWorld Tryd.prog os).forCall (fun _ _ => 0) ⟨#[], #[.int .i64 0, .slice none 0 0, .int .i64 0, .int .i64 0, .int .i64 0, .int .i64 0], []⟩).memory Tryd.f8.params.toList Rows.tornSpec.vars false #[Value.int .i64 0, Value.slice none 0 0, Value.int .i64 0, Value.int .i64 0, Value.int .i64 0, Value.int .i64 0].toList 8 = some ([.lit (.int .i64 0), .nil, .lit (.int .i64 0), .lit (.int .i64 0), .lit (.int .i64 0), .lit (.int .i64 0)], [], places) :=
  ⟨[], by kernel_rfl⟩

set_option maxRecDepth 100000 in
theorem lifted (os : Os) (started : os.Started) (H : Type) (enc : TypeId × Value → H) (F : Stop.Interp) :
    ReturnsInHanded {} Tryd.checked os 8 .any ((OpenSpec.ofChange Rows.tornSpec).preRow enc Tryd.prog Tryd.f8 Rows.tornRow.domain false Rows.tornRow.laid) (((OpenSpec.ofChange Rows.tornSpec).at F).post enc Tryd.prog Tryd.f8 false true false false) := by
  obtain ⟨places, hx⟩ := reads os enc
  refine returnsInHanded_of_row (C := Tryd.checked) (s := (OpenSpec.ofChange Rows.tornSpec)) own started (by kernel_rfl) Tryd.func8
    (witness_row_at (enc := enc) (C := Tryd.checked) false (laidWorld Tryd.prog os) #[.int .i64 0, .slice none 0 0, .int .i64 0, .int .i64 0, .int .i64 0, .int .i64 0] rfl (by kernel_rfl) (by kernel_rfl) (by kernel_rfl)
      (OpenSpec.preRow_of_cond 8 hx (by kernel_rfl) (fun k hk => by cases hk) (by kernel_rfl) (laid_met os))) ?_
  intro W base args ds gs before hval hW _ _ _ hL _ _
  exact contract H enc W base args ds gs before hval hW hL

theorem said : Rows.TornSaid :=
  OpenClaim.holds_of_cond 8 Tryd.f8 rfl rfl rfl rfl rfl rfl rfl ⟨rfl, rfl, rfl, rfl, rfl⟩ rfl rfl rfl rfl rfl (by kernel_rfl) Tryd.func8 (by kernel_rfl)
    (of_decide_eq_true (by kernel_rfl)) (by unfold Func.isWrapper; first | (rw [if_pos (by decide +kernel)]; kernel_rfl) | (rw [if_neg (by decide +kernel)]; exact ⟨rfl, rfl⟩))
    (fun os started H enc _ F => by rw [OpenClaim.pre_eq_preRow]; exact lifted os started H enc F)

theorem plain (f : FuncId) (fn : Func) (hf : Tryd.pinned.checked.prog.funcNamed "warden/wardenkeep.Torn" = some f) (hfn : Tryd.pinned.checked.prog.funcs[f]? = some fn) :
    true = Tryd.pinned.checked.prog.looks [] ∧ ∀ (j : Nat) t, fn.params[j]? = some t → Tryd.pinned.checked.prog.wantsStandIn t = false := by
  obtain rfl : f = 8 := Option.some.inj ((show Tryd.prog.funcNamed "warden/wardenkeep.Torn" = some 8 by kernel_rfl).symm.trans hf) |>.symm
  obtain rfl : fn = Tryd.f8 := (Option.some.inj (Tryd.func8.symm.trans hfn)).symm
  refine ⟨by kernel_rfl, fun j t ht => ?_⟩
  rw [Tryd.params8] at ht
  have z0 : t ∈ [3, 34, 3, 3, 3, 3] := Array.mem_def.1 (Array.mem_of_getElem? ht)
  rcases List.mem_cons.1 z0 with rfl | z1
  · exact (show Tryd.prog.wantsStandIn 3 = false by kernel_rfl)
  rcases List.mem_cons.1 z1 with rfl | z2
  · exact (show Tryd.prog.wantsStandIn 34 = false by kernel_rfl)
  rcases List.mem_cons.1 z2 with rfl | z3
  · exact (show Tryd.prog.wantsStandIn 3 = false by kernel_rfl)
  rcases List.mem_cons.1 z3 with rfl | z4
  · exact (show Tryd.prog.wantsStandIn 3 = false by kernel_rfl)
  rcases List.mem_cons.1 z4 with rfl | z5
  · exact (show Tryd.prog.wantsStandIn 3 = false by kernel_rfl)
  rcases List.mem_cons.1 z5 with rfl | z6
  · exact (show Tryd.prog.wantsStandIn 3 = false by kernel_rfl)
  cases z6

theorem torn_holds : Rows.TornCardSaid :=
  Claim7.holds_tied_plain_at .later [] _ _ _ _ said (fun _ h => by cases h) (by kernel_rfl) (fun _ h => by cases h) torn_row_tie rfl ⟨rfl, rfl⟩ (by kernel_rfl) rfl plain (by kernel_rfl)
end Go.Proofs.YtaokemapkgggoaaDoor
