import Derived.Test.YtaokemapkgggoaaDoorOd03
import Derived.Test.YtaokemapkgggoaaDoorOd04
import Derived.Test.YtaokemapkgggoaaDoorKb32
namespace Go.Proofs.YtaokemapkgggoaaDoor
open Go.RowKit

theorem keep_OpenedLaw (w : World) (c number tries aq bq0 : Int) (ko : Option Addr) (kl kc : Nat) (turned : Bool) (G : Glob w) (hc0 : -9223372036854775808 ≤ c) (hc1 : c ≤ 9223372036854775807) (hn0 : -9223372036854775808 ≤ number) (hn1 : number ≤ 9223372036854775807) (ht0 : -9223372036854775808 ≤ tries) (ht1 : tries ≤ 9223372036854775807) (ha0 : -9223372036854775808 ≤ aq) (ha1 : aq ≤ 9223372036854775807) (hb0 : -9223372036854775808 ≤ bq0) (hb1 : bq0 ≤ 9223372036854775807) (hK : IntsAt w ko kl) :
    Calls Tryd.prog 9 #[.int .i64 c, .int .i64 number, .int .i64 tries, .slice ko kl kc, .bool turned, .int .i64 aq, .int .i64 bq0] w fun r w' => r = .returned (.bool true) ∧ Below w.heap.size w w' := by
  cases turned with
  | true => exact keep_OpenedLaw_T w c number tries aq bq0 ko kl kc G ⟨⟨hc0, hc1⟩, ⟨hn0, hn1⟩, ⟨ht0, ht1⟩, ⟨ha0, ha1⟩, ⟨hb0, hb1⟩⟩ hK
  | false => exact keep_OpenedLaw_F w c number tries aq bq0 ko kl kc G ⟨⟨hc0, hc1⟩, ⟨hn0, hn1⟩, ⟨ht0, ht1⟩, ⟨ha0, ha1⟩, ⟨hb0, hb1⟩⟩ hK
end Go.Proofs.YtaokemapkgggoaaDoor

namespace Go.Proofs.YtaokemapkgggoaaDoor
open Go.ChangeShapes Go.WideShapes Go.ChangeAt Go.RowKit

set_option maxRecDepth 100000 in
theorem contract (H : Type) (enc : TypeId × Value → H) (W : World) (base : Nat) (args : Array Value) (ds gs : List (DataW H)) (before : List MemPlace)
    (hval : ∀ (j : Nat) t v, Tryd.f9.params[j]? = some t → args[j]? = some v → Value.okWide Tryd.prog W .any base t v)
    (hW : DataW.Whole enc Tryd.prog Tryd.f9.params.toList Rows.openedSpec.vars false W args.toList ds gs before) (hL : laidMetH Tryd.prog Rows.openedRow.laid W) :
    Calls Tryd.prog 9 args W fun e W' => ∃ v, e = .returned v ∧ Rows.openedSpec.post enc Tryd.prog Tryd.f9 false true false false W args v W' := by
  have hW' := hW
  obtain ⟨p, q, hA0, hV, rfl, _, _⟩ := hW
  have hA : DataW.TrodAll enc Tryd.prog W 0 (fun _ => true) true Tryd.f9.params.toList args.toList ds p := hA0
  have hA2 := hA
  clear hA0
  rw [Tryd.params9] at hA hval
  obtain ⟨u0, l0, d0, e0, p0, q0, E0, D0, P0, h0, hA⟩ := trodAll_cons hA
  obtain ⟨u1, l1, d1, e1, p1, q1, E1, D1, P1, h1, hA⟩ := trodAll_cons hA
  obtain ⟨u2, l2, d2, e2, p2, q2, E2, D2, P2, h2, hA⟩ := trodAll_cons hA
  obtain ⟨u3, l3, d3, e3, p3, q3, E3, D3, P3, h3, hA⟩ := trodAll_cons hA
  obtain ⟨u4, l4, d4, e4, p4, q4, E4, D4, P4, h4, hA⟩ := trodAll_cons hA
  obtain ⟨u5, l5, d5, e5, p5, q5, E5, D5, P5, h5, hA⟩ := trodAll_cons hA
  obtain ⟨u6, l6, d6, e6, p6, q6, E6, D6, P6, h6, hA⟩ := trodAll_cons hA
  obtain ⟨y0, y1, y2⟩ := trodAll_nil hA
  obtain ⟨rfl, rfl⟩ := trodVars_none hV
  obtain rfl : args = #[u0, u1, u2, u3, u4, u5, u6] := Array.toList_inj.1 (by rw [E0, E1, E2, E3, E4, E5, E6, y0])
  obtain rfl : ds = [d0, d1, d2, d3, d4, d5, d6] := by rw [D0, D1, D2, D3, D4, D5, D6, y1]
  clear E0 P0 E1 P1 E2 P2 E3 P3 E4 P4 E5 P5 E6 P6 D0 D1 D2 D3 D4 D5 D6 y0 y1 y2 hA
  obtain ⟨c, rfl⟩ := okWide_int underI (hval 0 3 u0 rfl rfl)
  have b0 : -9223372036854775808 ≤ c ∧ c ≤ 9223372036854775807 := int_in h0
  obtain ⟨number, rfl⟩ := okWide_int underI (hval 1 3 u1 rfl rfl)
  have b1 : -9223372036854775808 ≤ number ∧ number ≤ 9223372036854775807 := int_in h1
  obtain ⟨tries, rfl⟩ := okWide_int underI (hval 2 3 u2 rfl rfl)
  have b2 : -9223372036854775808 ≤ tries ∧ tries ≤ 9223372036854775807 := int_in h2
  obtain ⟨v3a, v3n, v3c, rfl⟩ := okWide_slice underInts (hval 3 34 u3 rfl rfl)
  have s3 : IntsAt W v3a v3n ∧ v3n ≤ maxLen := by obtain ⟨fuel, hf⟩ := h3; exact ints_in hf
  obtain ⟨turned, rfl⟩ := okWide_bool underB (hval 4 4 u4 rfl rfl)
  obtain ⟨v5, rfl⟩ := okWide_int underI (hval 5 3 u5 rfl rfl)
  have b5 : -9223372036854775808 ≤ v5 ∧ v5 ≤ 9223372036854775807 := int_in h5
  obtain ⟨v6, rfl⟩ := okWide_int underI (hval 6 3 u6 rfl rfl)
  have b6 : -9223372036854775808 ≤ v6 ∧ v6 ≤ 9223372036854775807 := int_in h6
  simp only [List.append_nil] at hW'
  have hlt : ∀ x ∈ p, x.block < W.heap.size := fun x hx => by simpa using hW'.lt x hx
  refine (keep_OpenedLaw W c number tries v5 v6 v3a v3n v3c turned (glob_of_laid hL) b0.1 b0.2 b1.1 b1.2 b2.1 b2.2 b5.1 b5.2 b6.1 b6.2 s3.1).mono fun e W' ⟨he, hb⟩ => ?_
  subst he
  refine ⟨_, rfl, _, _, _, [], _, [], hW', ?_, below_trodAll hb ?_ hA2 hlt, rfl, hb.frame _, fun h => by cases h⟩
  · exact trodAll_mk1 (shut_bool underB _)
  · intro t ht
    rw [Tryd.params9] at ht
    have z0 : t ∈ [3, 3, 3, 34, 4, 3, 3] := ht
    rcases List.mem_cons.1 z0 with rfl | z1
    · exact ⟨by kernel_rfl, of_decide_eq_true (by kernel_rfl)⟩
    rcases List.mem_cons.1 z1 with rfl | z2
    · exact ⟨by kernel_rfl, of_decide_eq_true (by kernel_rfl)⟩
    rcases List.mem_cons.1 z2 with rfl | z3
    · exact ⟨by kernel_rfl, of_decide_eq_true (by kernel_rfl)⟩
    rcases List.mem_cons.1 z3 with rfl | z4
    · exact ⟨by kernel_rfl, of_decide_eq_true (by kernel_rfl)⟩
    rcases List.mem_cons.1 z4 with rfl | z5
    · exact ⟨by kernel_rfl, of_decide_eq_true (by kernel_rfl)⟩
    rcases List.mem_cons.1 z5 with rfl | z6
    · exact ⟨by kernel_rfl, of_decide_eq_true (by kernel_rfl)⟩
    rcases List.mem_cons.1 z6 with rfl | z7
    · exact ⟨by kernel_rfl, of_decide_eq_true (by kernel_rfl)⟩
    cases z7

theorem laid_met (os : Os) : laidMet Tryd.prog Rows.openedRow.laid ((laidWorld Tryd.prog os).forCall (fun _ _ => 0) ⟨#[], #[.int .i64 0, .int .i64 0, .int .i64 0, .slice none 0 0, .bool false, .int .i64 0, .int .i64 0], []⟩).memory :=
  laidMet_of_run' 8 (by kernel_rfl) (by kernel_rfl)
theorem reads (os : Os) {H : Type} (enc : TypeId × Value → H) : ∃ places, DataW.whole enc Tryd.prog ((laidWorld Tryd.prog os).forCall (fun _ _ => 0) ⟨#[], #[.int .i64 0, .int .i64 0, .int .i64 0, .slice none 0 0, .bool false, .int .i64 0, .int .i64 0], []⟩).memory Tryd.f9.params.toList Rows.openedSpec.vars false #[Value.int .i64 0, Value.int .i64 0, Value.int .i64 0, Value.slice none 0 0, Value.bool false, Value.int .i64 0, Value.int .i64 0].toList 8 = some ([.lit (.int .i64 0), .lit (.int .i64 0), .lit (.int .i64 0), .nil, .lit (.bool false), .lit (.int .i64 0), .lit (.int .i64 0)], [], places) :=
  ⟨[], by kernel_rfl⟩

set_option maxRecDepth 100000 in
theorem lifted (os : Os) (started : os.Started) (H : Type) (enc : TypeId × Value → H) (F : Stop.Interp) :
    ReturnsInHanded {} Tryd.checked os 9 .any ((OpenSpec.ofChange Rows.openedSpec).preRow enc Tryd.prog Tryd.f9 Rows.openedRow.domain false Rows.openedRow.laid) (((OpenSpec.ofChange Rows.openedSpec).at F).post enc Tryd.prog Tryd.f9 false true false false) := by
  obtain ⟨places, hx⟩ := reads os enc
  refine returnsInHanded_of_row (C := Tryd.checked) (s := (OpenSpec.ofChange Rows.openedSpec)) own started (by kernel_rfl) Tryd.func9
    (witness_row_at (enc := enc) (C := Tryd.checked) false (laidWorld Tryd.prog os) #[.int .i64 0, .int .i64 0, .int .i64 0, .slice none 0 0, .bool false, .int .i64 0, .int .i64 0] rfl (by kernel_rfl) (by kernel_rfl) (by kernel_rfl)
      (OpenSpec.preRow_of_cond 8 hx (by kernel_rfl) (fun k hk => by cases hk) (by kernel_rfl) (laid_met os))) ?_
  intro W base args ds gs before hval hW _ _ _ hL _ _
  exact contract H enc W base args ds gs before hval hW hL

theorem said : Rows.OpenedSaid :=
  OpenClaim.holds_of_cond 9 Tryd.f9 rfl rfl rfl rfl rfl rfl rfl ⟨rfl, rfl, rfl, rfl, rfl⟩ rfl rfl rfl rfl rfl (by kernel_rfl) Tryd.func9 (by kernel_rfl)
    (of_decide_eq_true (by kernel_rfl)) (by unfold Func.isWrapper; first | (rw [if_pos (by decide +kernel)]; kernel_rfl) | (rw [if_neg (by decide +kernel)]; exact ⟨rfl, rfl⟩))
    (fun os started H enc _ F => by rw [OpenClaim.pre_eq_preRow]; exact lifted os started H enc F)

theorem plain (f : FuncId) (fn : Func) (hf : Tryd.pinned.checked.prog.funcNamed "warden/wardenkeep.Opened" = some f) (hfn : Tryd.pinned.checked.prog.funcs[f]? = some fn) :
    true = Tryd.pinned.checked.prog.looks [] ∧ ∀ (j : Nat) t, fn.params[j]? = some t → Tryd.pinned.checked.prog.wantsStandIn t = false := by
  obtain rfl : f = 9 := Option.some.inj ((show Tryd.prog.funcNamed "warden/wardenkeep.Opened" = some 9 by kernel_rfl).symm.trans hf) |>.symm
  obtain rfl : fn = Tryd.f9 := (Option.some.inj (Tryd.func9.symm.trans hfn)).symm
  refine ⟨by kernel_rfl, fun j t ht => ?_⟩
  rw [Tryd.params9] at ht
  have z0 : t ∈ [3, 3, 3, 34, 4, 3, 3] := Array.mem_def.1 (Array.mem_of_getElem? ht)
  rcases List.mem_cons.1 z0 with rfl | z1
  · exact (show Tryd.prog.wantsStandIn 3 = false by kernel_rfl)
  rcases List.mem_cons.1 z1 with rfl | z2
  · exact (show Tryd.prog.wantsStandIn 3 = false by kernel_rfl)
  rcases List.mem_cons.1 z2 with rfl | z3
  · exact (show Tryd.prog.wantsStandIn 3 = false by kernel_rfl)
  rcases List.mem_cons.1 z3 with rfl | z4
  · exact (show Tryd.prog.wantsStandIn 34 = false by kernel_rfl)
  rcases List.mem_cons.1 z4 with rfl | z5
  · exact (show Tryd.prog.wantsStandIn 4 = false by kernel_rfl)
  rcases List.mem_cons.1 z5 with rfl | z6
  · exact (show Tryd.prog.wantsStandIn 3 = false by kernel_rfl)
  rcases List.mem_cons.1 z6 with rfl | z7
  · exact (show Tryd.prog.wantsStandIn 3 = false by kernel_rfl)
  cases z7

theorem opened_holds : Rows.OpenedCardSaid :=
  Claim7.holds_tied_plain_at .later [] _ _ _ _ said (fun _ h => by cases h) (by kernel_rfl) (fun _ h => by cases h) opened_row_tie rfl ⟨rfl, rfl⟩ (by kernel_rfl) rfl plain (by kernel_rfl)
end Go.Proofs.YtaokemapkgggoaaDoor
