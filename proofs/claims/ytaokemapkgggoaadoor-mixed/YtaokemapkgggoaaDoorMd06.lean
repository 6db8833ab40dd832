import Derived.Test.YtaokemapkgggoaaDoorMd02
import Derived.Test.YtaokemapkgggoaaDoorMd03
import Derived.Test.YtaokemapkgggoaaDoorMd04
import Derived.Test.YtaokemapkgggoaaDoorMd05
import Derived.Test.YtaokemapkgggoaaDoorKb32
namespace Go.Proofs.YtaokemapkgggoaaDoor
open Go.RowKit

theorem keep_Mixed (w : World) (c number : Int) (msg : ByteArray) (G : Glob w) (hc0 : -9223372036854775808 ≤ c) (hc1 : c ≤ 9223372036854775807) (hn0 : -9223372036854775808 ≤ number) (hn1 : number ≤ 9223372036854775807) (hm2 : msg.size ≤ 9223372036854775807) :
    Calls Tryd.prog 3 #[.int .i64 c, .string msg, .int .i64 number] w fun r w' => r = .returned (.bool true) ∧ Below w.heap.size w w' := by
  by_cases hm : 200 < msg.size
  · by_cases hn : number < 0
    · exact keep_Mixed_LN w c number msg G hc0 hc1 hn0 hn1 hm hm2 hn
    · exact keep_Mixed_LP w c number msg G hc0 hc1 hn0 hn1 hm hm2 hn
  · by_cases hn : number < 0
    · exact keep_Mixed_SN w c number msg G hc0 hc1 hn0 hn1 hm hm2 hn
    · exact keep_Mixed_SP w c number msg G hc0 hc1 hn0 hn1 hm hm2 hn
end Go.Proofs.YtaokemapkgggoaaDoor

namespace Go.Proofs.YtaokemapkgggoaaDoor
open Go.ChangeShapes Go.WideShapes Go.ChangeAt Go.RowKit

set_option maxRecDepth 100000 in
theorem contract (H : Type) (enc : TypeId × Value → H) (W : World) (base : Nat) (args : Array Value) (ds gs : List (DataW H)) (before : List MemPlace)
    (hval : ∀ (j : Nat) t v, Tryd.f3.params[j]? = some t → args[j]? = some v → Value.okWide Tryd.prog W .any base t v)
    (hW : DataW.Whole enc Tryd.prog Tryd.f3.params.toList Rows.mixedSpec.vars false W args.toList ds gs before) (hL : laidMetH Tryd.prog Rows.mixedRow.laid W) :
    Calls Tryd.prog 3 args W fun e W' => ∃ v, e = .returned v ∧ Rows.mixedSpec.post enc Tryd.prog Tryd.f3 false true false false W args v W' := by
  have hW' := hW
  obtain ⟨p, q, hA0, hV, rfl, _, _⟩ := hW
  have hA : DataW.TrodAll enc Tryd.prog W 0 (fun _ => true) true Tryd.f3.params.toList args.toList ds p := hA0
  have hA2 := hA
  clear hA0
  rw [Tryd.params3] at hA hval
  obtain ⟨u0, l0, d0, e0, p0, q0, E0, D0, P0, h0, hA⟩ := trodAll_cons hA
  obtain ⟨u1, l1, d1, e1, p1, q1, E1, D1, P1, h1, hA⟩ := trodAll_cons hA
  obtain ⟨u2, l2, d2, e2, p2, q2, E2, D2, P2, h2, hA⟩ := trodAll_cons hA
  obtain ⟨y0, y1, y2⟩ := trodAll_nil hA
  obtain ⟨rfl, rfl⟩ := trodVars_none hV
  obtain rfl : args = #[u0, u1, u2] := Array.toList_inj.1 (by rw [E0, E1, E2, y0])
  obtain rfl : ds = [d0, d1, d2] := by rw [D0, D1, D2, y1]
  clear E0 P0 E1 P1 E2 P2 D0 D1 D2 y0 y1 y2 hA
  obtain ⟨c, rfl⟩ := okWide_int underI (hval 0 3 u0 rfl rfl)
  have b0 : -9223372036854775808 ≤ c ∧ c ≤ 9223372036854775807 := int_in h0
  obtain ⟨msg, rfl⟩ := okWide_string under_str (hval 1 9 u1 rfl rfl)
  have b1 : msg.size ≤ maxLen := (str_in h1).1
  obtain ⟨number, rfl⟩ := okWide_int underI (hval 2 3 u2 rfl rfl)
  have b2 : -9223372036854775808 ≤ number ∧ number ≤ 9223372036854775807 := int_in h2
  simp only [List.append_nil] at hW'
  have hlt : ∀ x ∈ p, x.block < W.heap.size := fun x hx => by simpa using hW'.lt x hx
  refine (keep_Mixed W c number msg (glob_of_laid hL) b0.1 b0.2 b2.1 b2.2 (Nat.le_trans b1 (by decide))).mono fun e W' ⟨he, hb⟩ => ?_
  subst he
  refine ⟨_, rfl, _, _, _, [], _, [], hW', ?_, below_trodAll hb ?_ hA2 hlt, rfl, hb.frame _, fun h => by cases h⟩
  · exact trodAll_mk1 (shut_bool underB _)
  · intro t ht
    rw [Tryd.params3] at ht
    have z0 : t ∈ [3, 9, 3] := ht
    rcases List.mem_cons.1 z0 with rfl | z1
    · exact ⟨by kernel_rfl, of_decide_eq_true (by kernel_rfl)⟩
    rcases List.mem_cons.1 z1 with rfl | z2
    · exact ⟨by kernel_rfl, of_decide_eq_true (by kernel_rfl)⟩
    rcases List.mem_cons.1 z2 with rfl | z3
    · exact ⟨by kernel_rfl, of_decide_eq_true (by kernel_rfl)⟩
    cases z3

theorem laid_met (os : Os) : laidMet Tryd.prog Rows.mixedRow.laid ((laidWorld Tryd.prog os).forCall (fun _ _ => 0) ⟨#[], #[.int .i64 0, .string ⟨#[]⟩, .int .i64 0], []⟩).memory :=
  laidMet_of_run' 8 (by kernel_rfl) (by kernel_rfl)
theorem reads (os : Os) {H : Type} (enc : TypeId × Value → H) : ∃ places, DataW.whole enc Tryd.prog ((laidWorld Tryd.prog os).forCall (fun _ _ => 0) ⟨#[], #[.int .i64 0, .string ⟨#[]⟩, .int .i64 0], []⟩).memory Tryd.f3.params.toList Rows.mixedSpec.vars false #[Value.int .i64 0, Value.string ⟨#[]⟩, Value.int .i64 0].toList 8 = some ([.lit (.int .i64 0), .lit (.string []), .lit (.int .i64 0)], [], places) :=
  ⟨[], by kernel_rfl⟩

set_option maxRecDepth 100000 in
theorem lifted (os : Os) (started : os.Started) (H : Type) (enc : TypeId × Value → H) (F : Stop.Interp) :
    ReturnsInHanded {} Tryd.checked os 3 .any ((OpenSpec.ofChange Rows.mixedSpec).preRow enc Tryd.prog Tryd.f3 Rows.mixedRow.domain false Rows.mixedRow.laid) (((OpenSpec.ofChange Rows.mixedSpec).at F).post enc Tryd.prog Tryd.f3 false true false false) := by
  obtain ⟨places, hx⟩ := reads os enc
  refine returnsInHanded_of_row (C := Tryd.checked) (s := (OpenSpec.ofChange Rows.mixedSpec)) own started (by kernel_rfl) Tryd.func3
    (witness_row_at (enc := enc) (C := Tryd.checked) false (laidWorld Tryd.prog os) #[.int .i64 0, .string ⟨#[]⟩, .int .i64 0] rfl (by kernel_rfl) (by kernel_rfl) (by kernel_rfl)
      (OpenSpec.preRow_of_cond 8 hx (by kernel_rfl) (fun k hk => by cases hk) (by kernel_rfl) (laid_met os))) ?_
  intro W base args ds gs before hval hW _ _ _ hL _ _
  exact contract H enc W base args ds gs before hval hW hL

theorem said : Rows.MixedSaid :=
  OpenClaim.holds_of_cond 3 Tryd.f3 rfl rfl rfl rfl rfl rfl rfl ⟨rfl, rfl, rfl, rfl, rfl⟩ rfl rfl rfl rfl rfl (by kernel_rfl) Tryd.func3 (by kernel_rfl)
    (of_decide_eq_true (by kernel_rfl)) (by unfold Func.isWrapper; first | (rw [if_pos (by decide +kernel)]; kernel_rfl) | (rw [if_neg (by decide +kernel)]; exact ⟨rfl, rfl⟩))
    (fun os started H enc _ F => by rw [OpenClaim.pre_eq_preRow]; exact lifted os started H enc F)

theorem plain (f : FuncId) (fn : Func) (hf : Tryd.pinned.checked.prog.funcNamed "warden/wardenkeep.Mixed" = some f) (hfn : Tryd.pinned.checked.prog.funcs[f]? = some fn) :
    true = Tryd.pinned.checked.prog.looks [] ∧ ∀ (j : Nat) t, fn.params[j]? = some t → Tryd.pinned.checked.prog.wantsStandIn t = false := by
  obtain rfl : f = 3 := Option.some.inj ((show Tryd.prog.funcNamed "warden/wardenkeep.Mixed" = some 3 by kernel_rfl).symm.trans hf) |>.symm
  obtain rfl : fn = Tryd.f3 := (Option.some.inj (Tryd.func3.symm.trans hfn)).symm
  refine ⟨by kernel_rfl, fun j t ht => ?_⟩
  rw [Tryd.params3] at ht
  have z0 : t ∈ [3, 9, 3] := Array.mem_def.1 (Array.mem_of_getElem? ht)
  rcases List.mem_cons.1 z0 with rfl | z1
  · exact (show Tryd.prog.wantsStandIn 3 = false by kernel_rfl)
  rcases List.mem_cons.1 z1 with rfl | z2
  · exact (show Tryd.prog.wantsStandIn 9 = false by kernel_rfl)
  rcases List.mem_cons.1 z2 with rfl | z3
  · exact (show Tryd.prog.wantsStandIn 3 = false by kernel_rfl)
  cases z3

theorem mixed_holds : Rows.MixedCardSaid :=
  Claim7.holds_tied_plain_at .later [] _ _ _ _ said (fun _ h => by cases h) (by kernel_rfl) (fun _ h => by cases h) mixed_row_tie rfl ⟨rfl, rfl⟩ (by kernel_rfl) rfl plain (by kernel_rfl)
end Go.Proofs.YtaokemapkgggoaaDoor
