import Derived.Test.YtaokemapkgggoaaDoorGd32
import Derived.Test.YtaokemapkgggoaaDoorCards
import Derived.Test.YtaokemapkgggoaaDoorTie
import Derived.WalkKit
import Derived.ProofKit
import Derived.OpenShut
import Derived.Carry
import Derived.ChangeMaps5
import Derived.Deep.Slices
import Derived.Deep.DeepHandedRow
import Derived.Lib.LaidTab
import Derived.Test.YtaokemapkgggoaaDoorGd33
namespace Go.Proofs.YtaokemapkgggoaaDoor
open Go.ChangeShapes Go.WideShapes Go.ChangeAt Go.RowKit

theorem own : ownKnob Tryd.prog.godebug = none := by kernel_rfl
theorem laidOut : laidOutB Tryd.prog = true := by kernel_rfl
theorem gStart : Tryd.prog.globalNamed "warden/warden.startWords" = some 0 := by kernel_rfl
theorem gRoot : Tryd.prog.globalNamed "warden/warden.rootWords" = some 1 := by kernel_rfl
theorem gStartT : (Tryd.prog.globals[0]?).map (·.type) = some 69 := by kernel_rfl
theorem gRootT : (Tryd.prog.globals[1]?).map (·.type) = some 115 := by kernel_rfl
theorem underS : Tryd.prog.underlying 69 = some (.array 8 68) := by kernel_rfl
theorem underR : Tryd.prog.underlying 115 = some (.array 64 68) := by kernel_rfl
theorem under32 : Tryd.prog.underlying 68 = some (.int .u32) := by kernel_rfl
theorem cells32 : Tryd.prog.cellsOf 68 = 1 := by kernel_rfl
theorem cellsS : Tryd.prog.cellsOf 69 = 8 := by kernel_rfl
theorem cellsR : Tryd.prog.cellsOf 115 = 64 := by kernel_rfl
theorem underB : Tryd.prog.underlying 4 = some .bool := by kernel_rfl

theorem tabIs_of_second {P : Program} {W : World} {x : String × DataW Unit} {name : String} {k : IntKind} {zs : List Int} {rest : List (String × DataW Unit)} {g : Nat} {t e : TypeId} {n : Nat}
    (hg : P.globalNamed name = some g) (hty : (P.globals[g]?).map (·.type) = some t) (ht : P.underlying t = some (.array n e)) (he : P.underlying e = some (.int k)) (hce : P.cellsOf e = 1) (hct : P.cellsOf t = n)
    (h : laidMet P (x :: (name, Lib.tabData k zs) :: rest) W) : Lib.TabIs P W name k zs := by
  obtain ⟨ps, ⟨_, _, _, _, _, _, _, _, _, _, h2, _⟩, _⟩ := h
  obtain ⟨g', t', cs, fuel, p, q, hg', ht', hvar, hd, _, _⟩ := h2
  obtain rfl := Option.some.inj (hg.symm.trans hg')
  obtain rfl := Option.some.inj (hty.symm.trans ht')
  unfold Lib.TabIs
  rw [hvar, ← Lib.cells_of_tab ht he hce hct hd]

theorem glob_of_laid {W : World} (h : laidMetH Tryd.prog Rows.mixedRow.laid W) : Glob W :=
  have h1 : Lib.TabIs Tryd.prog W "warden/warden.startWords" .u32 H0 := Lib.tabIs_of_head (rest := [("warden/warden.rootWords", Lib.tabData .u32 K0)]) gStart gStartT underS under32 cells32 cellsS h
  have h2 : Lib.TabIs Tryd.prog W "warden/warden.rootWords" .u32 K0 := tabIs_of_second (x := ("warden/warden.startWords", Lib.tabData .u32 H0)) (rest := []) gRoot gRootT underR under32 cells32 cellsR h
  ⟨fun i hi => h1.cell gStart i hi, fun i hi => h2.cell gRoot i hi⟩

def fieldOfT (u : Option TypeDesc) (j : Nat) : Option (Nat × TypeId) :=
  match u with
  | some (.struct fs) => (fs[j]?).map fun f => (f.offset, f.type)
  | _ => none
theorem field_of {u : Option TypeDesc} {fs : Array Field} (hu : u = some (.struct fs)) {j off : Nat} {t : TypeId} (h : fieldOfT u j = some (off, t)) : ∃ f, fs[j]? = some f ∧ f.offset = off ∧ f.type = t := by
  subst hu
  obtain ⟨f, hf, he⟩ := Option.map_eq_some_iff.1 h
  simp only [Prod.mk.injEq] at he
  exact ⟨f, hf, he.1, he.2⟩
theorem underI : Tryd.prog.underlying 3 = some (.int .i64) := by kernel_rfl
theorem cellsI : Tryd.prog.cellsOf 3 = 1 := by kernel_rfl
theorem cons_of {cs : List Value} {n : Nat} (h : cs.length = n + 1) : ∃ a l, cs = a :: l ∧ l.length = n := by
  cases cs with
  | nil => simp at h
  | cons a l => exact ⟨a, l, rfl, by simpa using h⟩
theorem one_of {cs : List Value} {j : Nat} {v : Value} (h : (cs.drop j).take 1 = [v]) : cs[j]? = some v := by
  have h1 := congrArg (·[0]?) h
  simpa [List.getElem?_take, List.getElem?_drop] using h1

theorem underSteps : Tryd.prog.underlying 33 = some (.slice 40) := by kernel_rfl
theorem underInts : Tryd.prog.underlying 34 = some (.slice 3) := by kernel_rfl
theorem cellsStep : Tryd.prog.cellsOf 40 = 3 := by kernel_rfl
theorem underStep0 : isStruct (Tryd.prog.underlying 40) = true := by kernel_rfl
theorem fs0 : fieldOfT (Tryd.prog.underlying 40) 0 = some (0, 3) := by kernel_rfl
theorem fs1 : fieldOfT (Tryd.prog.underlying 40) 1 = some (1, 3) := by kernel_rfl
theorem fs2 : fieldOfT (Tryd.prog.underlying 40) 2 = some (2, 3) := by kernel_rfl
theorem int_bd {z : Int} (hw : (Lit.int .i64 z).wf = true) : -9223372036854775808 ≤ z ∧ z ≤ 9223372036854775807 := by
  have e1 : IntKind.i64.min = -9223372036854775808 := rfl
  have e2 : IntKind.i64.max = 9223372036854775807 := rfl
  simpa [Lit.wf, e1, e2] using hw

section
variable {H : Type} {enc : TypeId × Value → H} {W : World} {base : Nat} {sp : Nat → Bool} {held : Bool}
theorem int_at2 {fs : Array Field} {cs : List Value} {n : Nat} {xs : List (DataW H × List MemPlace)} (hxl : xs.length = fs.size)
    (hf : ∀ (i : Nat) (f : Field), fs[i]? = some f → DataW.trod enc Tryd.prog W base sp held n f.type ((cs.drop f.offset).take (Tryd.prog.cellsOf f.type)) = xs[i]?)
    {j : Nat} (h : ∃ f, fs[j]? = some f ∧ f.offset = j ∧ f.type = 3) : ∃ z, cs[j]? = some (.int .i64 z) ∧ -9223372036854775808 ≤ z ∧ z ≤ 9223372036854775807 := by
  obtain ⟨f, h1, h2, h3⟩ := h
  have hj : j < xs.length := by rw [hxl]; exact (Array.getElem?_eq_some_iff.1 h1).1
  have g := hf j f h1
  rw [h2, h3, cellsI, List.getElem?_eq_getElem hj] at g
  obtain ⟨z, hz, _, hw⟩ := DataW.trod_int underI g
  exact ⟨z, one_of hz, int_bd hw⟩
theorem step_of_in {n : Nat} {cs : List Value} {y : DataW H × List MemPlace} (h : DataW.trod enc Tryd.prog W base sp held n 40 cs = some y) :
    ∃ k a m, cs = [.int .i64 k, .int .i64 a, .int .i64 m] ∧ (-9223372036854775808 ≤ k ∧ k ≤ 9223372036854775807) ∧ (-9223372036854775808 ≤ a ∧ a ≤ 9223372036854775807) ∧ (-9223372036854775808 ≤ m ∧ m ≤ 9223372036854775807) := by
  obtain ⟨fs, hu⟩ := struct_is underStep0
  obtain ⟨xs, k, _, _, hlen, hxl, hf⟩ := DataW.trod_struct hu h
  rw [cellsStep] at hlen
  obtain ⟨z0, h0, b0⟩ := int_at2 hxl hf (field_of hu fs0)
  obtain ⟨z1, h1, b1⟩ := int_at2 hxl hf (field_of hu fs1)
  obtain ⟨z2, h2, b2⟩ := int_at2 hxl hf (field_of hu fs2)
  clear hf hxl h hu
  obtain ⟨c0, l0, e0, n0⟩ := cons_of (n := 2) hlen
  obtain ⟨c1, l1, e1, n1⟩ := cons_of (n := 1) n0
  obtain ⟨c2, l2, e2, n2⟩ := cons_of (n := 0) n1
  obtain rfl := List.length_eq_zero_iff.1 n2
  subst e2 e1 e0
  simp only [List.getElem?_cons_zero, List.getElem?_cons_succ, Option.some.injEq] at h0 h1 h2
  subst h0 h1 h2
  exact ⟨z0, z1, z2, rfl, b0, b1, b2⟩
/-- steps that came in, nil or not, as the walk wants them -/
theorem steps_in {ao : Option Addr} {len cap fuel : Nat} {x : DataW H × List MemPlace} (hf : DataW.trod enc Tryd.prog W 0 (fun _ => true) true fuel 33 [.slice ao len cap] = some x) :
    StepsAt W ao len ∧ len ≤ maxLen := by
  rcases Deep.open_slice underSteps hf with ⟨hcs, _⟩ | ⟨a, len', cap', m, n, D, Pl, hcs, _, hl, hm, hmm, _, hx⟩
  · simp at hcs
    obtain ⟨rfl, rfl, rfl⟩ := hcs
    exact ⟨fun i hi => absurd hi (by omega), Nat.zero_le _⟩
  · simp at hcs
    obtain ⟨rfl, rfl, rfl⟩ := hcs
    refine ⟨fun i hi => ?_, by omega⟩
    obtain ⟨cs, h1, h2⟩ := hx i (by rw [hmm]; simp; omega)
    rw [cellsStep] at h1
    obtain ⟨_, hlen, hcell⟩ := World.cells?_some h1
    obtain ⟨k, s, t, rfl, b0, b1, b2⟩ := step_of_in h2
    have hspot : a.spot = none := by
      obtain ⟨cs0, h10, h20⟩ := hx 0 (by rw [hmm]; simp; omega)
      rw [cellsStep] at h10
      obtain ⟨_, _, hcell0⟩ := World.cells?_some h10
      obtain ⟨k0, _, _, rfl, _⟩ := step_of_in h20
      have h3 := (hcell0 0 (by omega)).trans (rfl : _ = some (Value.int .i64 k0))
      rw [Deep.add_add] at h3
      exact World.cell?_spot h3
    obtain ⟨b, off, spot⟩ := a
    simp only at hspot
    subst hspot
    have hc : ∀ j v, [Value.int .i64 k, .int .i64 s, .int .i64 t][j]? = some v → W.cell? ⟨b, off + i * 3 + j, none⟩ = some v := by
      intro j v hv
      have hj : j < 3 := (List.getElem?_eq_some_iff.1 hv).1
      have h3 := hcell j hj
      rw [Deep.add_add, add_plain] at h3
      rw [Nat.add_assoc, h3, hv]
    refine ⟨b, off, k, s, t, rfl, ?_, hc 0 _ rfl, hc 1 _ rfl, hc 2 _ rfl, b0.1, b0.2, b1.1, b1.2, b2.1, b2.2⟩
    exact World.block_lt_of_cell? _ _ (hc 0 _ rfl)
/-- numbers that came in, nil or not, as the walk wants them -/
theorem ints_in {ao : Option Addr} {len cap fuel : Nat} {x : DataW H × List MemPlace} (hf : DataW.trod enc Tryd.prog W 0 (fun _ => true) true fuel 34 [.slice ao len cap] = some x) :
    IntsAt W ao len ∧ len ≤ maxLen := by
  rcases Deep.open_slice underInts hf with ⟨hcs, _⟩ | ⟨a, len', cap', m, n, D, Pl, hcs, _, hl, hm, hmm, _, hx⟩
  · simp at hcs
    obtain ⟨rfl, rfl, rfl⟩ := hcs
    exact ⟨fun i hi => absurd hi (by omega), Nat.zero_le _⟩
  · simp at hcs
    obtain ⟨rfl, rfl, rfl⟩ := hcs
    have hat : ∀ i, i < len → ∃ z, W.cell? (a.add i) = some (.int .i64 z) ∧ -9223372036854775808 ≤ z ∧ z ≤ 9223372036854775807 := by
      intro i hi
      obtain ⟨cs, h1, h2⟩ := hx i (by rw [hmm]; simp; omega)
      rw [cellsI] at h1
      obtain ⟨_, hlen, hcell⟩ := World.cells?_some h1
      obtain ⟨z, rfl, _, hw⟩ := DataW.trod_int underI h2
      have h3 := (hcell 0 (by omega)).trans (rfl : _ = some (Value.int .i64 z))
      rw [Deep.add_add, Nat.mul_one, Nat.add_zero] at h3
      exact ⟨z, h3, int_bd hw⟩
    refine ⟨fun i hi => ?_, by omega⟩
    have hspot : a.spot = none := by
      obtain ⟨z, hz, _⟩ := hat 0 (by omega)
      exact World.cell?_spot hz
    obtain ⟨b, off, spot⟩ := a
    simp only at hspot
    subst hspot
    obtain ⟨z, hz, hb⟩ := hat i hi
    rw [add_plain] at hz
    exact ⟨b, off, z, rfl, World.block_lt_of_cell? _ _ hz, hz, hb⟩
end

/-- what was read ahead of a call that leaves old memory alone reads the same behind it -/
theorem below_trodAll {H : Type} {enc : TypeId × Value → H} {W W' : World} (hb : Below W.heap.size W W') : ∀ {ts : List TypeId} {vs : List Value} {ds : List (DataW H)} {ps : List MemPlace}, (∀ t ∈ ts, Tryd.prog.readableRec t = true ∧ t < Tryd.prog.types.size) →
    DataW.TrodAll enc Tryd.prog W 0 (fun _ => true) true ts vs ds ps → (∀ x ∈ ps, x.block < W.heap.size) → DataW.TrodAll enc Tryd.prog W' 0 (fun b => decide (b < W.heap.size)) true ts vs ds ps
  | [], vs, ds, ps, _, h, _ => by
    obtain ⟨rfl, rfl, rfl⟩ := trodAll_nil h
    exact trodAll_mk0
  | t :: ts, vs, ds, ps, ht, h, hlt => by
    obtain ⟨v, vs', d, ds', p, q, rfl, rfl, rfl, hd, hrest⟩ := trodAll_cons h
    exact trodAll_cons_mk (Below.trod laidOut (ht t (by simp)).1 (ht t (by simp)).2 hd hb (fun x hx => hlt x (by simp [hx]))) (below_trodAll hb (fun t' h' => ht t' (by simp [h'])) hrest (fun x hx => hlt x (by simp [hx])))
theorem int_in {H : Type} {enc : TypeId × Value → H} {W : World} {z : Int} {d : DataW H} {ps : List MemPlace} (h : DataW.Trod enc Tryd.prog W 0 (fun _ => true) true 3 (.int .i64 z) d ps) : -9223372036854775808 ≤ z ∧ z ≤ 9223372036854775807 := by
  obtain ⟨fuel, hf⟩ := h
  obtain ⟨y, hy, _, hw⟩ := DataW.trod_int underI hf
  have e : z = y := by
    have hy' : [Value.int .i64 z] = [Value.int .i64 y] := hy
    simpa using hy'
  rw [e]
  exact int_bd hw
/-- a world for the witness: the settled one, the two tables holding what their initialisers lay -/
noncomputable def laidWorld (os : Os) : World :=
  { World.holding Tryd.prog os ⟨#[], #[], []⟩ with heap := (((World.holding Tryd.prog os ⟨#[], #[], []⟩).heap.modify 0 (fun
      | .cells _ t frozen => .cells (u32s H0).toArray t frozen
      | o => o)).modify 1 (fun
      | .cells _ t frozen => .cells (u32s K0).toArray t frozen
      | o => o)) }
end Go.Proofs.YtaokemapkgggoaaDoor

namespace Go.Proofs.YtaokemapkgggoaaDoor
open Go.ChangeShapes Go.WideShapes Go.ChangeAt Go.RowKit

set_option maxRecDepth 100000 in
theorem contract (H : Type) (enc : TypeId × Value → H) (W : World) (base : Nat) (args : Array Value) (ds gs : List (DataW H)) (before : List MemPlace)
    (hval : ∀ (j : Nat) t v, Tryd.f7.params[j]? = some t → args[j]? = some v → Value.okWide Tryd.prog W .any base t v)
    (hW : DataW.Whole enc Tryd.prog Tryd.f7.params.toList Rows.guardedSpec.vars false W args.toList ds gs before) (hL : laidMetH Tryd.prog Rows.guardedRow.laid W) :
    Calls Tryd.prog 7 args W fun e W' => ∃ v, e = .returned v ∧ Rows.guardedSpec.post enc Tryd.prog Tryd.f7 false true false false W args v W' := by
  have hW' := hW
  obtain ⟨p, q, hA0, hV, rfl, _, _⟩ := hW
  have hA : DataW.TrodAll enc Tryd.prog W 0 (fun _ => true) true Tryd.f7.params.toList args.toList ds p := hA0
  have hA2 := hA
  clear hA0
  rw [Tryd.params7] at hA hval
  obtain ⟨u0, l0, d0, e0, p0, q0, E0, D0, P0, h0, hA⟩ := trodAll_cons hA
  obtain ⟨u1, l1, d1, e1, p1, q1, E1, D1, P1, h1, hA⟩ := trodAll_cons hA
  obtain ⟨u2, l2, d2, e2, p2, q2, E2, D2, P2, h2, hA⟩ := trodAll_cons hA
  obtain ⟨y0, y1, y2⟩ := trodAll_nil hA
  obtain ⟨rfl, rfl⟩ := trodVars_none hV
  obtain rfl : args = #[u0, u1, u2] := Array.toList_inj.1 (by rw [E0, E1, E2, y0])
  obtain rfl : ds = [d0, d1, d2] := by rw [D0, D1, D2, y1]
  clear E0 P0 E1 P1 E2 P2 D0 D1 D2 y0 y1 y2 hA
  obtain ⟨c, rfl⟩ := okWide_int underI (hval 0 3 u0 rfl rfl)
  have b0 : -9223372036854775808 ≤ c ∧ c ≤ 9223372036854775807 := int_in h0
  obtain ⟨v1a, v1n, v1c, rfl⟩ := okWide_slice underSteps (hval 1 33 u1 rfl rfl)
  have s1 : StepsAt W v1a v1n ∧ v1n ≤ maxLen := by obtain ⟨fuel, hf⟩ := h1; exact steps_in hf
  obtain ⟨v2a, v2n, v2c, rfl⟩ := okWide_slice underInts (hval 2 34 u2 rfl rfl)
  have s2 : IntsAt W v2a v2n ∧ v2n ≤ maxLen := by obtain ⟨fuel, hf⟩ := h2; exact ints_in hf
  simp only [List.append_nil] at hW'
  have hlt : ∀ x ∈ p, x.block < W.heap.size := fun x hx => by simpa using hW'.lt x hx
  refine (keep_Guarded W c v1a v2a v1n v1c v2n v2c (glob_of_laid hL) b0.1 b0.2 s1.1 s2.1 (Nat.lt_of_le_of_lt s1.2 (by decide))).mono fun e W' ⟨he, hb⟩ => ?_
  subst he
  refine ⟨_, rfl, _, _, _, [], _, [], hW', ?_, below_trodAll hb ?_ hA2 hlt, rfl, hb.frame _, fun h => by cases h⟩
  · exact trodAll_mk1 (shut_bool underB _)
  · intro t ht
    rw [Tryd.params7] at ht
    have ht2 : t = 3 ∨ t = 33 ∨ t = 34 := by simp at ht; omega
    rcases ht2 with rfl | rfl | rfl
    · exact ⟨by kernel_rfl, of_decide_eq_true (by kernel_rfl)⟩
    · exact ⟨by kernel_rfl, of_decide_eq_true (by kernel_rfl)⟩
    · exact ⟨by kernel_rfl, of_decide_eq_true (by kernel_rfl)⟩

theorem laid_met (os : Os) : laidMet Tryd.prog Rows.guardedRow.laid ((laidWorld os).forCall (fun _ _ => 0) ⟨#[], #[.int .i64 0, .slice none 0 0, .slice none 0 0], []⟩).memory :=
  laidMet_of_run' 8 (by kernel_rfl) (by kernel_rfl)
theorem reads (os : Os) {H : Type} (enc : TypeId × Value → H) : ∃ places, DataW.whole enc Tryd.prog ((laidWorld os).forCall (fun _ _ => 0) ⟨#[], #[.int .i64 0, .slice none 0 0, .slice none 0 0], []⟩).memory Tryd.f7.params.toList Rows.guardedSpec.vars false #[Value.int .i64 0, Value.slice none 0 0, Value.slice none 0 0].toList 8 = some ([.lit (.int .i64 0), .nil, .nil], [], places) :=
  ⟨[], by kernel_rfl⟩

set_option maxRecDepth 100000 in
theorem lifted (os : Os) (started : os.Started) (H : Type) (enc : TypeId × Value → H) (F : Stop.Interp) :
    ReturnsInHanded {} Tryd.checked os 7 .any ((OpenSpec.ofChange Rows.guardedSpec).preRow enc Tryd.prog Tryd.f7 Rows.guardedRow.domain false Rows.guardedRow.laid) (((OpenSpec.ofChange Rows.guardedSpec).at F).post enc Tryd.prog Tryd.f7 false true false false) := by
  obtain ⟨places, hx⟩ := reads os enc
  refine returnsInHanded_of_row (C := Tryd.checked) (s := (OpenSpec.ofChange Rows.guardedSpec)) own started (by kernel_rfl) Tryd.func7
    (witness_row_at (enc := enc) (C := Tryd.checked) false (laidWorld os) #[.int .i64 0, .slice none 0 0, .slice none 0 0] rfl (by kernel_rfl) (by kernel_rfl) (by kernel_rfl)
      (OpenSpec.preRow_of_cond 8 hx (by kernel_rfl) (fun k hk => by cases hk) (by kernel_rfl) (laid_met os))) ?_
  intro W base args ds gs before hval hW _ _ _ hL _ _
  exact contract H enc W base args ds gs before hval hW hL

theorem said : Rows.GuardedSaid :=
  OpenClaim.holds_of_cond 7 Tryd.f7 rfl rfl rfl rfl rfl rfl rfl ⟨rfl, rfl, rfl, rfl, rfl⟩ rfl rfl rfl rfl rfl (by kernel_rfl) Tryd.func7 (by kernel_rfl)
    (of_decide_eq_true (by kernel_rfl)) (by unfold Func.isWrapper; first | (rw [if_pos (by decide +kernel)]; kernel_rfl) | (rw [if_neg (by decide +kernel)]; exact ⟨rfl, rfl⟩))
    (fun os started H enc _ F => by rw [OpenClaim.pre_eq_preRow]; exact lifted os started H enc F)

theorem plain (f : FuncId) (fn : Func) (hf : Tryd.pinned.checked.prog.funcNamed "warden/wardenkeep.Guarded" = some f) (hfn : Tryd.pinned.checked.prog.funcs[f]? = some fn) :
    true = Tryd.pinned.checked.prog.looks [] ∧ ∀ (j : Nat) t, fn.params[j]? = some t → Tryd.pinned.checked.prog.wantsStandIn t = false := by
  obtain rfl : f = 7 := Option.some.inj ((show Tryd.prog.funcNamed "warden/wardenkeep.Guarded" = some 7 by kernel_rfl).symm.trans hf) |>.symm
  obtain rfl : fn = Tryd.f7 := (Option.some.inj (Tryd.func7.symm.trans hfn)).symm
  refine ⟨by kernel_rfl, fun j t ht => ?_⟩
  rw [Tryd.params7] at ht
  have ht2 : t = 3 ∨ t = 33 ∨ t = 34 := by have := Array.mem_of_getElem? ht; simp at this; omega
  rcases ht2 with rfl | rfl | rfl
  · exact (show Tryd.prog.wantsStandIn 3 = false by kernel_rfl)
  · exact (show Tryd.prog.wantsStandIn 33 = false by kernel_rfl)
  · exact (show Tryd.prog.wantsStandIn 34 = false by kernel_rfl)

theorem guarded_holds : Rows.GuardedCardSaid :=
  Claim7.holds_tied_plain_at .later [] _ _ _ _ said (fun _ h => by cases h) (by kernel_rfl) (fun _ h => by cases h) guarded_row_tie rfl ⟨rfl, rfl⟩ (by kernel_rfl) rfl plain (by kernel_rfl)
end Go.Proofs.YtaokemapkgggoaaDoor
