import Derived.Test.YtaokemapkgggoaaGreatDoorLawPlays
import Derived.Test.YtaokemapkgggoaaGreatDoorCards
import Derived.Test.YtaokemapkgggoaaGreatDoorTie
import Derived.WalkKit
import Derived.ProofKit
import Derived.OpenShut
import Derived.Carry
import Derived.Deep.Slices
import Derived.Deep.DeepHandedRow
import Derived.Lib.LaidTab
namespace Go.Proofs.YtaokemapkgggoaaGreatDoor
open Go.ChangeShapes Go.WideShapes Go.ChangeAt Go.RowKit

theorem own : ownKnob Tryz.prog.godebug = none := by kernel_rfl
theorem laidOut : laidOutB Tryz.prog = true := by kernel_rfl
theorem gStart : Tryz.prog.globalNamed "warden/warden.startWords" = some 0 := by kernel_rfl
theorem gRoot : Tryz.prog.globalNamed "warden/warden.rootWords" = some 1 := by kernel_rfl
theorem gStartT : (Tryz.prog.globals[0]?).map (·.type) = some 76 := by kernel_rfl
theorem gRootT : (Tryz.prog.globals[1]?).map (·.type) = some 141 := by kernel_rfl
theorem underS : Tryz.prog.underlying 76 = some (.array 8 75) := by kernel_rfl
theorem underR : Tryz.prog.underlying 141 = some (.array 64 75) := by kernel_rfl
theorem under32 : Tryz.prog.underlying 75 = some (.int .u32) := by kernel_rfl
theorem cells32 : Tryz.prog.cellsOf 75 = 1 := by kernel_rfl
theorem cellsS : Tryz.prog.cellsOf 76 = 8 := by kernel_rfl
theorem cellsR : Tryz.prog.cellsOf 141 = 64 := by kernel_rfl
theorem underB : Tryz.prog.underlying 4 = some .bool := by kernel_rfl
theorem underScript : Tryz.prog.underlying 22 = some (.slice 36) := by kernel_rfl
theorem cellsOp : Tryz.prog.cellsOf 36 = 20 := by kernel_rfl

theorem tabIs_of_second {P : Program} {W : World} {x : String × DataW Unit} {name : String} {k : IntKind} {zs : List Int} {rest : List (String × DataW Unit)} {g : Nat} {t e : TypeId} {n : Nat}
    (hg : P.globalNamed name = some g) (hty : (P.globals[g]?).map (·.type) = some t) (ht : P.underlying t = some (.array n e)) (he : P.underlying e = some (.int k)) (hce : P.cellsOf e = 1) (hct : P.cellsOf t = n)
    (h : laidMet P (x :: (name, Lib.tabData k zs) :: rest) W) : Lib.TabIs P W name k zs := by
  obtain ⟨ps, ⟨_, _, _, _, _, _, _, _, _, _, h2, _⟩, _⟩ := h
  obtain ⟨g', t', cs, fuel, p, q, hg', ht', hvar, hd, _, _⟩ := h2
  obtain rfl := Option.some.inj (hg.symm.trans hg')
  obtain rfl := Option.some.inj (hty.symm.trans ht')
  unfold Lib.TabIs
  rw [hvar, ← Lib.cells_of_tab ht he hce hct hd]

theorem glob_of_laid {W : World} (h : laidMetH Tryz.prog Rows.sumsRow.laid W) : Glob W :=
  have h1 : Lib.TabIs Tryz.prog W "warden/warden.startWords" .u32 H0 := Lib.tabIs_of_head (rest := [("warden/warden.rootWords", Lib.tabData .u32 K0)]) gStart gStartT underS under32 cells32 cellsS h
  have h2 : Lib.TabIs Tryz.prog W "warden/warden.rootWords" .u32 K0 := tabIs_of_second (x := ("warden/warden.startWords", Lib.tabData .u32 H0)) (rest := []) gRoot gRootT underR under32 cells32 cellsR h
  ⟨fun i hi => h1.cell gStart i hi, fun i hi => h2.cell gRoot i hi⟩

def fieldAt (u : Option TypeDesc) (j : Nat) : Option (Nat × TypeId) :=
  match u with
  | some (.struct fs) => (fs[j]?).map fun f => (f.offset, f.type)
  | _ => none
theorem field_of {u : Option TypeDesc} {fs : Array Field} (hu : u = some (.struct fs)) {j off : Nat} {t : TypeId} (h : fieldAt u j = some (off, t)) : ∃ f, fs[j]? = some f ∧ f.offset = off ∧ f.type = t := by
  subst hu
  obtain ⟨f, hf, he⟩ := Option.map_eq_some_iff.1 h
  simp only [Prod.mk.injEq] at he
  exact ⟨f, hf, he.1, he.2⟩
theorem fld0 : fieldAt (Tryz.prog.underlying 36) 0 = some (0, 3) := by kernel_rfl
theorem fld1 : fieldAt (Tryz.prog.underlying 36) 1 = some (1, 3) := by kernel_rfl
theorem fld2 : fieldAt (Tryz.prog.underlying 36) 2 = some (2, 3) := by kernel_rfl
theorem fld3 : fieldAt (Tryz.prog.underlying 36) 3 = some (3, 9) := by kernel_rfl
theorem fld4 : fieldAt (Tryz.prog.underlying 36) 4 = some (4, 9) := by kernel_rfl
theorem underI : Tryz.prog.underlying 3 = some (.int .i64) := by kernel_rfl
theorem cellsI : Tryz.prog.cellsOf 3 = 1 := by kernel_rfl
theorem cellsStr : Tryz.prog.cellsOf 9 = 1 := by kernel_rfl

theorem cons_of {cs : List Value} {n : Nat} (h : cs.length = n + 1) : ∃ a l, cs = a :: l ∧ l.length = n := by
  cases cs with
  | nil => simp at h
  | cons a l => exact ⟨a, l, rfl, by simpa using h⟩
theorem one_of {cs : List Value} {j : Nat} {v : Value} (h : (cs.drop j).take 1 = [v]) : cs[j]? = some v := by
  have h1 := congrArg (·[0]?) h
  simpa [List.getElem?_take, List.getElem?_drop] using h1

section
variable {H : Type} {enc : TypeId × Value → H} {W : World} {base : Nat} {sp : Nat → Bool} {held : Bool}
theorem int_at {fs : Array Field} {cs : List Value} {n : Nat} {xs : List (DataW H × List MemPlace)} (hxl : xs.length = fs.size)
    (hf : ∀ (i : Nat) (f : Field), fs[i]? = some f → DataW.trod enc Tryz.prog W base sp held n f.type ((cs.drop f.offset).take (Tryz.prog.cellsOf f.type)) = xs[i]?)
    {j : Nat} (h : ∃ f, fs[j]? = some f ∧ f.offset = j ∧ f.type = 3) : ∃ z, cs[j]? = some (.int .i64 z) ∧ z ≤ 9223372036854775807 := by
  obtain ⟨f, h1, h2, h3⟩ := h
  have hj : j < xs.length := by rw [hxl]; exact (Array.getElem?_eq_some_iff.1 h1).1
  have g := hf j f h1
  rw [h2, h3, cellsI, List.getElem?_eq_getElem hj] at g
  obtain ⟨z, hz, _, hw⟩ := DataW.trod_int underI g
  refine ⟨z, one_of hz, ?_⟩
  have e1 : IntKind.i64.min = -9223372036854775808 := rfl
  have e2 : IntKind.i64.max = 9223372036854775807 := rfl
  have : -9223372036854775808 ≤ z ∧ z ≤ 9223372036854775807 := by simpa [Lit.wf, e1, e2] using hw
  exact this.2
theorem str_field {fs : Array Field} {cs : List Value} {n : Nat} {xs : List (DataW H × List MemPlace)} (hxl : xs.length = fs.size)
    (hf : ∀ (i : Nat) (f : Field), fs[i]? = some f → DataW.trod enc Tryz.prog W base sp held n f.type ((cs.drop f.offset).take (Tryz.prog.cellsOf f.type)) = xs[i]?)
    {j : Nat} (h : ∃ f, fs[j]? = some f ∧ f.offset = j ∧ f.type = 9) : ∃ z, cs[j]? = some (.string z) := by
  obtain ⟨f, h1, h2, h3⟩ := h
  have hj : j < xs.length := by rw [hxl]; exact (Array.getElem?_eq_some_iff.1 h1).1
  have g := hf j f h1
  rw [h2, h3, cellsStr, List.getElem?_eq_getElem hj] at g
  obtain ⟨z, hz, _, _⟩ := DataW.trod_string under_str g
  exact ⟨z, one_of hz⟩

theorem op_of {n : Nat} {cs : List Value} {y : DataW H × List MemPlace} (h : DataW.trod enc Tryz.prog W base sp held n 36 cs = some y) :
    ∃ kd wn m s t rest, cs = opCells kd wn m s t rest ∧ m ≤ 9223372036854775807 ∧ rest.length = 15 := by
  obtain ⟨fs, hu⟩ := underOp
  obtain ⟨xs, k, _, _, hlen, hxl, hf⟩ := DataW.trod_struct hu h
  rw [cellsOp] at hlen
  obtain ⟨kd, h0, _⟩ := int_at hxl hf (field_of hu fld0)
  obtain ⟨wn, h1, _⟩ := int_at hxl hf (field_of hu fld1)
  obtain ⟨m, h2, hm⟩ := int_at hxl hf (field_of hu fld2)
  obtain ⟨s, h3⟩ := str_field hxl hf (field_of hu fld3)
  obtain ⟨t, h4⟩ := str_field hxl hf (field_of hu fld4)
  clear hf hxl h hu
  obtain ⟨c0, l0, e0, n0⟩ := cons_of (n := 19) hlen
  obtain ⟨c1, l1, e1, n1⟩ := cons_of (n := 18) n0
  obtain ⟨c2, l2, e2, n2⟩ := cons_of (n := 17) n1
  obtain ⟨c3, l3, e3, n3⟩ := cons_of (n := 16) n2
  obtain ⟨c4, l4, e4, n4⟩ := cons_of (n := 15) n3
  rw [e0, e1, e2, e3, e4] at h0 h1 h2 h3 h4
  simp only [List.getElem?_cons_zero, List.getElem?_cons_succ, Option.some.injEq] at h0 h1 h2 h3 h4
  exact ⟨kd, wn, m, s, t, l4, by rw [e0, e1, e2, e3, e4, h0, h1, h2, h3, h4]; rfl, hm, n4⟩

/-- a script that came in, nil or not, as the walk wants it -/
theorem open_script {ao : Option Addr} {len cap fuel : Nat} {x : DataW H × List MemPlace} (hf : DataW.trod enc Tryz.prog W 0 (fun _ => true) true fuel 22 [.slice ao len cap] = some x) :
    ScriptAt W ao len ∧ len ≤ maxLen := by
  rcases Deep.open_slice underScript hf with ⟨hcs, _⟩ | ⟨a, len', cap', m, n, D, Pl, hcs, _, hl, hm, hmm, _, hx⟩
  · simp at hcs
    obtain ⟨rfl, rfl, rfl⟩ := hcs
    exact ⟨fun i hi => absurd hi (by omega), Nat.zero_le _⟩
  · simp at hcs
    obtain ⟨rfl, rfl, rfl⟩ := hcs
    refine ⟨fun i hi => ?_, by omega⟩
    obtain ⟨cs, h1, h2⟩ := hx i (by rw [hmm]; simp; omega)
    rw [cellsOp] at h1
    obtain ⟨_, hlen, hcell⟩ := World.cells?_some h1
    obtain ⟨kd, wn, m', s, t, rest, rfl, hm', hrl⟩ := op_of h2
    have hspot : a.spot = none := by
      obtain ⟨cs0, h10, h20⟩ := hx 0 (by rw [hmm]; simp; omega)
      rw [cellsOp] at h10
      obtain ⟨_, _, hcell0⟩ := World.cells?_some h10
      obtain ⟨kd0, _, _, _, _, _, rfl, _, _⟩ := op_of h20
      have h3 := (hcell0 0 (by omega)).trans (rfl : _ = some (Value.int .i64 kd0))
      rw [Deep.add_add] at h3
      exact World.cell?_spot h3
    obtain ⟨b, off, spot⟩ := a
    simp only at hspot
    subst hspot
    have hc0 := hcell 0 (by omega)
    rw [Deep.add_add] at hc0
    refine ⟨b, off, kd, wn, m', s, t, rest, rfl, ?_, ?_, hm', hrl⟩
    · have := World.block_lt_of_cell? _ _ (hc0.trans rfl : W.cell? _ = some (.int .i64 kd))
      rw [add_plain] at this
      exact this
    · intro j v hv
      have hj : j < 20 := by rw [← hlen]; exact (List.getElem?_eq_some_iff.1 hv).1
      have h3 := hcell j hj
      rw [Deep.add_add, add_plain] at h3
      rw [Nat.add_assoc, h3, hv]
end

set_option maxRecDepth 100000 in
theorem contract (hsum : SumSaid sumSpecRef) (H : Type) (enc : TypeId × Value → H) (W : World) (base : Nat) (args : Array Value) (ds gs : List (DataW H)) (before : List MemPlace)
    (hval : ∀ (j : Nat) t v, Tryz.f3.params[j]? = some t → args[j]? = some v → Value.okWide Tryz.prog W .any base t v)
    (hW : DataW.Whole enc Tryz.prog Tryz.f3.params.toList Rows.sumsSpec.vars false W args.toList ds gs before) (hL : laidMetH Tryz.prog Rows.sumsRow.laid W) :
    Calls Tryz.prog 3 args W fun e W' => ∃ v, e = .returned v ∧ Rows.sumsSpec.post enc Tryz.prog Tryz.f3 false true false false W args v W' := by
  have hW' := hW
  obtain ⟨p, q, hA0, hV, rfl, _, _⟩ := hW
  have hA : DataW.TrodAll enc Tryz.prog W 0 (fun _ => true) true Tryz.f3.params.toList args.toList ds p := hA0
  rw [Tryz.params3] at hA hval
  obtain ⟨v0, d0, rfl, rfl, h0⟩ := trodAll_one hA
  obtain ⟨rfl, rfl⟩ := trodVars_none hV
  obtain ⟨a0, len, cap, rfl⟩ := okWide_slice underScript (hval 0 22 v0 rfl rfl)
  have h0k := h0
  obtain ⟨fuel, hf⟩ := h0
  clear hA0
  simp only [List.append_nil] at hW'
  have hlt : ∀ x ∈ p, x.block < W.heap.size := fun x hx => by simpa using hW'.lt x hx
  obtain ⟨hs, hm⟩ := open_script hf
  have hlen : len < 9223372036854775808 := Nat.lt_of_le_of_lt hm (by decide)
  refine (law_Sums hsum a0 len cap W (glob_of_laid hL) hs hlen).mono fun e W' ⟨he, hb⟩ => ?_
  subst he
  refine ⟨_, rfl, _, _, _, [], _, [], hW', ?_, trodAll_mk1 (Below.trod laidOut (by kernel_rfl) (of_decide_eq_true (by kernel_rfl)) h0k hb hlt), rfl, hb.frame _, fun h => by cases h⟩
  exact trodAll_mk1 (shut_bool underB _)

/-- a world for the witness: the settled one, the two tables holding what their initialisers lay -/
def laidWorld (p : Program) (os : Os) : World :=
  { World.holding p os ⟨#[], #[], []⟩ with heap := (((World.holding p os ⟨#[], #[], []⟩).heap.modify 0 (fun
      | .cells _ t frozen => .cells (u32s H0).toArray t frozen
      | o => o)).modify 1 (fun
      | .cells _ t frozen => .cells (u32s K0).toArray t frozen
      | o => o)) }
theorem laid_met (os : Os) : laidMet Tryz.prog Rows.sumsRow.laid ((laidWorld Tryz.prog os).forCall (fun _ _ => 0) ⟨#[], #[.slice none 0 0], []⟩).memory :=
  laidMet_of_run' 8 (by kernel_rfl) (by kernel_rfl)
theorem reads (os : Os) {H : Type} (enc : TypeId × Value → H) : ∃ places, DataW.whole enc Tryz.prog ((laidWorld Tryz.prog os).forCall (fun _ _ => 0) ⟨#[], #[.slice none 0 0], []⟩).memory Tryz.f3.params.toList Rows.sumsSpec.vars false #[Value.slice none 0 0].toList 8 = some ([.nil], [], places) :=
  ⟨[], by kernel_rfl⟩

set_option maxRecDepth 100000 in
theorem lifted (hsum : SumSaid sumSpecRef) (os : Os) (started : os.Started) (H : Type) (enc : TypeId × Value → H) (F : Stop.Interp) :
    ReturnsInHanded {} Tryz.checked os 3 .any ((OpenSpec.ofChange Rows.sumsSpec).preRow enc Tryz.prog Tryz.f3 Rows.sumsRow.domain false Rows.sumsRow.laid) (((OpenSpec.ofChange Rows.sumsSpec).at F).post enc Tryz.prog Tryz.f3 false true false false) := by
  obtain ⟨places, hx⟩ := reads os enc
  refine returnsInHanded_of_row (C := Tryz.checked) (s := OpenSpec.ofChange Rows.sumsSpec) own started (by kernel_rfl) Tryz.func3
    (witness_row_at (enc := enc) (C := Tryz.checked) false (laidWorld Tryz.prog os) #[.slice none 0 0] rfl (by kernel_rfl) (by kernel_rfl) (by kernel_rfl)
      (OpenSpec.preRow_of_cond 8 hx (by kernel_rfl) (fun k hk => by cases hk) (by kernel_rfl) (laid_met os))) ?_
  intro W base args ds gs before hval hW _ _ _ hL _ _
  exact contract hsum H enc W base args ds gs before hval hW hL

theorem said (hsum : SumSaid sumSpecRef) : Rows.SumsSaid :=
  OpenClaim.holds_of_cond 3 Tryz.f3 rfl rfl rfl rfl rfl rfl rfl ⟨rfl, rfl, rfl, rfl, rfl⟩ rfl rfl rfl rfl rfl (by kernel_rfl) Tryz.func3 (by kernel_rfl)
    (of_decide_eq_true (by kernel_rfl)) (by unfold Func.isWrapper; first | (rw [if_pos (by decide +kernel)]; kernel_rfl) | (rw [if_neg (by decide +kernel)]; exact ⟨rfl, rfl⟩))
    (fun os started H enc _ F => by rw [OpenClaim.pre_eq_preRow]; exact lifted hsum os started H enc F)

theorem plain (f : FuncId) (fn : Func) (hf : Tryz.pinned.checked.prog.funcNamed "warden/wardenlaw.Sums" = some f) (hfn : Tryz.pinned.checked.prog.funcs[f]? = some fn) :
    true = Tryz.pinned.checked.prog.looks [] ∧ ∀ (j : Nat) t, fn.params[j]? = some t → Tryz.pinned.checked.prog.wantsStandIn t = false := by
  obtain rfl : f = 3 := Option.some.inj ((show Tryz.prog.funcNamed "warden/wardenlaw.Sums" = some 3 by kernel_rfl).symm.trans hf) |>.symm
  obtain rfl : fn = Tryz.f3 := (Option.some.inj (Tryz.func3.symm.trans hfn)).symm
  refine ⟨by kernel_rfl, fun j t ht => ?_⟩
  rw [Tryz.params3] at ht
  obtain rfl : t = 22 := by simpa using Array.mem_of_getElem? ht
  exact (show Tryz.prog.wantsStandIn 22 = false by kernel_rfl)

theorem card (hsum : SumSaid sumSpecRef) : Rows.SumsCardSaid :=
  Claim7.holds_tied_plain_at .later [] _ _ _ _ (said hsum) (fun _ h => by cases h) (by kernel_rfl) (fun _ h => by cases h) sums_row_tie rfl ⟨rfl, rfl⟩ (by kernel_rfl) rfl plain (by kernel_rfl)
end Go.Proofs.YtaokemapkgggoaaGreatDoor
