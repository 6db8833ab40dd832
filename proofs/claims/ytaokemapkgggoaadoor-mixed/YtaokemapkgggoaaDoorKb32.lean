import Derived.Test.YtaokemapkgggoaaDoorKb31
import Derived.Test.YtaokemapkgggoaaDoorCards
import Derived.Test.YtaokemapkgggoaaDoorTie
import Derived.WalkKit
import Derived.ProofKit
import Derived.OpenShut
import Derived.Carry
import Derived.ChangeMaps5
import Derived.Deep.Slices
import Derived.Deep.DeepHandedRow
import Derived.Lib.LaidTab
import Derived.Test.YtaokemapkgggoaaDoorKb30
namespace Go.Proofs.YtaokemapkgggoaaDoor
open Go.RowKit

/-- a list of steps that came in -/
def StepsAt (w : World) (ao : Option Addr) (len : Nat) : Prop := ∀ i, i < len → ∃ b off k a n, ao = some ⟨b, off, none⟩ ∧ b < w.heap.size ∧ w.cell? ⟨b, off + i * 3, none⟩ = some (.int .i64 k) ∧ w.cell? ⟨b, off + i * 3 + 1, none⟩ = some (.int .i64 a) ∧ w.cell? ⟨b, off + i * 3 + 2, none⟩ = some (.int .i64 n) ∧
  -9223372036854775808 ≤ k ∧ k ≤ 9223372036854775807 ∧ -9223372036854775808 ≤ a ∧ a ≤ 9223372036854775807 ∧ -9223372036854775808 ≤ n ∧ n ≤ 9223372036854775807
/-- a list of numbers that came in -/
def IntsAt (w : World) (ao : Option Addr) (len : Nat) : Prop := ∀ i, i < len → ∃ b off z, ao = some ⟨b, off, none⟩ ∧ b < w.heap.size ∧ w.cell? ⟨b, off + i, none⟩ = some (.int .i64 z) ∧ -9223372036854775808 ≤ z ∧ z ≤ 9223372036854775807

set_option maxRecDepth 100000 in
set_option maxHeartbeats 1000000 in
theorem keep_opened (w0 w : World) (c : Int) (G : Glob w0) (hb : Below w0.heap.size w0 w) (hc0 : -9223372036854775808 ≤ c) (hc1 : c ≤ 9223372036854775807) :
    Calls Tryd.prog 15 #[.int .i64 c] w fun r w' => ∃ g, r = .returned (.pointer (some ⟨g, 0, none⟩)) ∧ w.heap.size ≤ g ∧ KdAt w0 w' g (Dv.fresh 0 (str (pinL c))) ∧ Below w.heap.size w w' := by
  have haw := keep_awake w (G.below hb (Nat.le_refl _))
  have hpin := fun W => keep_pin c W hc0 hc1
  obtain ⟨p1, p2⟩ := pinL_len c
  have hnew := fun (W : World) (h : Below w0.heap.size w0 W) => keep_New w0 W (str (pinL c)) h (by rw [str_size]; exact p1) (by rw [str_size]; exact p2)
  generalize str (pinL c) = pb at *
  generalize Dv.fresh 0 pb = D at *
  go_enter Tryd.func15, Tryd.ntmps15
  go_wp2_with (first | (go_at_call 10; refine haw.mono ?_; rintro _ w1 ⟨rfl, hb1⟩) | (go_at_call 17; refine (hpin _).mono ?_; rintro _ w2 ⟨rfl, hb2⟩; have d2 := hb1.trans (hb2.mono hb1.size); have d2' := hb.trans (d2.mono hb.size)) | (go_at_call 29; refine (hnew _ d2').mono ?_; rintro _ w3 ⟨g, rfl, hg, K, hb3⟩; have d3 := d2.trans (hb3.mono d2.size); have hg' := Nat.le_trans d2.size hg))
  go_ret
  exact ⟨g, rfl, hg', K, d3⟩

end Go.Proofs.YtaokemapkgggoaaDoor

namespace Go.Proofs.YtaokemapkgggoaaDoor
open Go.ChangeShapes Go.WideShapes Go.ChangeAt Go.RowKit

theorem own : ownKnob Tryd.prog.godebug = none := by kernel_rfl
theorem laidOut : laidOutB Tryd.prog = true := by kernel_rfl
theorem gStart : Tryd.prog.globalNamed "warden/warden.startWords" = some 0 := by kernel_rfl
theorem gRoot : Tryd.prog.globalNamed "warden/warden.rootWords" = some 1 := by kernel_rfl
theorem gStartT : (Tryd.prog.globals[0]?).map (·.type) = some 69 := by kernel_rfl
theorem gRootT : (Tryd.prog.globals[1]?).map (·.type) = some 115 := by kernel_rfl
theorem underS : Tryd.prog.underlying 69 = some (.array 8 68) := by kernel_rfl
theorem underR : Tryd.prog.underlying 115 = some (.array 64 68) := by kernel_rfl
theorem under32 : Tryd.prog.underlying 68 = some (.int .u32) := by kernel_rfl
theorem cells32 : Tryd.prog.cellsOf 68 = 1 := by kernel_rfl
theorem cellsS : Tryd.prog.cellsOf 69 = 8 := by kernel_rfl
theorem cellsR : Tryd.prog.cellsOf 115 = 64 := by kernel_rfl
theorem underB : Tryd.prog.underlying 4 = some .bool := by kernel_rfl

theorem tabIs_of_second {P : Program} {W : World} {x : String × DataW Unit} {name : String} {k : IntKind} {zs : List Int} {rest : List (String × DataW Unit)} {g : Nat} {t e : TypeId} {n : Nat}
    (hg : P.globalNamed name = some g) (hty : (P.globals[g]?).map (·.type) = some t) (ht : P.underlying t = some (.array n e)) (he : P.underlying e = some (.int k)) (hce : P.cellsOf e = 1) (hct : P.cellsOf t = n)
    (h : laidMet P (x :: (name, Lib.tabData k zs) :: rest) W) : Lib.TabIs P W name k zs := by
  obtain ⟨ps, ⟨_, _, _, _, _, _, _, _, _, _, h2, _⟩, _⟩ := h
  obtain ⟨g', t', cs, fuel, p, q, hg', ht', hvar, hd, _, _⟩ := h2
  obtain rfl := Option.some.inj (hg.symm.trans hg')
  obtain rfl := Option.some.inj (hty.symm.trans ht')
  unfold Lib.TabIs
  rw [hvar, ← Lib.cells_of_tab ht he hce hct hd]

theorem glob_of_laid {W : World} (h : laidMetH Tryd.prog Rows.mixedRow.laid W) : Glob W :=
  have h1 : Lib.TabIs Tryd.prog W "warden/warden.startWords" .u32 H0 := Lib.tabIs_of_head (rest := [("warden/warden.rootWords", Lib.tabData .u32 K0)]) gStart gStartT underS under32 cells32 cellsS h
  have h2 : Lib.TabIs Tryd.prog W "warden/warden.rootWords" .u32 K0 := tabIs_of_second (x := ("warden/warden.startWords", Lib.tabData .u32 H0)) (rest := []) gRoot gRootT underR under32 cells32 cellsR h
  ⟨fun i hi => h1.cell gStart i hi, fun i hi => h2.cell gRoot i hi⟩

def fieldOfT (u : Option TypeDesc) (j : Nat) : Option (Nat × TypeId) :=
  match u with
  | some (.struct fs) => (fs[j]?).map fun f => (f.offset, f.type)
  | _ => none
theorem field_of {u : Option TypeDesc} {fs : Array Field} (hu : u = some (.struct fs)) {j off : Nat} {t : TypeId} (h : fieldOfT u j = some (off, t)) : ∃ f, fs[j]? = some f ∧ f.offset = off ∧ f.type = t := by
  subst hu
  obtain ⟨f, hf, he⟩ := Option.map_eq_some_iff.1 h
  simp only [Prod.mk.injEq] at he
  exact ⟨f, hf, he.1, he.2⟩
theorem underI : Tryd.prog.underlying 3 = some (.int .i64) := by kernel_rfl
theorem cellsI : Tryd.prog.cellsOf 3 = 1 := by kernel_rfl
theorem cellsStr : Tryd.prog.cellsOf 9 = 1 := by kernel_rfl

theorem cons_of {cs : List Value} {n : Nat} (h : cs.length = n + 1) : ∃ a l, cs = a :: l ∧ l.length = n := by
  cases cs with
  | nil => simp at h
  | cons a l => exact ⟨a, l, rfl, by simpa using h⟩
theorem one_of {cs : List Value} {j : Nat} {v : Value} (h : (cs.drop j).take 1 = [v]) : cs[j]? = some v := by
  have h1 := congrArg (·[0]?) h
  simpa [List.getElem?_take, List.getElem?_drop] using h1

theorem underSteps : Tryd.prog.underlying 33 = some (.slice 40) := by kernel_rfl
theorem underInts : Tryd.prog.underlying 34 = some (.slice 3) := by kernel_rfl
theorem cellsStep : Tryd.prog.cellsOf 40 = 3 := by kernel_rfl
theorem underStep0 : isStruct (Tryd.prog.underlying 40) = true := by kernel_rfl
theorem fs0 : fieldOfT (Tryd.prog.underlying 40) 0 = some (0, 3) := by kernel_rfl
theorem fs1 : fieldOfT (Tryd.prog.underlying 40) 1 = some (1, 3) := by kernel_rfl
theorem fs2 : fieldOfT (Tryd.prog.underlying 40) 2 = some (2, 3) := by kernel_rfl
theorem int_bd {z : Int} (hw : (Lit.int .i64 z).wf = true) : -9223372036854775808 ≤ z ∧ z ≤ 9223372036854775807 := by
  have e1 : IntKind.i64.min = -9223372036854775808 := rfl
  have e2 : IntKind.i64.max = 9223372036854775807 := rfl
  simpa [Lit.wf, e1, e2] using hw

section
variable {H : Type} {enc : TypeId × Value → H} {W : World} {base : Nat} {sp : Nat → Bool} {held : Bool}
theorem int_at2 {fs : Array Field} {cs : List Value} {n : Nat} {xs : List (DataW H × List MemPlace)} (hxl : xs.length = fs.size)
    (hf : ∀ (i : Nat) (f : Field), fs[i]? = some f → DataW.trod enc Tryd.prog W base sp held n f.type ((cs.drop f.offset).take (Tryd.prog.cellsOf f.type)) = xs[i]?)
    {j : Nat} (h : ∃ f, fs[j]? = some f ∧ f.offset = j ∧ f.type = 3) : ∃ z, cs[j]? = some (.int .i64 z) ∧ -9223372036854775808 ≤ z ∧ z ≤ 9223372036854775807 := by
  obtain ⟨f, h1, h2, h3⟩ := h
  have hj : j < xs.length := by rw [hxl]; exact (Array.getElem?_eq_some_iff.1 h1).1
  have g := hf j f h1
  rw [h2, h3, cellsI, List.getElem?_eq_getElem hj] at g
  obtain ⟨z, hz, _, hw⟩ := DataW.trod_int underI g
  exact ⟨z, one_of hz, int_bd hw⟩
theorem step_of_in {n : Nat} {cs : List Value} {y : DataW H × List MemPlace} (h : DataW.trod enc Tryd.prog W base sp held n 40 cs = some y) :
    ∃ k a m, cs = [.int .i64 k, .int .i64 a, .int .i64 m] ∧ (-9223372036854775808 ≤ k ∧ k ≤ 9223372036854775807) ∧ (-9223372036854775808 ≤ a ∧ a ≤ 9223372036854775807) ∧ (-9223372036854775808 ≤ m ∧ m ≤ 9223372036854775807) := by
  obtain ⟨fs, hu⟩ := struct_is underStep0
  obtain ⟨xs, k, _, _, hlen, hxl, hf⟩ := DataW.trod_struct hu h
  rw [cellsStep] at hlen
  obtain ⟨z0, h0, b0⟩ := int_at2 hxl hf (field_of hu fs0)
  obtain ⟨z1, h1, b1⟩ := int_at2 hxl hf (field_of hu fs1)
  obtain ⟨z2, h2, b2⟩ := int_at2 hxl hf (field_of hu fs2)
  clear hf hxl h hu
  obtain ⟨c0, l0, e0, n0⟩ := cons_of (n := 2) hlen
  obtain ⟨c1, l1, e1, n1⟩ := cons_of (n := 1) n0
  obtain ⟨c2, l2, e2, n2⟩ := cons_of (n := 0) n1
  obtain rfl := List.length_eq_zero_iff.1 n2
  subst e2 e1 e0
  simp only [List.getElem?_cons_zero, List.getElem?_cons_succ, Option.some.injEq] at h0 h1 h2
  subst h0 h1 h2
  exact ⟨z0, z1, z2, rfl, b0, b1, b2⟩
/-- steps that came in, nil or not, as the walk wants them -/
theorem steps_in {ao : Option Addr} {len cap fuel : Nat} {x : DataW H × List MemPlace} (hf : DataW.trod enc Tryd.prog W 0 (fun _ => true) true fuel 33 [.slice ao len cap] = some x) :
    StepsAt W ao len ∧ len ≤ maxLen := by
  rcases Deep.open_slice underSteps hf with ⟨hcs, _⟩ | ⟨a, len', cap', m, n, D, Pl, hcs, _, hl, hm, hmm, _, hx⟩
  · simp at hcs
    obtain ⟨rfl, rfl, rfl⟩ := hcs
    exact ⟨fun i hi => absurd hi (by omega), Nat.zero_le _⟩
  · simp at hcs
    obtain ⟨rfl, rfl, rfl⟩ := hcs
    refine ⟨fun i hi => ?_, by omega⟩
    obtain ⟨cs, h1, h2⟩ := hx i (by rw [hmm]; simp; omega)
    rw [cellsStep] at h1
    obtain ⟨_, hlen, hcell⟩ := World.cells?_some h1
    obtain ⟨k, s, t, rfl, b0, b1, b2⟩ := step_of_in h2
    have hspot : a.spot = none := by
      obtain ⟨cs0, h10, h20⟩ := hx 0 (by rw [hmm]; simp; omega)
      rw [cellsStep] at h10
      obtain ⟨_, _, hcell0⟩ := World.cells?_some h10
      obtain ⟨k0, _, _, rfl, _⟩ := step_of_in h20
      have h3 := (hcell0 0 (by omega)).trans (rfl : _ = some (Value.int .i64 k0))
      rw [Deep.add_add] at h3
      exact World.cell?_spot h3
    obtain ⟨b, off, spot⟩ := a
    simp only at hspot
    subst hspot
    have hc : ∀ j v, [Value.int .i64 k, .int .i64 s, .int .i64 t][j]? = some v → W.cell? ⟨b, off + i * 3 + j, none⟩ = some v := by
      intro j v hv
      have hj : j < 3 := (List.getElem?_eq_some_iff.1 hv).1
      have h3 := hcell j hj
      rw [Deep.add_add, add_plain] at h3
      rw [Nat.add_assoc, h3, hv]
    refine ⟨b, off, k, s, t, rfl, ?_, hc 0 _ rfl, hc 1 _ rfl, hc 2 _ rfl, b0.1, b0.2, b1.1, b1.2, b2.1, b2.2⟩
    exact World.block_lt_of_cell? _ _ (hc 0 _ rfl)
/-- numbers that came in, nil or not, as the walk wants them -/
theorem ints_in {ao : Option Addr} {len cap fuel : Nat} {x : DataW H × List MemPlace} (hf : DataW.trod enc Tryd.prog W 0 (fun _ => true) true fuel 34 [.slice ao len cap] = some x) :
    IntsAt W ao len ∧ len ≤ maxLen := by
  rcases Deep.open_slice underInts hf with ⟨hcs, _⟩ | ⟨a, len', cap', m, n, D, Pl, hcs, _, hl, hm, hmm, _, hx⟩
  · simp at hcs
    obtain ⟨rfl, rfl, rfl⟩ := hcs
    exact ⟨fun i hi => absurd hi (by omega), Nat.zero_le _⟩
  · simp at hcs
    obtain ⟨rfl, rfl, rfl⟩ := hcs
    have hat : ∀ i, i < len → ∃ z, W.cell? (a.add i) = some (.int .i64 z) ∧ -9223372036854775808 ≤ z ∧ z ≤ 9223372036854775807 := by
      intro i hi
      obtain ⟨cs, h1, h2⟩ := hx i (by rw [hmm]; simp; omega)
      rw [cellsI] at h1
      obtain ⟨_, hlen, hcell⟩ := World.cells?_some h1
      obtain ⟨z, rfl, _, hw⟩ := DataW.trod_int underI h2
      have h3 := (hcell 0 (by omega)).trans (rfl : _ = some (Value.int .i64 z))
      rw [Deep.add_add, Nat.mul_one, Nat.add_zero] at h3
      exact ⟨z, h3, int_bd hw⟩
    refine ⟨fun i hi => ?_, by omega⟩
    have hspot : a.spot = none := by
      obtain ⟨z, hz, _⟩ := hat 0 (by omega)
      exact World.cell?_spot hz
    obtain ⟨b, off, spot⟩ := a
    simp only at hspot
    subst hspot
    obtain ⟨z, hz, hb⟩ := hat i hi
    rw [add_plain] at hz
    exact ⟨b, off, z, rfl, World.block_lt_of_cell? _ _ hz, hz, hb⟩
end

/-- what was read ahead of a call that leaves old memory alone reads the same behind it -/
theorem below_trodAll {H : Type} {enc : TypeId × Value → H} {W W' : World} (hb : Below W.heap.size W W') : ∀ {ts : List TypeId} {vs : List Value} {ds : List (DataW H)} {ps : List MemPlace}, (∀ t ∈ ts, Tryd.prog.readableRec t = true ∧ t < Tryd.prog.types.size) →
    DataW.TrodAll enc Tryd.prog W 0 (fun _ => true) true ts vs ds ps → (∀ x ∈ ps, x.block < W.heap.size) → DataW.TrodAll enc Tryd.prog W' 0 (fun b => decide (b < W.heap.size)) true ts vs ds ps
  | [], vs, ds, ps, _, h, _ => by
    obtain ⟨rfl, rfl, rfl⟩ := trodAll_nil h
    exact trodAll_mk0
  | t :: ts, vs, ds, ps, ht, h, hlt => by
    obtain ⟨v, vs', d, ds', p, q, rfl, rfl, rfl, hd, hrest⟩ := trodAll_cons h
    exact trodAll_cons_mk (Below.trod laidOut (ht t (by simp)).1 (ht t (by simp)).2 hd hb (fun x hx => hlt x (by simp [hx]))) (below_trodAll hb (fun t' h' => ht t' (by simp [h'])) hrest (fun x hx => hlt x (by simp [hx])))
theorem int_in {H : Type} {enc : TypeId × Value → H} {W : World} {z : Int} {d : DataW H} {ps : List MemPlace} (h : DataW.Trod enc Tryd.prog W 0 (fun _ => true) true 3 (.int .i64 z) d ps) : -9223372036854775808 ≤ z ∧ z ≤ 9223372036854775807 := by
  obtain ⟨fuel, hf⟩ := h
  obtain ⟨y, hy, _, hw⟩ := DataW.trod_int underI hf
  have e : z = y := by
    have hy' : [Value.int .i64 z] = [Value.int .i64 y] := hy
    simpa using hy'
  rw [e]
  exact int_bd hw
theorem str_in {H : Type} {enc : TypeId × Value → H} {W : World} {s : ByteArray} {d : DataW H} {ps : List MemPlace} (h : DataW.Trod enc Tryd.prog W 0 (fun _ => true) true 9 (.string s) d ps) : s.size ≤ maxLen ∧ d = .lit (.string s.data.toList) := by
  obtain ⟨fuel, hf⟩ := h
  obtain ⟨y, hy, hx, hm⟩ := DataW.trod_string under_str hf
  have e : s = y := by
    have hy' : [Value.string s] = [Value.string y] := hy
    simpa using hy'
  subst e
  exact ⟨hm, (Prod.mk.inj hx).1⟩
theorem bulk_part {H : Type} {d : DataW H} {l : List (DataW H)} (h : d ∈ l) : Rows.uptoBulk d ≤ Rows.uptoBulkAll l := by
  induction l with
  | nil => cases h
  | cons x r ih =>
    simp only [Rows.uptoBulkAll]
    cases List.mem_cons.1 h with
    | inl e => subst e; omega
    | inr e => have := ih e; omega
theorem bulk_string {H : Type} (bytes : List UInt8) : Rows.uptoBulk (DataW.lit (H := H) (.string bytes)) = bytes.length + 1 := by
  simp [Rows.uptoBulk]
theorem bulk_agg {H : Type} (parts : List (DataW H)) : Rows.uptoBulk (DataW.agg parts) = Rows.uptoBulkAll parts + 1 := by
  simp [Rows.uptoBulk]
theorem bulk_slice {H : Type} (elems spare : List (DataW H)) : Rows.uptoBulk (DataW.slice elems spare) = Rows.uptoBulkAll elems + Rows.uptoBulkAll spare + 1 := by
  simp [Rows.uptoBulk]

/-- a world for the witness: the settled one, the two tables holding what their initialisers lay -/
def laidWorld (p : Program) (os : Os) : World :=
  { World.holding p os ⟨#[], #[], []⟩ with heap := (((World.holding p os ⟨#[], #[], []⟩).heap.modify 0 (fun
      | .cells _ t frozen => .cells (u32s H0).toArray t frozen
      | o => o)).modify 1 (fun
      | .cells _ t frozen => .cells (u32s K0).toArray t frozen
      | o => o)) }
end Go.Proofs.YtaokemapkgggoaaDoor

namespace Go.Proofs.YtaokemapkgggoaaDoor
open Go.RowKit

/-- what command 7 tells -/
def tellL (d : Dv) : List UInt8 := [b8 (if d.unl then 1 else 0), b8 d.k.tries, b8 (d.k.bits 4)]
theorem fed_tell {d : Dv} (ho : d.off = false) (hi : d.inn = ⟨#[]⟩) : fed d (told 7 []) = (told 0 (tellL d), d) := by
  have e : d.commandC 7 (str []) = (d, 0, tellL d) := by
    rw [Dv.commandC_command (by omega) (by omega) (by omega)]
    unfold Dv.command
    rw [if_neg (by omega), if_neg (by omega), if_pos rfl, if_pos (by rw [str_size]; rfl)]
    rfl
  exact fed_on 7 [] (by omega) (by omega) (by simp) ho hi e ho hi

set_option maxRecDepth 100000 in
set_option maxHeartbeats 1000000 in
theorem keep_tells {w0 w : World} {g : Nat} {d : Dv} (G : Glob w0) (K : KdAt w0 w g d) (ho : d.off = false) (hi : d.inn = ⟨#[]⟩) :
    Calls Tryd.prog 23 #[.pointer (some ⟨g, 0, none⟩)] w fun r w' => r = .returned (.tuple #[.int .i64 (if d.unl then 1 else 0), .int .i64 d.k.tries, .int .i64 (d.k.bits 4), .bool true]) ∧ KdAt w0 w' g d ∧ w.grownBy w' (some g) := by
  have hfr : ∀ W : World, Calls Tryd.prog 16 #[.int .i64 7, .string ⟨#[]⟩] W fun r w' => r = .returned (.string (str (told 7 []))) ∧ Below W.heap.size W w' := fun W => keep_frame 7 ⟨#[]⟩ W (by decide) (by decide) (by decide)
  have hF : ∀ W, KdAt w0 W g d → Calls Tryd.prog 19 #[.pointer (some ⟨g, 0, none⟩), .string (str (told 7 []))] W fun r w' => r = .returned (.string (str (told 0 (tellL d)))) ∧ KdAt w0 w' g d ∧ W.grownBy w' (some g) := fun W K => keep_fed G K (fed_tell ho hi) (by rw [told_len]; decide) _ rfl
  have hA := fun W => keep_answered (told 0 (tellL d)) 0 (tellL d) W (by decide) (by decide) (by show (3 : Nat) < 100000; omega)
  have t0 := K.ok.t0
  have t1 := K.ok.t1
  obtain ⟨b0, b1⟩ := d.k.bits_bd 4 (Nat.le_refl _)
  have b1' : d.k.bits 4 < 16 := b1
  have E0 : ((b8 (if d.unl then 1 else 0)).toNat : Int) = if d.unl then 1 else 0 := by rw [b8_toNat]; split <;> rfl
  have E1 : ((b8 d.k.tries).toNat : Int) = d.k.tries := by rw [b8_toNat]; omega
  have E2 : ((b8 (d.k.bits 4)).toNat : Int) = d.k.bits 4 := by rw [b8_toNat]; omega
  rw [beq_self_eq_true] at hA
  have hT : told 0 (tellL d) = [165, 3, 0, b8 (if d.unl then 1 else 0), b8 d.k.tries, b8 (d.k.bits 4), b8 ((tellL d).length + 0 + 1 + sumB (tellL d))] := rfl
  have hu2 : (if d.unl then (1 : Int) else 0) < 2 := by split <;> omega
  unfold tellL at hA hT hF
  rw [hT] at hF hA
  generalize (if d.unl then (1 : Int) else 0) = u at *
  generalize d.k.tries = tr at *
  generalize d.k.bits 4 = bi at *
  generalize b8 u = x0 at *
  generalize b8 tr = x1 at *
  generalize b8 bi = x2 at *
  generalize b8 (([x0, x1, x2] : List UInt8).length + 0 + 1 + sumB [x0, x1, x2]) = x3 at *
  obtain ⟨sb, HSB⟩ : ∃ sb, Hid (sb = str [165, 3, 0, x0, x1, x2, x3]) := ⟨_, rfl⟩
  have hz : sb.size = 7 := by rw [HSB.out]; rfl
  have hzi : (sb.size : Int) = 7 := by omega
  have g3 := byte_at (s := sb) (i := 3) (by omega)
  have g4 := byte_at (s := sb) (i := 4) (by omega)
  have g5 := byte_at (s := sb) (i := 5) (by omega)
  rw [show (bytesI sb.data.toList).getD 3 0 = u by rw [HSB.out]; exact E0] at g3
  rw [show (bytesI sb.data.toList).getD 4 0 = tr by rw [HSB.out]; exact E1] at g4
  rw [show (bytesI sb.data.toList).getD 5 0 = bi by rw [HSB.out]; exact E2] at g5
  have hex : sb.extract 3 6 = str [x0, x1, x2] := by rw [HSB.out]; rfl
  rw [← HSB.out] at hF hA
  have l3 : (3 : Int) < sb.size := by omega
  have l4 : (4 : Int) < sb.size := by omega
  have l5 : (5 : Int) < sb.size := by omega
  have l6 : (6 : Int) ≤ sb.size := by omega
  have HF : Hid _ := hF
  have HA : Hid _ := hA
  have HFR : Hid _ := hfr
  clear hF hA hfr hT E0 E1 E2
  generalize str [x0, x1, x2] = pb at *
  go_enter Tryd.func23, Tryd.ntmps23
  go_wp2_with (first | (go_at_call 16; refine (HFR.out _).mono ?_; rintro _ w1 ⟨rfl, hb1⟩; have K1 := K.next hb1) | (go_at_call 19; refine (HF.out _ K1).mono ?_; rintro _ w2 ⟨rfl, K2, hg2⟩; have hw2 := (grown_of_below (some g) hb1).trans hg2) | (go_at_call 30; refine (HA.out _).mono ?_; rintro _ w3 ⟨rfl, hb3⟩; have K3 := K2.next hb3; have hw3 := hw2.trans (grown_of_below (some g) hb3)))
  refine bodyPost_ret (v := .tuple #[.int .i64 u, .int .i64 tr, .int .i64 bi, .bool true]) (by simp [results, Tryd.results23, go_sem]) rfl ⟨rfl, K3, hw3⟩
end Go.Proofs.YtaokemapkgggoaaDoor
