import Derived.Test.YtaokemapkgggoaaGreatDoorFd41
import Derived.Test.YtaokemapkgggoaaGreatDoorCards
import Derived.Test.YtaokemapkgggoaaGreatDoorTie
import Derived.WalkKit
import Derived.ProofKit
import Derived.OpenShut
import Derived.Carry
import Derived.Deep.Slices
import Derived.Deep.DeepHandedRow
import Derived.Lib.LaidTab
import Derived.Test.YtaokemapkgggoaaGreatDoorFd20
namespace Go.Proofs.YtaokemapkgggoaaGreatDoor
open Go.RowKit

/-- a script in memory whose texts are no longer than a bound -/
def ScriptAtF (w : World) (ao : Option Addr) (len : Nat) : Prop := ∀ i, i < len → ∃ b off kd wn n s t rest, ao = some ⟨b, off, none⟩ ∧ b < w.heap.size ∧ w.rangeAt b (off + i * 20) (opCells kd wn n s t rest) ∧ rest.length = 15 ∧ s.size ≤ 1500000 ∧ -9223372036854775808 ≤ n ∧ n ≤ 9223372036854775807 ∧ -9223372036854775808 ≤ wn ∧ wn ≤ 9223372036854775807

theorem FedAt.slice {w1 w : World} {g gs : Nat} {ps : List (Nat × Nat × Dv)} (F : FedAt w1 g gs ps w) : ∃ ao cap, w.cell? ⟨g, 1, none⟩ = some (.slice ao ps.length cap) := by
  obtain ⟨v, hr, ho⟩ := F.row
  rcases ho.2 with ⟨hv, hn⟩ | ⟨vb, cap, cur, hv, _⟩
  · exact ⟨none, 0, by rw [hr.cell, hv, hn]; rfl⟩
  · exact ⟨_, cap, by rw [hr.cell, hv]; rfl⟩
theorem FedAt.made {w1 w : World} {gs : Nat} (hb : Below w1.heap.size w1 w) (hr : Row w w1.heap.size [.pointer (some ⟨gs, 0, none⟩), .slice none 0 0] 30) : FedAt w1 w1.heap.size gs [] w :=
  ⟨hb, ⟨_, hr, rfl, .inl ⟨rfl, rfl⟩⟩, fun p hp => absurd hp (by simp), List.Pairwise.nil, List.Pairwise.nil⟩

set_option maxRecDepth 100000 in
set_option maxHeartbeats 4000000 in
theorem law_playsF (hsum : SumSaid sumSpecRef) (ao : Option Addr) (len cap : Nat) (w : World) (hG : Glob w) (hv : ScriptAtF w ao len) (hlen : len < 9223372036854775808) :
    Calls Tryz.prog 6 #[.slice ao len cap, .int .i64 4, .int .i64 7] w fun r w' => r = .returned (.bool true) ∧ Below w.heap.size w w' := by
  go_enter Tryz.func6, Tryz.ntmps6
  go_wp2_with (first | (go_at_call 7; refine (ref_newSummer _).mono ?_; rintro _ w1 ⟨gs, rfl, hS1, hgs, hb1⟩; have G : Ground w1 gs := ⟨hS1, hG.below hb1 (Nat.le_refl _)⟩) | (go_at_call 8; have P1 : PlayAt w w1.heap.size gs (w1.alloc (.cells [.pointer (some ⟨gs, 0, none⟩), .slice none 0 0].toArray 30)) := ⟨(Row.made w1 _ _).cell.trans rfl, (Row.made w1 _ _).cell.trans rfl, hS1.below ((Below.refl _ _).alloc (Nat.le_refl _) _) (Nat.le_refl _), (hG.below hb1 (Nat.le_refl _)).alloc _, hb1.alloc hb1.size _⟩; have F1 : FedAt w1 w1.heap.size gs [] (w1.alloc (.cells [.pointer (some ⟨gs, 0, none⟩), .slice none 0 0].toArray 30)) := FedAt.made ((Below.refl _ _).alloc (Nat.le_refl _) _) (Row.made w1 _ _); refine (law_sums1 hsum 0 0 _ _ _ _ gs _ P1.c0 P1.summ P1.glob).mono ?_; rintro _ w2 ⟨rfl, hb2⟩; have F2 := F1.below hb2; clear hb2 P1 F1) | (go_at_call 9; refine (law_made w1 w2 w1.heap.size gs [] 0 0 _ _ _ (Nat.le_refl _) F2 (by decide) (by decide)).mono ?_; rintro _ w3 ⟨rfl, qs, F3, hq⟩; rw [List.nil_append] at F3; have hq1 : qs.length = 1 := hq; clear hq F2; obtain ⟨aq, cq, c1⟩ := F3.slice; rw [hq1] at c1))
  go_loopw [10] (fun c wr => ∃ (i : Nat) (ps : List (Nat × Nat × Dv)), i ≤ len ∧ c = .int .i64 i ∧ FedAt w1 w1.heap.size gs ps wr ∧ 0 < ps.length ∧ ps.length ≤ 20) (fun c _ => len - (intOf c).toNat)
  case atStart => exact ⟨0, qs, by omega, rfl, F3, by omega, by omega⟩
  case round =>
    clear F3 hq1 c1
    obtain ⟨i, ps, hi, rfl, F, hp0, hp20⟩ := hrel
    obtain ⟨aq', cq', c1⟩ := F.slice
    by_cases hlt : i < len
    · have hlt' : (i : Int) < len := by omega
      by_cases h20 : ps.length < 20
      · have h20' : (ps.length : Int) < 20 := by omega
        obtain ⟨b, off, kd, wn, n, s, t, rest, rfl, hb, hR0, hrl, hs, hn0, hn1, hm0, hm1⟩ := hv i hlt
        have hR : wr.rangeAt b (off + i * 20) (opCells kd wn n s t rest) := range_below hR0 (hb1.trans (F.base.mono hb1.size)) hb
        have kc : wr.cell? ⟨b, off + i * 20, none⟩ = some (.int .i64 kd) := hR 0 _ rfl
        obtain ⟨fs, hu⟩ := underOp
        have hcl : (opCells kd wn n s t rest).length = 20 := by simp [opCells, hrl]
        obtain ⟨cs, HC⟩ : ∃ cs, Hid (cs = opCells kd wn n s t rest) := ⟨_, rfl⟩
        rw [← HC.out] at hR hcl
        by_cases h4 : 4 ≤ kd
        · by_cases h7 : kd ≤ 7
          · go_wp2_with (first | (refine wpList_load_mid rfl 36 _ rfl b (off + i * 20) rfl cs _ hR hu rfl (by rw [sizeOp, hcl]) ?_; go_simp) | (go_at_call 10; rw [HC.out]; refine (law_fstep hsum w1 _ w1.heap.size gs ps kd wn n s t rest hrl G (Nat.le_refl _) F hp0 (by omega) hs hn0 hn1 hm0 hm1 h4 h7).mono ?_; rintro _ w4 ⟨rfl, qs4, F4, hq40, hq41⟩; rw [← HC.out]))
            exact ⟨⟨i + 1, qs4, by omega, by go_num, F4, by omega, by omega⟩, by simp [intOf]; omega⟩
          · go_wp2
            exact ⟨⟨i + 1, ps, by omega, by go_num, F, hp0, hp20⟩, by simp [intOf]; omega⟩
        · go_wp2
          exact ⟨⟨i + 1, ps, by omega, by go_num, F, hp0, hp20⟩, by simp [intOf]; omega⟩
      · have h20' : ¬ (ps.length : Int) < 20 := by omega
        go_wp2
        go_loopw [13] (fun c ws => ∃ (j : Nat) (qs : List (Nat × Nat × Dv)), j ≤ qs.length ∧ qs.length ≤ 20 ∧ c = .int .i64 j ∧ FedAt w1 w1.heap.size gs qs ws) (fun c _ => 20 - (intOf c).toNat)
        case atStart => exact ⟨0, ps, Nat.zero_le _, hp20, rfl, F⟩
        case round =>
          clear F c1 hp0 hp20
          obtain ⟨j, qs, hj, hq20, rfl, FQ⟩ := hrel
          by_cases hjl : j < qs.length
          · have hjl' : (j : Int) < qs.length := by omega
            have hj0 : (0 : Int) ≤ j := by omega
            obtain ⟨vb, cv, x, y, d, pre, post, hps, hrow, -, hcx, hcy⟩ := FQ.pick j hjl
            have D := (FQ.dev (x, y, d) (by rw [hps]; simp)).1
            have cq : wr.cell? ⟨w1.heap.size, 1, none⟩ = some (.slice (some ⟨vb, 0, none⟩) qs.length cv) := hrow.cell.trans rfl
            have HPS : Hid (qs = pre ++ (x, y, d) :: post) := hps
            have HLQ : Hid (qs.length = (pre ++ (x, y, d) :: post).length) := by show _ = _; rw [← hps]
            clear hps hrow
            go_wp2_with (go_at_call 11; refine (law_ask7 _ gs x y d 0 0 _ _ _ D).mono ?_; rintro _ w5 ⟨rfl, d', D5, t5⟩)
            rw [HPS.out] at FQ
            have e5 : (pre ++ (x, y, d') :: post).length = qs.length := by rw [HLQ.out]; simp
            exact ⟨⟨j + 1, pre ++ (x, y, d') :: post, by omega, by omega, by go_num, FQ.asked t5 D5⟩, by simp [intOf]; omega⟩
          · have hjl' : ¬ (j : Int) < qs.length := by omega
            obtain ⟨aj, cj, cq⟩ := FQ.slice
            go_wp2
            go_ret
            exact ⟨rfl, hb1.trans (FQ.base.mono hb1.size)⟩
    · have hlt' : ¬ (i : Int) < len := by omega
      go_wp2
      go_loopw [13] (fun c ws => ∃ (j : Nat) (qs : List (Nat × Nat × Dv)), j ≤ qs.length ∧ qs.length ≤ 20 ∧ c = .int .i64 j ∧ FedAt w1 w1.heap.size gs qs ws) (fun c _ => 20 - (intOf c).toNat)
      case atStart => exact ⟨0, ps, Nat.zero_le _, hp20, rfl, F⟩
      case round =>
        clear F c1 hp0 hp20
        obtain ⟨j, qs, hj, hq20, rfl, FQ⟩ := hrel
        by_cases hjl : j < qs.length
        · have hjl' : (j : Int) < qs.length := by omega
          have hj0 : (0 : Int) ≤ j := by omega
          obtain ⟨vb, cv, x, y, d, pre, post, hps, hrow, -, hcx, hcy⟩ := FQ.pick j hjl
          have D := (FQ.dev (x, y, d) (by rw [hps]; simp)).1
          have cq : wr.cell? ⟨w1.heap.size, 1, none⟩ = some (.slice (some ⟨vb, 0, none⟩) qs.length cv) := hrow.cell.trans rfl
          have HPS : Hid (qs = pre ++ (x, y, d) :: post) := hps
          have HLQ : Hid (qs.length = (pre ++ (x, y, d) :: post).length) := by show _ = _; rw [← hps]
          clear hps hrow
          go_wp2_with (go_at_call 11; refine (law_ask7 _ gs x y d 0 0 _ _ _ D).mono ?_; rintro _ w5 ⟨rfl, d', D5, t5⟩)
          rw [HPS.out] at FQ
          have e5 : (pre ++ (x, y, d') :: post).length = qs.length := by rw [HLQ.out]; simp
          exact ⟨⟨j + 1, pre ++ (x, y, d') :: post, by omega, by omega, by go_num, FQ.asked t5 D5⟩, by simp [intOf]; omega⟩
        · have hjl' : ¬ (j : Int) < qs.length := by omega
          obtain ⟨aj, cj, cq⟩ := FQ.slice
          go_wp2
          go_ret
          exact ⟨rfl, hb1.trans (FQ.base.mono hb1.size)⟩

theorem law_Fed (hsum : SumSaid sumSpecRef) (ao : Option Addr) (len cap : Nat) (w : World) (hG : Glob w) (hv : ScriptAtF w ao len) (hlen : len < 9223372036854775808) :
    Calls Tryz.prog 4 #[.slice ao len cap] w fun r w' => r = .returned (.bool true) ∧ Below w.heap.size w w' := by
  go_enter Tryz.func4, Tryz.ntmps4
  go_wp2_with (first | (go_at_call 6; refine (law_playsF hsum ao len cap _ hG hv hlen).mono ?_; rintro _ w2 ⟨rfl, hb2⟩))
  go_ret
  exact ⟨rfl, hb2⟩
end Go.Proofs.YtaokemapkgggoaaGreatDoor

namespace Go.Proofs.YtaokemapkgggoaaGreatDoor
open Go.ChangeShapes Go.WideShapes Go.ChangeAt Go.RowKit

theorem own : ownKnob Tryz.prog.godebug = none := by kernel_rfl
theorem laidOut : laidOutB Tryz.prog = true := by kernel_rfl
theorem gStart : Tryz.prog.globalNamed "warden/warden.startWords" = some 0 := by kernel_rfl
theorem gRoot : Tryz.prog.globalNamed "warden/warden.rootWords" = some 1 := by kernel_rfl
theorem gStartT : (Tryz.prog.globals[0]?).map (·.type) = some 76 := by kernel_rfl
theorem gRootT : (Tryz.prog.globals[1]?).map (·.type) = some 141 := by kernel_rfl
theorem underS : Tryz.prog.underlying 76 = some (.array 8 75) := by kernel_rfl
theorem underR : Tryz.prog.underlying 141 = some (.array 64 75) := by kernel_rfl
theorem under32 : Tryz.prog.underlying 75 = some (.int .u32) := by kernel_rfl
theorem cells32 : Tryz.prog.cellsOf 75 = 1 := by kernel_rfl
theorem cellsS : Tryz.prog.cellsOf 76 = 8 := by kernel_rfl
theorem cellsR : Tryz.prog.cellsOf 141 = 64 := by kernel_rfl
theorem underB : Tryz.prog.underlying 4 = some .bool := by kernel_rfl
theorem underScript : Tryz.prog.underlying 22 = some (.slice 36) := by kernel_rfl
theorem cellsOp : Tryz.prog.cellsOf 36 = 20 := by kernel_rfl

theorem tabIs_of_second {P : Program} {W : World} {x : String × DataW Unit} {name : String} {k : IntKind} {zs : List Int} {rest : List (String × DataW Unit)} {g : Nat} {t e : TypeId} {n : Nat}
    (hg : P.globalNamed name = some g) (hty : (P.globals[g]?).map (·.type) = some t) (ht : P.underlying t = some (.array n e)) (he : P.underlying e = some (.int k)) (hce : P.cellsOf e = 1) (hct : P.cellsOf t = n)
    (h : laidMet P (x :: (name, Lib.tabData k zs) :: rest) W) : Lib.TabIs P W name k zs := by
  obtain ⟨ps, ⟨_, _, _, _, _, _, _, _, _, _, h2, _⟩, _⟩ := h
  obtain ⟨g', t', cs, fuel, p, q, hg', ht', hvar, hd, _, _⟩ := h2
  obtain rfl := Option.some.inj (hg.symm.trans hg')
  obtain rfl := Option.some.inj (hty.symm.trans ht')
  unfold Lib.TabIs
  rw [hvar, ← Lib.cells_of_tab ht he hce hct hd]

theorem glob_of_laid {W : World} (h : laidMetH Tryz.prog Rows.fedUptoRow.laid W) : Glob W :=
  have h1 : Lib.TabIs Tryz.prog W "warden/warden.startWords" .u32 H0 := Lib.tabIs_of_head (rest := [("warden/warden.rootWords", Lib.tabData .u32 K0)]) gStart gStartT underS under32 cells32 cellsS h
  have h2 : Lib.TabIs Tryz.prog W "warden/warden.rootWords" .u32 K0 := tabIs_of_second (x := ("warden/warden.startWords", Lib.tabData .u32 H0)) (rest := []) gRoot gRootT underR under32 cells32 cellsR h
  ⟨fun i hi => h1.cell gStart i hi, fun i hi => h2.cell gRoot i hi⟩

def fieldOfT (u : Option TypeDesc) (j : Nat) : Option (Nat × TypeId) :=
  match u with
  | some (.struct fs) => (fs[j]?).map fun f => (f.offset, f.type)
  | _ => none
theorem field_of {u : Option TypeDesc} {fs : Array Field} (hu : u = some (.struct fs)) {j off : Nat} {t : TypeId} (h : fieldOfT u j = some (off, t)) : ∃ f, fs[j]? = some f ∧ f.offset = off ∧ f.type = t := by
  subst hu
  obtain ⟨f, hf, he⟩ := Option.map_eq_some_iff.1 h
  simp only [Prod.mk.injEq] at he
  exact ⟨f, hf, he.1, he.2⟩
theorem fld0 : fieldOfT (Tryz.prog.underlying 36) 0 = some (0, 3) := by kernel_rfl
theorem fld1 : fieldOfT (Tryz.prog.underlying 36) 1 = some (1, 3) := by kernel_rfl
theorem fld2 : fieldOfT (Tryz.prog.underlying 36) 2 = some (2, 3) := by kernel_rfl
theorem fld3 : fieldOfT (Tryz.prog.underlying 36) 3 = some (3, 9) := by kernel_rfl
theorem fld4 : fieldOfT (Tryz.prog.underlying 36) 4 = some (4, 9) := by kernel_rfl
theorem underI : Tryz.prog.underlying 3 = some (.int .i64) := by kernel_rfl
theorem cellsI : Tryz.prog.cellsOf 3 = 1 := by kernel_rfl
theorem cellsStr : Tryz.prog.cellsOf 9 = 1 := by kernel_rfl

theorem cons_of {cs : List Value} {n : Nat} (h : cs.length = n + 1) : ∃ a l, cs = a :: l ∧ l.length = n := by
  cases cs with
  | nil => simp at h
  | cons a l => exact ⟨a, l, rfl, by simpa using h⟩
theorem one_of {cs : List Value} {j : Nat} {v : Value} (h : (cs.drop j).take 1 = [v]) : cs[j]? = some v := by
  have h1 := congrArg (·[0]?) h
  simpa [List.getElem?_take, List.getElem?_drop] using h1

theorem bulk_part {H : Type} {d : DataW H} {l : List (DataW H)} (h : d ∈ l) : Rows.uptoBulk d ≤ Rows.uptoBulkAll l := by
  induction l with
  | nil => cases h
  | cons x r ih =>
    simp only [Rows.uptoBulkAll]
    cases List.mem_cons.1 h with
    | inl e => subst e; omega
    | inr e => have := ih e; omega
theorem bulk_string {H : Type} (bytes : List UInt8) : Rows.uptoBulk (DataW.lit (H := H) (.string bytes)) = bytes.length + 1 := by
  simp [Rows.uptoBulk]
theorem bulk_agg {H : Type} (parts : List (DataW H)) : Rows.uptoBulk (DataW.agg parts) = Rows.uptoBulkAll parts + 1 := by
  simp [Rows.uptoBulk]
theorem bulk_slice {H : Type} (elems spare : List (DataW H)) : Rows.uptoBulk (DataW.slice elems spare) = Rows.uptoBulkAll elems + Rows.uptoBulkAll spare + 1 := by
  simp [Rows.uptoBulk]
theorem bulk_one {H : Type} (d : DataW H) : Rows.uptoBulkAll [d] = Rows.uptoBulk d := by
  simp [Rows.uptoBulkAll]

section
variable {H : Type} {enc : TypeId × Value → H} {W : World} {base : Nat} {sp : Nat → Bool} {held : Bool}
theorem int_at {fs : Array Field} {cs : List Value} {n : Nat} {xs : List (DataW H × List MemPlace)} (hxl : xs.length = fs.size)
    (hf : ∀ (i : Nat) (f : Field), fs[i]? = some f → DataW.trod enc Tryz.prog W base sp held n f.type ((cs.drop f.offset).take (Tryz.prog.cellsOf f.type)) = xs[i]?)
    {j : Nat} (h : ∃ f, fs[j]? = some f ∧ f.offset = j ∧ f.type = 3) : ∃ z, cs[j]? = some (.int .i64 z) ∧ -9223372036854775808 ≤ z ∧ z ≤ 9223372036854775807 := by
  obtain ⟨f, h1, h2, h3⟩ := h
  have hj : j < xs.length := by rw [hxl]; exact (Array.getElem?_eq_some_iff.1 h1).1
  have g := hf j f h1
  rw [h2, h3, cellsI, List.getElem?_eq_getElem hj] at g
  obtain ⟨z, hz, _, hw⟩ := DataW.trod_int underI g
  refine ⟨z, one_of hz, ?_⟩
  have e1 : IntKind.i64.min = -9223372036854775808 := rfl
  have e2 : IntKind.i64.max = 9223372036854775807 := rfl
  have : -9223372036854775808 ≤ z ∧ z ≤ 9223372036854775807 := by simpa [Lit.wf, e1, e2] using hw
  exact this
theorem str_field {fs : Array Field} {cs : List Value} {n : Nat} {xs : List (DataW H × List MemPlace)} (hxl : xs.length = fs.size)
    (hf : ∀ (i : Nat) (f : Field), fs[i]? = some f → DataW.trod enc Tryz.prog W base sp held n f.type ((cs.drop f.offset).take (Tryz.prog.cellsOf f.type)) = xs[i]?)
    {j : Nat} (h : ∃ f, fs[j]? = some f ∧ f.offset = j ∧ f.type = 9) : ∃ z, cs[j]? = some (.string z) ∧ z.size ≤ Rows.uptoBulkAll (xs.map (·.1)) := by
  obtain ⟨f, h1, h2, h3⟩ := h
  have hj : j < xs.length := by rw [hxl]; exact (Array.getElem?_eq_some_iff.1 h1).1
  have g := hf j f h1
  rw [h2, h3, cellsStr, List.getElem?_eq_getElem hj] at g
  obtain ⟨z, hz, hx, _⟩ := DataW.trod_string under_str g
  refine ⟨z, one_of hz, ?_⟩
  have hmem : DataW.lit (.string z.data.toList) ∈ xs.map (·.1) := List.mem_map.2 ⟨xs[j], List.getElem_mem hj, by rw [hx]⟩
  have hp := bulk_part hmem
  rw [bulk_string] at hp
  have hl : z.data.toList.length = z.size := by rw [Array.length_toList]; rfl
  omega

theorem op_of {n : Nat} {cs : List Value} {y : DataW H × List MemPlace} (h : DataW.trod enc Tryz.prog W base sp held n 36 cs = some y) :
    ∃ kd wn m s t rest, cs = opCells kd wn m s t rest ∧ rest.length = 15 ∧ s.size ≤ Rows.uptoBulk y.1 ∧ -9223372036854775808 ≤ m ∧ m ≤ 9223372036854775807 ∧ -9223372036854775808 ≤ wn ∧ wn ≤ 9223372036854775807 := by
  obtain ⟨fs, hu⟩ := underOp
  obtain ⟨xs, k, _, hy, hlen, hxl, hf⟩ := DataW.trod_struct hu h
  rw [cellsOp] at hlen
  obtain ⟨kd, h0, _⟩ := int_at hxl hf (field_of hu fld0)
  obtain ⟨wn, h1, hw0, hw1⟩ := int_at hxl hf (field_of hu fld1)
  obtain ⟨m, h2, hm0, hm1⟩ := int_at hxl hf (field_of hu fld2)
  obtain ⟨s, h3, hs⟩ := str_field hxl hf (field_of hu fld3)
  obtain ⟨t, h4, _⟩ := str_field hxl hf (field_of hu fld4)
  have hb : s.size ≤ Rows.uptoBulk y.1 := by rw [hy, bulk_agg]; omega
  clear hf hxl h hu
  obtain ⟨c0, l0, e0, n0⟩ := cons_of (n := 19) hlen
  obtain ⟨c1, l1, e1, n1⟩ := cons_of (n := 18) n0
  obtain ⟨c2, l2, e2, n2⟩ := cons_of (n := 17) n1
  obtain ⟨c3, l3, e3, n3⟩ := cons_of (n := 16) n2
  obtain ⟨c4, l4, e4, n4⟩ := cons_of (n := 15) n3
  rw [e0, e1, e2, e3, e4] at h0 h1 h2 h3 h4
  simp only [List.getElem?_cons_zero, List.getElem?_cons_succ, Option.some.injEq] at h0 h1 h2 h3 h4
  exact ⟨kd, wn, m, s, t, l4, by rw [e0, e1, e2, e3, e4, h0, h1, h2, h3, h4]; rfl, n4, hb, hm0, hm1, hw0, hw1⟩

/-- a script that came in, nil or not, as the walk wants it -/
theorem open_script {ao : Option Addr} {len cap fuel : Nat} {x : DataW H × List MemPlace} (hf : DataW.trod enc Tryz.prog W 0 (fun _ => true) true fuel 22 [.slice ao len cap] = some x) (hk : Rows.uptoBulk x.1 ≤ 1048576) :
    ScriptAtF W ao len ∧ len ≤ maxLen := by
  rcases Deep.open_slice underScript hf with ⟨hcs, _⟩ | ⟨a, len', cap', m, n, D, Pl, hcs, _, hl, hm, hmm, hxx, hx⟩
  · simp at hcs
    obtain ⟨rfl, rfl, rfl⟩ := hcs
    exact ⟨fun i hi => absurd hi (by omega), Nat.zero_le _⟩
  · simp at hcs
    obtain ⟨rfl, rfl, rfl⟩ := hcs
    refine ⟨fun i hi => ?_, by omega⟩
    obtain ⟨cs, h1, h2⟩ := hx i (by rw [hmm]; simp; omega)
    rw [cellsOp] at h1
    obtain ⟨_, hlen, hcell⟩ := World.cells?_some h1
    obtain ⟨kd, wn, m', s, t, rest, rfl, hrl, hsb, hb1, hb2, hb3, hb4⟩ := op_of h2
    have hsz : s.size ≤ 1500000 := by
      rw [hxx] at hk
      simp only at hk hsb
      rw [bulk_slice] at hk
      have hmem : D i ∈ (List.range len).map D := List.mem_map.2 ⟨i, List.mem_range.2 hi, rfl⟩
      have := bulk_part hmem
      omega
    have hspot : a.spot = none := by
      obtain ⟨cs0, h10, h20⟩ := hx 0 (by rw [hmm]; simp; omega)
      rw [cellsOp] at h10
      obtain ⟨_, _, hcell0⟩ := World.cells?_some h10
      obtain ⟨kd0, _, _, _, _, _, rfl, _⟩ := op_of h20
      have h3 := (hcell0 0 (by omega)).trans (rfl : _ = some (Value.int .i64 kd0))
      rw [Deep.add_add] at h3
      exact World.cell?_spot h3
    obtain ⟨b, off, spot⟩ := a
    simp only at hspot
    subst hspot
    have hc0 := hcell 0 (by omega)
    rw [Deep.add_add] at hc0
    refine ⟨b, off, kd, wn, m', s, t, rest, rfl, ?_, ?_, hrl, hsz, hb1, hb2, hb3, hb4⟩
    · have := World.block_lt_of_cell? _ _ (hc0.trans rfl : W.cell? _ = some (.int .i64 kd))
      rw [add_plain] at this
      exact this
    · intro j v hv
      have hj : j < 20 := by rw [← hlen]; exact (List.getElem?_eq_some_iff.1 hv).1
      have h3 := hcell j hj
      rw [Deep.add_add, add_plain] at h3
      rw [Nat.add_assoc, h3, hv]
end

set_option maxRecDepth 100000 in
theorem contract (hsum : SumSaid sumSpecRef) (H : Type) (enc : TypeId × Value → H) (W : World) (base : Nat) (args : Array Value) (ds gs : List (DataW H)) (before : List MemPlace)
    (hval : ∀ (j : Nat) t v, Tryz.f4.params[j]? = some t → args[j]? = some v → Value.okWide Tryz.prog W .any base t v)
    (hW : DataW.Whole enc Tryz.prog Tryz.f4.params.toList Rows.fedSpec.vars false W args.toList ds gs before) (hL : laidMetH Tryz.prog Rows.fedUptoRow.laid W) (hk : Rows.uptoSmall H (ds ++ gs) = true) :
    Calls Tryz.prog 4 args W fun e W' => ∃ v, e = .returned v ∧ Rows.fedSpec.post enc Tryz.prog Tryz.f4 false true false false W args v W' := by
  have hW' := hW
  obtain ⟨p, q, hA0, hV, rfl, _, _⟩ := hW
  have hA : DataW.TrodAll enc Tryz.prog W 0 (fun _ => true) true Tryz.f4.params.toList args.toList ds p := hA0
  rw [Tryz.params4] at hA hval
  obtain ⟨v0, d0, rfl, rfl, h0⟩ := trodAll_one hA
  obtain ⟨rfl, rfl⟩ := trodVars_none hV
  obtain ⟨a0, len, cap, rfl⟩ := okWide_slice underScript (hval 0 22 v0 rfl rfl)
  have h0k := h0
  obtain ⟨fuel, hf⟩ := h0
  clear hA0
  simp only [List.append_nil] at hW' hk
  have hk2 : Rows.uptoBulkAll [d0] ≤ 1048576 := of_decide_eq_true hk
  rw [bulk_one] at hk2
  have hlt : ∀ x ∈ p, x.block < W.heap.size := fun x hx => by simpa using hW'.lt x hx
  obtain ⟨hs, hm⟩ := open_script hf hk2
  have hlen : len < 9223372036854775808 := Nat.lt_of_le_of_lt hm (by decide)
  refine (law_Fed hsum a0 len cap W (glob_of_laid hL) hs hlen).mono fun e W' ⟨he, hb⟩ => ?_
  subst he
  refine ⟨_, rfl, _, _, _, [], _, [], hW', ?_, trodAll_mk1 (Below.trod laidOut (by kernel_rfl) (of_decide_eq_true (by kernel_rfl)) h0k hb hlt), rfl, hb.frame _, fun h => by cases h⟩
  exact trodAll_mk1 (shut_bool underB _)

/-- a world for the witness: the settled one, the two tables holding what their initialisers lay -/
def laidWorld (p : Program) (os : Os) : World :=
  { World.holding p os ⟨#[], #[], []⟩ with heap := (((World.holding p os ⟨#[], #[], []⟩).heap.modify 0 (fun
      | .cells _ t frozen => .cells (u32s H0).toArray t frozen
      | o => o)).modify 1 (fun
      | .cells _ t frozen => .cells (u32s K0).toArray t frozen
      | o => o)) }
theorem laid_met (os : Os) : laidMet Tryz.prog Rows.fedUptoRow.laid ((laidWorld Tryz.prog os).forCall (fun _ _ => 0) ⟨#[], #[.slice none 0 0], []⟩).memory :=
  laidMet_of_run' 8 (by kernel_rfl) (by kernel_rfl)
theorem reads (os : Os) {H : Type} (enc : TypeId × Value → H) : ∃ places, DataW.whole enc Tryz.prog ((laidWorld Tryz.prog os).forCall (fun _ _ => 0) ⟨#[], #[.slice none 0 0], []⟩).memory Tryz.f4.params.toList Rows.fedSpec.vars false #[Value.slice none 0 0].toList 8 = some ([.nil], [], places) :=
  ⟨[], by kernel_rfl⟩

set_option maxRecDepth 100000 in
theorem lifted (hsum : SumSaid sumSpecRef) (os : Os) (started : os.Started) (H : Type) (enc : TypeId × Value → H) (F : Stop.Interp) :
    ReturnsInHanded {} Tryz.checked os 4 .any ((Rows.OpenSpec.upto Rows.fedSpec).preRow enc Tryz.prog Tryz.f4 Rows.fedUptoRow.domain false Rows.fedUptoRow.laid) (((Rows.OpenSpec.upto Rows.fedSpec).at F).post enc Tryz.prog Tryz.f4 false true false false) := by
  obtain ⟨places, hx⟩ := reads os enc
  refine returnsInHanded_of_row (C := Tryz.checked) (s := Rows.OpenSpec.upto Rows.fedSpec) own started (by kernel_rfl) Tryz.func4
    (witness_row_at (enc := enc) (C := Tryz.checked) false (laidWorld Tryz.prog os) #[.slice none 0 0] rfl (by kernel_rfl) (by kernel_rfl) (by kernel_rfl)
      (OpenSpec.preRow_of_cond 8 hx (by kernel_rfl) (fun k hk => by cases hk; kernel_rfl) (by kernel_rfl) (laid_met os))) ?_
  intro W base args ds gs before hval hW _ hcond _ hL _ _
  exact contract hsum H enc W base args ds gs before hval hW hL (hcond _ rfl)

theorem said (hsum : SumSaid sumSpecRef) : Rows.FedUptoSaid :=
  OpenClaim.holds_of_cond 4 Tryz.f4 rfl rfl rfl rfl rfl rfl rfl ⟨rfl, rfl, rfl, rfl, rfl⟩ rfl rfl rfl rfl rfl (by kernel_rfl) Tryz.func4 (by kernel_rfl)
    (of_decide_eq_true (by kernel_rfl)) (by unfold Func.isWrapper; first | (rw [if_pos (by decide +kernel)]; kernel_rfl) | (rw [if_neg (by decide +kernel)]; exact ⟨rfl, rfl⟩))
    (fun os started H enc _ F => by rw [OpenClaim.pre_eq_preRow]; exact lifted hsum os started H enc F)

theorem plain (f : FuncId) (fn : Func) (hf : Tryz.pinned.checked.prog.funcNamed "warden/wardenlaw.Fed" = some f) (hfn : Tryz.pinned.checked.prog.funcs[f]? = some fn) :
    true = Tryz.pinned.checked.prog.looks [] ∧ ∀ (j : Nat) t, fn.params[j]? = some t → Tryz.pinned.checked.prog.wantsStandIn t = false := by
  obtain rfl : f = 4 := Option.some.inj ((show Tryz.prog.funcNamed "warden/wardenlaw.Fed" = some 4 by kernel_rfl).symm.trans hf) |>.symm
  obtain rfl : fn = Tryz.f4 := (Option.some.inj (Tryz.func4.symm.trans hfn)).symm
  refine ⟨by kernel_rfl, fun j t ht => ?_⟩
  rw [Tryz.params4] at ht
  obtain rfl : t = 22 := by simpa using Array.mem_of_getElem? ht
  exact (show Tryz.prog.wantsStandIn 22 = false by kernel_rfl)

theorem card (hsum : SumSaid sumSpecRef) : Rows.FedUptoCardSaid :=
  Claim7.holds_tied_plain_at .later [] _ _ _ _ (said hsum) (fun _ h => by cases h) (by kernel_rfl) (fun _ h => by cases h) fedUpto_row_tie rfl ⟨rfl, rfl⟩ (by kernel_rfl) rfl plain (by kernel_rfl)
end Go.Proofs.YtaokemapkgggoaaGreatDoor

namespace Go.Proofs.YtaokemapkgggoaaGreatDoor

/-- every New, Feed and Flash is the document's -/
theorem fed_holds : Rows.FedUptoCardSaid := card fun s g w hS hs => ref_sum s g w hS hs
end Go.Proofs.YtaokemapkgggoaaGreatDoor
