import Derived.Test.YtaokemapkgggoaaGreatDoorAl43
import Derived.Test.YtaokemapkgggoaaGreatDoorAl47
import Derived.Test.YtaokemapkgggoaaGreatDoorCards
import Derived.Test.YtaokemapkgggoaaGreatDoorTie
import Derived.WalkKit
import Derived.ProofKit
import Derived.OpenShut
import Derived.Carry
import Derived.Deep.Slices
import Derived.Deep.DeepHandedRow
import Derived.Lib.LaidTab
import Derived.Laws.IdiomArrays
import Derived.Test.YtaokemapkgggoaaGreatDoorAl20
namespace Go.Proofs.YtaokemapkgggoaaGreatDoor
open Go.RowKit

/-- a script in memory whose texts are no longer than a bound, with the images that it speaks of -/
def ScriptAtA (w : World) (ao : Option Addr) (len : Nat) : Prop := ∀ i, i < len → ∃ b off kd wn n s t K1 K2 m, ao = some ⟨b, off, none⟩ ∧ b < w.heap.size ∧ w.rangeAt b (off + i * 20) (opCells kd wn n s t (restK K1 K2 m)) ∧ K1.fair ∧ K2.fair ∧ s.size ≤ 1500000 ∧ -9223372036854775808 ≤ n ∧ n ≤ 9223372036854775807 ∧ -9223372036854775808 ≤ wn ∧ wn ≤ 9223372036854775807

set_option maxRecDepth 100000 in
set_option maxHeartbeats 4000000 in
theorem law_playsA (hsum : SumSaid sumSpecRef) (ao : Option Addr) (len cap : Nat) (w : World) (hG : Glob w) (hv : ScriptAtA w ao len) (hlen : len < 9223372036854775808) :
    Calls Tryz.prog 6 #[.slice ao len cap, .int .i64 1, .int .i64 10] w fun r w' => r = .returned (.bool true) ∧ Below w.heap.size w w' := by
  go_enter Tryz.func6, Tryz.ntmps6
  go_wp2_with (first | (go_at_call 7; refine (ref_newSummer _).mono ?_; rintro _ w1 ⟨gs, rfl, hS1, hgs, hb1⟩; have G : Ground w1 gs := ⟨hS1, hG.below hb1 (Nat.le_refl _)⟩) | (go_at_call 8; have P1 : PlayAt w w1.heap.size gs (w1.alloc (.cells [.pointer (some ⟨gs, 0, none⟩), .slice none 0 0].toArray 30)) := ⟨(Row.made w1 _ _).cell.trans rfl, (Row.made w1 _ _).cell.trans rfl, hS1.below ((Below.refl _ _).alloc (Nat.le_refl _) _) (Nat.le_refl _), (hG.below hb1 (Nat.le_refl _)).alloc _, hb1.alloc hb1.size _⟩; have F1 : FedAt w1 w1.heap.size gs [] (w1.alloc (.cells [.pointer (some ⟨gs, 0, none⟩), .slice none 0 0].toArray 30)) := FedAt.made ((Below.refl _ _).alloc (Nat.le_refl _) _) (Row.made w1 _ _); refine (law_sums1 hsum 0 0 _ _ _ _ gs _ P1.c0 P1.summ P1.glob).mono ?_; rintro _ w2 ⟨rfl, hb2⟩; have F2 := F1.below hb2; clear hb2 P1 F1) | (go_at_call 9; refine (law_made w1 w2 w1.heap.size gs [] 0 0 _ _ _ (Nat.le_refl _) F2 (by decide) (by decide)).mono ?_; rintro _ w3 ⟨rfl, qs, F3, hq⟩; rw [List.nil_append] at F3; have hq1 : qs.length = 1 := hq; clear hq F2; obtain ⟨aq, cq, c1⟩ := F3.slice; rw [hq1] at c1))
  go_loopw [10] (fun c wr => ∃ (i : Nat) (ps : List (Nat × Nat × Dv)), i ≤ len ∧ c = .int .i64 i ∧ FedAt w1 w1.heap.size gs ps wr ∧ 0 < ps.length ∧ ps.length ≤ 20) (fun c _ => len - (intOf c).toNat)
  case atStart => exact ⟨0, qs, by omega, rfl, F3, by omega, by omega⟩
  case round =>
    clear F3 hq1 c1
    obtain ⟨i, ps, hi, rfl, F, hp0, hp20⟩ := hrel
    obtain ⟨aq', cq', c1⟩ := F.slice
    by_cases hlt : i < len
    · have hlt' : (i : Int) < len := by omega
      by_cases h20 : ps.length < 20
      · have h20' : (ps.length : Int) < 20 := by omega
        obtain ⟨b, off, kd, wn, n, s, t, K1, K2, m, rfl, hb, hR0, f1, f2, hs, hn0, hn1, hm0, hm1⟩ := hv i hlt
        have hR : wr.rangeAt b (off + i * 20) (opCells kd wn n s t (restK K1 K2 m)) := range_below hR0 (hb1.trans (F.base.mono hb1.size)) hb
        have kc : wr.cell? ⟨b, off + i * 20, none⟩ = some (.int .i64 kd) := hR 0 _ rfl
        obtain ⟨fs, hu⟩ := underOp
        have hcl : (opCells kd wn n s t (restK K1 K2 m)).length = 20 := by simp [opCells, restK, Kep.cells]
        obtain ⟨cs, HC⟩ : ∃ cs, Hid (cs = opCells kd wn n s t (restK K1 K2 m)) := ⟨_, rfl⟩
        rw [← HC.out] at hR hcl
        by_cases h4 : 1 ≤ kd
        · by_cases h7 : kd ≤ 10
          · go_wp2_with (first | (refine wpList_load_mid rfl 36 _ rfl b (off + i * 20) rfl cs _ hR hu rfl (by rw [sizeOp, hcl]) ?_; go_simp) | (go_at_call 10; rw [HC.out]; refine (law_astep hsum w1 _ w1.heap.size gs ps kd wn n s t K1 K2 m G (Nat.le_refl _) F hp0 (by omega) hs f1 f2 hn0 hn1 hm0 hm1 h4 h7).mono ?_; rintro _ w4 ⟨rfl, qs4, F4, hq40, hq41⟩; rw [← HC.out]))
            exact ⟨⟨i + 1, qs4, by omega, by go_num, F4, by omega, by omega⟩, by simp [intOf]; omega⟩
          · go_wp2
            exact ⟨⟨i + 1, ps, by omega, by go_num, F, hp0, hp20⟩, by simp [intOf]; omega⟩
        · go_wp2
          exact ⟨⟨i + 1, ps, by omega, by go_num, F, hp0, hp20⟩, by simp [intOf]; omega⟩
      · have h20' : ¬ (ps.length : Int) < 20 := by omega
        go_wp2
        go_loopw [13] (fun c ws => ∃ (j : Nat) (qs : List (Nat × Nat × Dv)), j ≤ qs.length ∧ qs.length ≤ 20 ∧ c = .int .i64 j ∧ FedAt w1 w1.heap.size gs qs ws) (fun c _ => 20 - (intOf c).toNat)
        case atStart => exact ⟨0, ps, Nat.zero_le _, hp20, rfl, F⟩
        case round =>
          clear F c1 hp0 hp20
          obtain ⟨j, qs, hj, hq20, rfl, FQ⟩ := hrel
          by_cases hjl : j < qs.length
          · have hjl' : (j : Int) < qs.length := by omega
            have hj0 : (0 : Int) ≤ j := by omega
            obtain ⟨vb, cv, x, y, d, pre, post, hps, hrow, -, hcx, hcy⟩ := FQ.pick j hjl
            have D := (FQ.dev (x, y, d) (by rw [hps]; simp)).1
            have cq : wr.cell? ⟨w1.heap.size, 1, none⟩ = some (.slice (some ⟨vb, 0, none⟩) qs.length cv) := hrow.cell.trans rfl
            have HPS : Hid (qs = pre ++ (x, y, d) :: post) := hps
            have HLQ : Hid (qs.length = (pre ++ (x, y, d) :: post).length) := by show _ = _; rw [← hps]
            clear hps hrow
            go_wp2_with (go_at_call 11; refine (law_ask7 _ gs x y d 0 0 _ _ _ D).mono ?_; rintro _ w5 ⟨rfl, d', D5, t5⟩)
            rw [HPS.out] at FQ
            have e5 : (pre ++ (x, y, d') :: post).length = qs.length := by rw [HLQ.out]; simp
            exact ⟨⟨j + 1, pre ++ (x, y, d') :: post, by omega, by omega, by go_num, FQ.asked t5 D5⟩, by simp [intOf]; omega⟩
          · have hjl' : ¬ (j : Int) < qs.length := by omega
            obtain ⟨aj, cj, cq⟩ := FQ.slice
            go_wp2
            go_ret
            exact ⟨rfl, hb1.trans (FQ.base.mono hb1.size)⟩
    · have hlt' : ¬ (i : Int) < len := by omega
      go_wp2
      go_loopw [13] (fun c ws => ∃ (j : Nat) (qs : List (Nat × Nat × Dv)), j ≤ qs.length ∧ qs.length ≤ 20 ∧ c = .int .i64 j ∧ FedAt w1 w1.heap.size gs qs ws) (fun c _ => 20 - (intOf c).toNat)
      case atStart => exact ⟨0, ps, Nat.zero_le _, hp20, rfl, F⟩
      case round =>
        clear F c1 hp0 hp20
        obtain ⟨j, qs, hj, hq20, rfl, FQ⟩ := hrel
        by_cases hjl : j < qs.length
        · have hjl' : (j : Int) < qs.length := by omega
          have hj0 : (0 : Int) ≤ j := by omega
          obtain ⟨vb, cv, x, y, d, pre, post, hps, hrow, -, hcx, hcy⟩ := FQ.pick j hjl
          have D := (FQ.dev (x, y, d) (by rw [hps]; simp)).1
          have cq : wr.cell? ⟨w1.heap.size, 1, none⟩ = some (.slice (some ⟨vb, 0, none⟩) qs.length cv) := hrow.cell.trans rfl
          have HPS : Hid (qs = pre ++ (x, y, d) :: post) := hps
          have HLQ : Hid (qs.length = (pre ++ (x, y, d) :: post).length) := by show _ = _; rw [← hps]
          clear hps hrow
          go_wp2_with (go_at_call 11; refine (law_ask7 _ gs x y d 0 0 _ _ _ D).mono ?_; rintro _ w5 ⟨rfl, d', D5, t5⟩)
          rw [HPS.out] at FQ
          have e5 : (pre ++ (x, y, d') :: post).length = qs.length := by rw [HLQ.out]; simp
          exact ⟨⟨j + 1, pre ++ (x, y, d') :: post, by omega, by omega, by go_num, FQ.asked t5 D5⟩, by simp [intOf]; omega⟩
        · have hjl' : ¬ (j : Int) < qs.length := by omega
          obtain ⟨aj, cj, cq⟩ := FQ.slice
          go_wp2
          go_ret
          exact ⟨rfl, hb1.trans (FQ.base.mono hb1.size)⟩

theorem law_All (hsum : SumSaid sumSpecRef) (ao : Option Addr) (len cap : Nat) (w : World) (hG : Glob w) (hv : ScriptAtA w ao len) (hlen : len < 9223372036854775808) :
    Calls Tryz.prog 5 #[.slice ao len cap] w fun r w' => r = .returned (.bool true) ∧ Below w.heap.size w w' := by
  go_enter Tryz.func5, Tryz.ntmps5
  go_wp2_with (first | (go_at_call 6; refine (law_playsA hsum ao len cap _ hG hv hlen).mono ?_; rintro _ w2 ⟨rfl, hb2⟩))
  go_ret
  exact ⟨rfl, hb2⟩
end Go.Proofs.YtaokemapkgggoaaGreatDoor

namespace Go.Proofs.YtaokemapkgggoaaGreatDoor
open Go.ChangeShapes Go.WideShapes Go.ChangeAt Go.RowKit

theorem own : ownKnob Tryz.prog.godebug = none := by kernel_rfl
theorem laidOut : laidOutB Tryz.prog = true := by kernel_rfl
theorem gStart : Tryz.prog.globalNamed "warden/warden.startWords" = some 0 := by kernel_rfl
theorem gRoot : Tryz.prog.globalNamed "warden/warden.rootWords" = some 1 := by kernel_rfl
theorem gStartT : (Tryz.prog.globals[0]?).map (·.type) = some 76 := by kernel_rfl
theorem gRootT : (Tryz.prog.globals[1]?).map (·.type) = some 141 := by kernel_rfl
theorem underS : Tryz.prog.underlying 76 = some (.array 8 75) := by kernel_rfl
theorem underR : Tryz.prog.underlying 141 = some (.array 64 75) := by kernel_rfl
theorem under32 : Tryz.prog.underlying 75 = some (.int .u32) := by kernel_rfl
theorem cells32 : Tryz.prog.cellsOf 75 = 1 := by kernel_rfl
theorem cellsS : Tryz.prog.cellsOf 76 = 8 := by kernel_rfl
theorem cellsR : Tryz.prog.cellsOf 141 = 64 := by kernel_rfl
theorem underB : Tryz.prog.underlying 4 = some .bool := by kernel_rfl
theorem underScript : Tryz.prog.underlying 22 = some (.slice 36) := by kernel_rfl
theorem cellsOp : Tryz.prog.cellsOf 36 = 20 := by kernel_rfl

theorem tabIs_of_second {P : Program} {W : World} {x : String × DataW Unit} {name : String} {k : IntKind} {zs : List Int} {rest : List (String × DataW Unit)} {g : Nat} {t e : TypeId} {n : Nat}
    (hg : P.globalNamed name = some g) (hty : (P.globals[g]?).map (·.type) = some t) (ht : P.underlying t = some (.array n e)) (he : P.underlying e = some (.int k)) (hce : P.cellsOf e = 1) (hct : P.cellsOf t = n)
    (h : laidMet P (x :: (name, Lib.tabData k zs) :: rest) W) : Lib.TabIs P W name k zs := by
  obtain ⟨ps, ⟨_, _, _, _, _, _, _, _, _, _, h2, _⟩, _⟩ := h
  obtain ⟨g', t', cs, fuel, p, q, hg', ht', hvar, hd, _, _⟩ := h2
  obtain rfl := Option.some.inj (hg.symm.trans hg')
  obtain rfl := Option.some.inj (hty.symm.trans ht')
  unfold Lib.TabIs
  rw [hvar, ← Lib.cells_of_tab ht he hce hct hd]

theorem glob_of_laid {W : World} (h : laidMetH Tryz.prog Rows.allUptoRow.laid W) : Glob W :=
  have h1 : Lib.TabIs Tryz.prog W "warden/warden.startWords" .u32 H0 := Lib.tabIs_of_head (rest := [("warden/warden.rootWords", Lib.tabData .u32 K0)]) gStart gStartT underS under32 cells32 cellsS h
  have h2 : Lib.TabIs Tryz.prog W "warden/warden.rootWords" .u32 K0 := tabIs_of_second (x := ("warden/warden.startWords", Lib.tabData .u32 H0)) (rest := []) gRoot gRootT underR under32 cells32 cellsR h
  ⟨fun i hi => h1.cell gStart i hi, fun i hi => h2.cell gRoot i hi⟩

def fieldOfT (u : Option TypeDesc) (j : Nat) : Option (Nat × TypeId) :=
  match u with
  | some (.struct fs) => (fs[j]?).map fun f => (f.offset, f.type)
  | _ => none
theorem field_of {u : Option TypeDesc} {fs : Array Field} (hu : u = some (.struct fs)) {j off : Nat} {t : TypeId} (h : fieldOfT u j = some (off, t)) : ∃ f, fs[j]? = some f ∧ f.offset = off ∧ f.type = t := by
  subst hu
  obtain ⟨f, hf, he⟩ := Option.map_eq_some_iff.1 h
  simp only [Prod.mk.injEq] at he
  exact ⟨f, hf, he.1, he.2⟩
theorem fld0 : fieldOfT (Tryz.prog.underlying 36) 0 = some (0, 3) := by kernel_rfl
theorem fld1 : fieldOfT (Tryz.prog.underlying 36) 1 = some (1, 3) := by kernel_rfl
theorem fld2 : fieldOfT (Tryz.prog.underlying 36) 2 = some (2, 3) := by kernel_rfl
theorem fld3 : fieldOfT (Tryz.prog.underlying 36) 3 = some (3, 9) := by kernel_rfl
theorem fld4 : fieldOfT (Tryz.prog.underlying 36) 4 = some (4, 9) := by kernel_rfl
theorem fld5 : fieldOfT (Tryz.prog.underlying 36) 5 = some (5, 34) := by kernel_rfl
theorem fld6 : fieldOfT (Tryz.prog.underlying 36) 6 = some (12, 34) := by kernel_rfl
theorem fld7 : fieldOfT (Tryz.prog.underlying 36) 7 = some (19, 4) := by kernel_rfl
theorem fk0 : fieldOfT (Tryz.prog.underlying 34) 0 = some (0, 3) := by kernel_rfl
theorem fk1 : fieldOfT (Tryz.prog.underlying 34) 1 = some (1, 3) := by kernel_rfl
theorem fk2 : fieldOfT (Tryz.prog.underlying 34) 2 = some (2, 9) := by kernel_rfl
theorem fk3 : fieldOfT (Tryz.prog.underlying 34) 3 = some (3, 32) := by kernel_rfl
theorem cellsKept : Tryz.prog.cellsOf 34 = 7 := by kernel_rfl
theorem cells4s : Tryz.prog.cellsOf 32 = 4 := by kernel_rfl
theorem under4s : Tryz.prog.underlying 32 = some (.array 4 9) := by kernel_rfl
theorem cellsB : Tryz.prog.cellsOf 4 = 1 := by kernel_rfl
theorem underI : Tryz.prog.underlying 3 = some (.int .i64) := by kernel_rfl
theorem cellsI : Tryz.prog.cellsOf 3 = 1 := by kernel_rfl
theorem cellsStr : Tryz.prog.cellsOf 9 = 1 := by kernel_rfl

theorem cons_of {cs : List Value} {n : Nat} (h : cs.length = n + 1) : ∃ a l, cs = a :: l ∧ l.length = n := by
  cases cs with
  | nil => simp at h
  | cons a l => exact ⟨a, l, rfl, by simpa using h⟩
theorem one_of {cs : List Value} {j : Nat} {v : Value} (h : (cs.drop j).take 1 = [v]) : cs[j]? = some v := by
  have h1 := congrArg (·[0]?) h
  simpa [List.getElem?_take, List.getElem?_drop] using h1

theorem bulk_part {H : Type} {d : DataW H} {l : List (DataW H)} (h : d ∈ l) : Rows.uptoBulk d ≤ Rows.uptoBulkAll l := by
  induction l with
  | nil => cases h
  | cons x r ih =>
    simp only [Rows.uptoBulkAll]
    cases List.mem_cons.1 h with
    | inl e => subst e; omega
    | inr e => have := ih e; omega
theorem bulk_string {H : Type} (bytes : List UInt8) : Rows.uptoBulk (DataW.lit (H := H) (.string bytes)) = bytes.length + 1 := by
  simp [Rows.uptoBulk]
theorem bulk_agg {H : Type} (parts : List (DataW H)) : Rows.uptoBulk (DataW.agg parts) = Rows.uptoBulkAll parts + 1 := by
  simp [Rows.uptoBulk]
theorem bulk_slice {H : Type} (elems spare : List (DataW H)) : Rows.uptoBulk (DataW.slice elems spare) = Rows.uptoBulkAll elems + Rows.uptoBulkAll spare + 1 := by
  simp [Rows.uptoBulk]
theorem bulk_one {H : Type} (d : DataW H) : Rows.uptoBulkAll [d] = Rows.uptoBulk d := by
  simp [Rows.uptoBulkAll]

section
variable {H : Type} {enc : TypeId × Value → H} {W : World} {base : Nat} {sp : Nat → Bool} {held : Bool}
theorem int_at {fs : Array Field} {cs : List Value} {n : Nat} {xs : List (DataW H × List MemPlace)} (hxl : xs.length = fs.size)
    (hf : ∀ (i : Nat) (f : Field), fs[i]? = some f → DataW.trod enc Tryz.prog W base sp held n f.type ((cs.drop f.offset).take (Tryz.prog.cellsOf f.type)) = xs[i]?)
    {j : Nat} (h : ∃ f, fs[j]? = some f ∧ f.offset = j ∧ f.type = 3) : ∃ z, cs[j]? = some (.int .i64 z) ∧ -9223372036854775808 ≤ z ∧ z ≤ 9223372036854775807 := by
  obtain ⟨f, h1, h2, h3⟩ := h
  have hj : j < xs.length := by rw [hxl]; exact (Array.getElem?_eq_some_iff.1 h1).1
  have g := hf j f h1
  rw [h2, h3, cellsI, List.getElem?_eq_getElem hj] at g
  obtain ⟨z, hz, _, hw⟩ := DataW.trod_int underI g
  refine ⟨z, one_of hz, ?_⟩
  have e1 : IntKind.i64.min = -9223372036854775808 := rfl
  have e2 : IntKind.i64.max = 9223372036854775807 := rfl
  have : -9223372036854775808 ≤ z ∧ z ≤ 9223372036854775807 := by simpa [Lit.wf, e1, e2] using hw
  exact this
theorem str_field {fs : Array Field} {cs : List Value} {n : Nat} {xs : List (DataW H × List MemPlace)} (hxl : xs.length = fs.size)
    (hf : ∀ (i : Nat) (f : Field), fs[i]? = some f → DataW.trod enc Tryz.prog W base sp held n f.type ((cs.drop f.offset).take (Tryz.prog.cellsOf f.type)) = xs[i]?)
    {j : Nat} (h : ∃ f, fs[j]? = some f ∧ f.offset = j ∧ f.type = 9) : ∃ z, cs[j]? = some (.string z) ∧ z.size ≤ Rows.uptoBulkAll (xs.map (·.1)) := by
  obtain ⟨f, h1, h2, h3⟩ := h
  have hj : j < xs.length := by rw [hxl]; exact (Array.getElem?_eq_some_iff.1 h1).1
  have g := hf j f h1
  rw [h2, h3, cellsStr, List.getElem?_eq_getElem hj] at g
  obtain ⟨z, hz, hx, _⟩ := DataW.trod_string under_str g
  refine ⟨z, one_of hz, ?_⟩
  have hmem : DataW.lit (.string z.data.toList) ∈ xs.map (·.1) := List.mem_map.2 ⟨xs[j], List.getElem_mem hj, by rw [hx]⟩
  have hp := bulk_part hmem
  rw [bulk_string] at hp
  have hl : z.data.toList.length = z.size := by rw [Array.length_toList]; rfl
  omega

theorem kept_of {n : Nat} {cs : List Value} {y : DataW H × List MemPlace} (h : DataW.trod enc Tryz.prog W base sp held n 34 cs = some y) (hk : Rows.uptoBulk y.1 ≤ 1048576) : ∃ K : Kep, cs = K.cells ∧ K.fair := by
  obtain ⟨fs, hu⟩ := underKept
  obtain ⟨xs, k, _, hy, hlen, hxl, hf⟩ := DataW.trod_struct hu h
  rw [cellsKept] at hlen
  rw [hy, bulk_agg] at hk
  obtain ⟨num, h0, n0, n1⟩ := int_at hxl hf (field_of hu fk0)
  obtain ⟨tr, h1, t0, t1⟩ := int_at hxl hf (field_of hu fk1)
  obtain ⟨pin, h2, hp⟩ := str_field hxl hf (field_of hu fk2)
  obtain ⟨f, g1, g2, g3⟩ := field_of hu fk3
  have hj : 3 < xs.length := by rw [hxl]; exact (Array.getElem?_eq_some_iff.1 g1).1
  have g := hf 3 f g1
  rw [g2, g3, cells4s, List.getElem?_eq_getElem hj] at g
  have hb3 : Rows.uptoBulk (xs[3]).1 ≤ 1048576 := by
    have := bulk_part (l := xs.map (·.1)) (List.mem_map.2 ⟨xs[3], List.getElem_mem hj, rfl⟩)
    omega
  clear hf hxl h hu
  obtain ⟨c0, l0, e0, m0⟩ := cons_of (n := 6) hlen
  obtain ⟨c1, l1, e1, m1⟩ := cons_of (n := 5) m0
  obtain ⟨c2, l2, e2, m2⟩ := cons_of (n := 4) m1
  obtain ⟨c3, l3, e3, m3⟩ := cons_of (n := 3) m2
  obtain ⟨c4, l4, e4, m4⟩ := cons_of (n := 2) m3
  obtain ⟨c5, l5, e5, m5⟩ := cons_of (n := 1) m4
  obtain ⟨c6, l6, e6, m6⟩ := cons_of (n := 0) m5
  obtain rfl := List.length_eq_zero_iff.1 m6
  subst e6 e5 e4 e3 e2 e1 e0
  simp only [List.getElem?_cons_zero, List.getElem?_cons_succ, Option.some.injEq] at h0 h1 h2
  subst h0 h1 h2
  obtain ⟨y0, y1, y2, y3, _, hx, q0, q1, q2, q3⟩ := trod_array4 under4s cellsStr (show DataW.trod enc Tryz.prog W base sp held k 32 [c3, c4, c5, c6] = some xs[3] from g)
  obtain ⟨z0, r0, x0, _⟩ := DataW.trod_string under_str q0
  obtain ⟨z1, r1, x1, _⟩ := DataW.trod_string under_str q1
  obtain ⟨z2, r2, x2, _⟩ := DataW.trod_string under_str q2
  obtain ⟨z3, r3, x3, _⟩ := DataW.trod_string under_str q3
  simp only [List.cons.injEq, and_true] at r0 r1 r2 r3
  subst r0 r1 r2 r3
  rw [hx, bulk_agg, x0, x1, x2, x3] at hb3
  simp only [Rows.uptoBulkAll, bulk_string] at hb3
  have hl := fun z : ByteArray => (show z.data.toList.length = z.size by rw [Array.length_toList]; rfl)
  rw [hl, hl, hl, hl] at hb3
  exact ⟨⟨num, tr, pin, z0, z1, z2, z3⟩, rfl, ⟨n0, n1, t0, t1, by show pin.size < 10000000; omega, by show z0.size < 10000000; omega, by show z1.size < 10000000; omega, by show z2.size < 10000000; omega, by show z3.size < 10000000; omega⟩⟩

theorem op_of {n : Nat} {cs : List Value} {y : DataW H × List MemPlace} (h : DataW.trod enc Tryz.prog W base sp held n 36 cs = some y) (hk : Rows.uptoBulk y.1 ≤ 1048576) :
    ∃ kd wn m s t K1 K2 b, cs = opCells kd wn m s t (restK K1 K2 b) ∧ K1.fair ∧ K2.fair ∧ s.size ≤ Rows.uptoBulk y.1 ∧ -9223372036854775808 ≤ m ∧ m ≤ 9223372036854775807 ∧ -9223372036854775808 ≤ wn ∧ wn ≤ 9223372036854775807 := by
  obtain ⟨fs, hu⟩ := underOp
  obtain ⟨xs, k, _, hy, hlen, hxl, hf⟩ := DataW.trod_struct hu h
  rw [cellsOp] at hlen
  obtain ⟨kd, h0, _⟩ := int_at hxl hf (field_of hu fld0)
  obtain ⟨wn, h1, hw0, hw1⟩ := int_at hxl hf (field_of hu fld1)
  obtain ⟨m, h2, hm0, hm1⟩ := int_at hxl hf (field_of hu fld2)
  obtain ⟨s, h3, hs⟩ := str_field hxl hf (field_of hu fld3)
  obtain ⟨t, h4, _⟩ := str_field hxl hf (field_of hu fld4)
  have hb : s.size ≤ Rows.uptoBulk y.1 := by rw [hy, bulk_agg]; omega
  have hpart : ∀ j (hj : j < xs.length), Rows.uptoBulk (xs[j]).1 ≤ 1048576 := by
    intro j hj
    have := bulk_part (l := xs.map (·.1)) (List.mem_map.2 ⟨xs[j], List.getElem_mem hj, rfl⟩)
    rw [hy, bulk_agg] at hk
    omega
  obtain ⟨f5, a1, a2, a3⟩ := field_of hu fld5
  have j5 : 5 < xs.length := by rw [hxl]; exact (Array.getElem?_eq_some_iff.1 a1).1
  have g5 := hf 5 f5 a1
  rw [a2, a3, cellsKept, List.getElem?_eq_getElem j5] at g5
  obtain ⟨K1, k1, f1⟩ := kept_of g5 (hpart 5 j5)
  obtain ⟨f6, b1, b2, b3⟩ := field_of hu fld6
  have j6 : 6 < xs.length := by rw [hxl]; exact (Array.getElem?_eq_some_iff.1 b1).1
  have g6 := hf 6 f6 b1
  rw [b2, b3, cellsKept, List.getElem?_eq_getElem j6] at g6
  obtain ⟨K2, k2, f2⟩ := kept_of g6 (hpart 6 j6)
  obtain ⟨f7, d1, d2, d3⟩ := field_of hu fld7
  have j7 : 7 < xs.length := by rw [hxl]; exact (Array.getElem?_eq_some_iff.1 d1).1
  have g7 := hf 7 f7 d1
  rw [d2, d3, cellsB, List.getElem?_eq_getElem j7] at g7
  obtain ⟨mb, k3, _⟩ := DataW.trod_bool underB g7
  clear hf hxl h hu g5 g6 g7
  obtain ⟨c0, l0, e0, n0⟩ := cons_of (n := 19) hlen
  obtain ⟨c1, l1, e1, n1⟩ := cons_of (n := 18) n0
  obtain ⟨c2, l2, e2, n2⟩ := cons_of (n := 17) n1
  obtain ⟨c3, l3, e3, n3⟩ := cons_of (n := 16) n2
  obtain ⟨c4, l4, e4, n4⟩ := cons_of (n := 15) n3
  subst e4 e3 e2 e1 e0
  simp only [List.getElem?_cons_zero, List.getElem?_cons_succ, Option.some.injEq] at h0 h1 h2 h3 h4
  simp only [List.drop_succ_cons, List.drop_zero] at k1 k2 k3
  have hl4 : l4 = K1.cells ++ K2.cells ++ [.bool mb] := by
    have q3 : l4.drop 14 = [.bool mb] := by
      rw [← k3]
      exact (List.take_of_length_le (by rw [List.length_drop, n4]; omega)).symm
    have q2 : l4.drop 7 = K2.cells ++ [.bool mb] := by
      rw [← List.take_append_drop 7 (l4.drop 7), List.drop_drop, k2, q3]
    rw [← List.take_append_drop 7 l4, k1, q2, List.append_assoc]
  exact ⟨kd, wn, m, s, t, K1, K2, mb, by rw [h0, h1, h2, h3, h4, hl4]; rfl, f1, f2, hb, hm0, hm1, hw0, hw1⟩

/-- a script that came in, nil or not, as the walk wants it -/
theorem open_script {ao : Option Addr} {len cap fuel : Nat} {x : DataW H × List MemPlace} (hf : DataW.trod enc Tryz.prog W 0 (fun _ => true) true fuel 22 [.slice ao len cap] = some x) (hk : Rows.uptoBulk x.1 ≤ 1048576) :
    ScriptAtA W ao len ∧ len ≤ maxLen := by
  rcases Deep.open_slice underScript hf with ⟨hcs, _⟩ | ⟨a, len', cap', m, n, D, Pl, hcs, _, hl, hm, hmm, hxx, hx⟩
  · simp at hcs
    obtain ⟨rfl, rfl, rfl⟩ := hcs
    exact ⟨fun i hi => absurd hi (by omega), Nat.zero_le _⟩
  · simp at hcs
    obtain ⟨rfl, rfl, rfl⟩ := hcs
    refine ⟨fun i hi => ?_, by omega⟩
    obtain ⟨cs, h1, h2⟩ := hx i (by rw [hmm]; simp; omega)
    rw [cellsOp] at h1
    obtain ⟨_, hlen, hcell⟩ := World.cells?_some h1
    have hbk : ∀ j, j < len → Rows.uptoBulk (D j) ≤ 1048576 := by
      intro j hj
      have hk' := hk
      rw [hxx] at hk'
      simp only at hk'
      rw [bulk_slice] at hk'
      have hmem : D j ∈ (List.range len).map D := List.mem_map.2 ⟨j, List.mem_range.2 hj, rfl⟩
      have := bulk_part hmem
      omega
    obtain ⟨kd, wn, m', s, t, K1, K2, mb, rfl, f1, f2, hsb, hb1, hb2, hb3, hb4⟩ := op_of h2 (hbk i hi)
    have hsz : s.size ≤ 1500000 := by
      have := hbk i hi
      simp only at hsb
      omega
    have hspot : a.spot = none := by
      obtain ⟨cs0, h10, h20⟩ := hx 0 (by rw [hmm]; simp; omega)
      rw [cellsOp] at h10
      obtain ⟨_, _, hcell0⟩ := World.cells?_some h10
      obtain ⟨kd0, _, _, _, _, _, _, _, rfl, _⟩ := op_of h20 (hbk 0 (by omega))
      have h3 := (hcell0 0 (by omega)).trans (rfl : _ = some (Value.int .i64 kd0))
      rw [Deep.add_add] at h3
      exact World.cell?_spot h3
    obtain ⟨b, off, spot⟩ := a
    simp only at hspot
    subst hspot
    have hc0 := hcell 0 (by omega)
    rw [Deep.add_add] at hc0
    refine ⟨b, off, kd, wn, m', s, t, K1, K2, mb, rfl, ?_, ?_, f1, f2, hsz, hb1, hb2, hb3, hb4⟩
    · have := World.block_lt_of_cell? _ _ (hc0.trans rfl : W.cell? _ = some (.int .i64 kd))
      rw [add_plain] at this
      exact this
    · intro j v hv
      have hj : j < 20 := by rw [← hlen]; exact (List.getElem?_eq_some_iff.1 hv).1
      have h3 := hcell j hj
      rw [Deep.add_add, add_plain] at h3
      rw [Nat.add_assoc, h3, hv]
end

set_option maxRecDepth 100000 in
theorem contract (hsum : SumSaid sumSpecRef) (H : Type) (enc : TypeId × Value → H) (W : World) (base : Nat) (args : Array Value) (ds gs : List (DataW H)) (before : List MemPlace)
    (hval : ∀ (j : Nat) t v, Tryz.f5.params[j]? = some t → args[j]? = some v → Value.okWide Tryz.prog W .any base t v)
    (hW : DataW.Whole enc Tryz.prog Tryz.f5.params.toList Rows.allSpec.vars false W args.toList ds gs before) (hL : laidMetH Tryz.prog Rows.allUptoRow.laid W) (hk : Rows.uptoSmall H (ds ++ gs) = true) :
    Calls Tryz.prog 5 args W fun e W' => ∃ v, e = .returned v ∧ Rows.allSpec.post enc Tryz.prog Tryz.f5 false true false false W args v W' := by
  have hW' := hW
  obtain ⟨p, q, hA0, hV, rfl, _, _⟩ := hW
  have hA : DataW.TrodAll enc Tryz.prog W 0 (fun _ => true) true Tryz.f5.params.toList args.toList ds p := hA0
  rw [Tryz.params5] at hA hval
  obtain ⟨v0, d0, rfl, rfl, h0⟩ := trodAll_one hA
  obtain ⟨rfl, rfl⟩ := trodVars_none hV
  obtain ⟨a0, len, cap, rfl⟩ := okWide_slice underScript (hval 0 22 v0 rfl rfl)
  have h0k := h0
  obtain ⟨fuel, hf⟩ := h0
  clear hA0
  simp only [List.append_nil] at hW' hk
  have hk2 : Rows.uptoBulkAll [d0] ≤ 1048576 := of_decide_eq_true hk
  rw [bulk_one] at hk2
  have hlt : ∀ x ∈ p, x.block < W.heap.size := fun x hx => by simpa using hW'.lt x hx
  obtain ⟨hs, hm⟩ := open_script hf hk2
  have hlen : len < 9223372036854775808 := Nat.lt_of_le_of_lt hm (by decide)
  refine (law_All hsum a0 len cap W (glob_of_laid hL) hs hlen).mono fun e W' ⟨he, hb⟩ => ?_
  subst he
  refine ⟨_, rfl, _, _, _, [], _, [], hW', ?_, trodAll_mk1 (Below.trod laidOut (by kernel_rfl) (of_decide_eq_true (by kernel_rfl)) h0k hb hlt), rfl, hb.frame _, fun h => by cases h⟩
  exact trodAll_mk1 (shut_bool underB _)

/-- a world for the witness: the settled one, the two tables holding what their initialisers lay -/
def laidWorld (p : Program) (os : Os) : World :=
  { World.holding p os ⟨#[], #[], []⟩ with heap := (((World.holding p os ⟨#[], #[], []⟩).heap.modify 0 (fun
      | .cells _ t frozen => .cells (u32s H0).toArray t frozen
      | o => o)).modify 1 (fun
      | .cells _ t frozen => .cells (u32s K0).toArray t frozen
      | o => o)) }
theorem laid_met (os : Os) : laidMet Tryz.prog Rows.allUptoRow.laid ((laidWorld Tryz.prog os).forCall (fun _ _ => 0) ⟨#[], #[.slice none 0 0], []⟩).memory :=
  laidMet_of_run' 8 (by kernel_rfl) (by kernel_rfl)
theorem reads (os : Os) {H : Type} (enc : TypeId × Value → H) : ∃ places, DataW.whole enc Tryz.prog ((laidWorld Tryz.prog os).forCall (fun _ _ => 0) ⟨#[], #[.slice none 0 0], []⟩).memory Tryz.f5.params.toList Rows.allSpec.vars false #[Value.slice none 0 0].toList 8 = some ([.nil], [], places) :=
  ⟨[], by kernel_rfl⟩

set_option maxRecDepth 100000 in
theorem lifted (hsum : SumSaid sumSpecRef) (os : Os) (started : os.Started) (H : Type) (enc : TypeId × Value → H) (F : Stop.Interp) :
    ReturnsInHanded {} Tryz.checked os 5 .any ((Rows.OpenSpec.upto Rows.allSpec).preRow enc Tryz.prog Tryz.f5 Rows.allUptoRow.domain false Rows.allUptoRow.laid) (((Rows.OpenSpec.upto Rows.allSpec).at F).post enc Tryz.prog Tryz.f5 false true false false) := by
  obtain ⟨places, hx⟩ := reads os enc
  refine returnsInHanded_of_row (C := Tryz.checked) (s := Rows.OpenSpec.upto Rows.allSpec) own started (by kernel_rfl) Tryz.func5
    (witness_row_at (enc := enc) (C := Tryz.checked) false (laidWorld Tryz.prog os) #[.slice none 0 0] rfl (by kernel_rfl) (by kernel_rfl) (by kernel_rfl)
      (OpenSpec.preRow_of_cond 8 hx (by kernel_rfl) (fun k hk => by cases hk; kernel_rfl) (by kernel_rfl) (laid_met os))) ?_
  intro W base args ds gs before hval hW _ hcond _ hL _ _
  exact contract hsum H enc W base args ds gs before hval hW hL (hcond _ rfl)

theorem said (hsum : SumSaid sumSpecRef) : Rows.AllUptoSaid :=
  OpenClaim.holds_of_cond 5 Tryz.f5 rfl rfl rfl rfl rfl rfl rfl ⟨rfl, rfl, rfl, rfl, rfl⟩ rfl rfl rfl rfl rfl (by kernel_rfl) Tryz.func5 (by kernel_rfl)
    (of_decide_eq_true (by kernel_rfl)) (by unfold Func.isWrapper; first | (rw [if_pos (by decide +kernel)]; kernel_rfl) | (rw [if_neg (by decide +kernel)]; exact ⟨rfl, rfl⟩))
    (fun os started H enc _ F => by rw [OpenClaim.pre_eq_preRow]; exact lifted hsum os started H enc F)

theorem plain (f : FuncId) (fn : Func) (hf : Tryz.pinned.checked.prog.funcNamed "warden/wardenlaw.All" = some f) (hfn : Tryz.pinned.checked.prog.funcs[f]? = some fn) :
    true = Tryz.pinned.checked.prog.looks [] ∧ ∀ (j : Nat) t, fn.params[j]? = some t → Tryz.pinned.checked.prog.wantsStandIn t = false := by
  obtain rfl : f = 5 := Option.some.inj ((show Tryz.prog.funcNamed "warden/wardenlaw.All" = some 5 by kernel_rfl).symm.trans hf) |>.symm
  obtain rfl : fn = Tryz.f5 := (Option.some.inj (Tryz.func5.symm.trans hfn)).symm
  refine ⟨by kernel_rfl, fun j t ht => ?_⟩
  rw [Tryz.params5] at ht
  obtain rfl : t = 22 := by simpa using Array.mem_of_getElem? ht
  exact (show Tryz.prog.wantsStandIn 22 = false by kernel_rfl)

theorem card (hsum : SumSaid sumSpecRef) : Rows.AllUptoCardSaid :=
  Claim7.holds_tied_plain_at .later [] _ _ _ _ (said hsum) (fun _ h => by cases h) (by kernel_rfl) (fun _ h => by cases h) allUpto_row_tie rfl ⟨rfl, rfl⟩ (by kernel_rfl) rfl plain (by kernel_rfl)
end Go.Proofs.YtaokemapkgggoaaGreatDoor

namespace Go.Proofs.YtaokemapkgggoaaGreatDoor

/-- every call, in every order, is the document's -/
theorem all_holds : Rows.AllUptoCardSaid := card fun s g w hS hs => ref_sum s g w hS hs
end Go.Proofs.YtaokemapkgggoaaGreatDoor
