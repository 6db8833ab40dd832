import Derived.Test.YtaokemapkgggoaaGreatDoorProgArr
import Derived.Deep.RegionLaw
namespace Go.Proofs.YtaokemapkgggoaaGreatDoor
open Go.RowKit

/-- four bytes of a word, the highest first -/
def four (x : Int) : List Int := [x / 16777216, x / 65536 % 256, x / 256 % 256, x % 256]
def outTo (hs : List Int) (k : Nat) : List Int := (hs.take k).flatMap four ++ List.replicate (32 - 4 * k) 0
theorem flat_length (l : List Int) : (l.flatMap four).length = 4 * l.length := by
  induction l with
  | nil => rfl
  | cons a l ih => simp only [List.flatMap_cons, List.length_append, ih, List.length_cons]; simp [four]; omega
theorem outTo_length (hs : List Int) (k : Nat) (h : hs.length = 8) (hk : k ≤ 8) : (outTo hs k).length = 32 := by
  simp only [outTo, List.length_append, flat_length, List.length_replicate, List.length_take]; omega
theorem set_four (A : List Int) (m : Nat) (a b c d : Int) :
    ((((A ++ List.replicate (m + 4) 0).set A.length a).set (A.length + 1) b).set (A.length + 2) c).set (A.length + 3) d = A ++ [a, b, c, d] ++ List.replicate m 0 := by
  rw [List.set_append_right _ _ (Nat.le_refl _), List.set_append_right _ _ (by omega), List.set_append_right _ _ (by omega), List.set_append_right _ _ (by omega)]
  rw [show A.length - A.length = 0 by omega, show A.length + 1 - A.length = 1 by omega, show A.length + 2 - A.length = 2 by omega, show A.length + 3 - A.length = 3 by omega]
  simp [List.replicate_succ]
theorem outTo_set (hs : List Int) (k : Nat) (h : hs.length = 8) (hk : k < 8) :
    ((((outTo hs k).set (4 * k) (hs.getD k 0 / 16777216)).set (4 * k + 1) (hs.getD k 0 / 65536 % 256)).set (4 * k + 2) (hs.getD k 0 / 256 % 256)).set (4 * k + 3) (hs.getD k 0 % 256) = outTo hs (k + 1) := by
  have hl : ((hs.take k).flatMap four).length = 4 * k := by rw [flat_length, List.length_take]; omega
  have := set_four ((hs.take k).flatMap four) (32 - 4 * (k + 1)) (hs.getD k 0 / 16777216) (hs.getD k 0 / 65536 % 256) (hs.getD k 0 / 256 % 256) (hs.getD k 0 % 256)
  rw [hl, show 32 - 4 * (k + 1) + 4 = 32 - 4 * k by omega] at this
  unfold outTo
  rw [this]
  congr 1
  rw [List.take_succ_eq_append_getElem (by omega), List.flatMap_append]
  simp [four, List.getD, hk, h]

theorem run_indexAgg {P : Program} (w : World) (t e : TypeId) (n : Nat) (cs : List Value) (k : Nat) (v : Value) (hu : P.underlying t = some (.array n e)) (hs : (P.info? e).map (·.size) = some 1) (ha : P.underlying e = some (.int .u32))
    (hk : k < n) (hv : cs[k]? = some v) : (Instr.index t (.agg cs.toArray) (.int .i64 k)).run P w = .ok v w := by
  cases hq : P.info? e with
  | none => simp [hq] at hs
  | some i =>
    have hi : i.size = 1 := by simpa [hq] using hs
    simp [Instr.index, asIntOf, run_underlying hu, sizeOf, typeInfo, hq, hi, part, isAgg, run_underlying ha, hv]
    omega

theorem under8w : Tryz.prog.underlying 76 = some (.array 8 75) := by kernel_rfl
theorem under_w : Tryz.prog.underlying 75 = some (.int .u32) := by kernel_rfl
theorem size_w : (Tryz.prog.info? 75).map (·.size) = some 1 := by kernel_rfl


theorem run_sliceArr {P : Program} (w : World) (t e : TypeId) (n : Nat) (hu : P.underlying t = some (.array n e)) (hs : (P.info? e).map (·.size) = some 1) (g o l : Nat) (h : l < n) (i : Int) (hi : i = l) :
    (Instr.sliceAt t (.pointer (some ⟨g, o, none⟩)) (some (.int .i64 i)) none none).run P w = .ok (.slice (some ⟨g, o + l, none⟩) (n - l) (n - l)) w := by
  subst hi
  have ha : P.arrayLen t = n := by simp [Program.arrayLen, hu]
  have he : P.elem t = e := by simp [Program.elem, hu]
  have hu' : P.underlying t = some (.array (P.arrayLen t) (P.elem t)) := by rw [ha, he]; exact hu
  rw [run_sliceAt_array_l w t ⟨g, o, none⟩ hu' .i64 l (by omega) (by rw [ha]; omega), ha, he]
  cases hq : P.info? e with
  | none => simp [hq] at hs
  | some x =>
    have hx : x.size = 1 := by simpa [hq] using hs
    simp [sizeOf, typeInfo, hq, hx, slicedAt, Addr.add]
    rw [if_neg (by omega)]
    split <;> simp_all
theorem run_sliceArr2 {P : Program} (w : World) (t e : TypeId) (n : Nat) (hu : P.underlying t = some (.array n e)) (hs : (P.info? e).map (·.size) = some 1) (g o l m : Nat) (h : l < n) (hl : l ≤ m) (hm : m ≤ n) (i j : Int) (hi : i = l) (hj : j = m) :
    (Instr.sliceAt t (.pointer (some ⟨g, o, none⟩)) (some (.int .i64 i)) (some (.int .i64 j)) none).run P w = .ok (.slice (some ⟨g, o + l, none⟩) (m - l) (n - l)) w := by
  subst hi hj
  have ha : P.arrayLen t = n := by simp [Program.arrayLen, hu]
  have he : P.elem t = e := by simp [Program.elem, hu]
  have hu' : P.underlying t = some (.array (P.arrayLen t) (P.elem t)) := by rw [ha, he]; exact hu
  rw [run_sliceAt_array_lh w t ⟨g, o, none⟩ hu' .i64 .i64 l m (by omega) (by omega) (by rw [ha]; omega), ha, he]
  cases hq : P.info? e with
  | none => simp [hq] at hs
  | some x =>
    have hx : x.size = 1 := by simpa [hq] using hs
    simp [sizeOf, typeInfo, hq, hx, slicedAt, Addr.add]
    rw [if_neg (by omega)]
    split <;> simp_all
theorem row_src {w : World} {g : Nat} {cs : List Value} {t : TypeId} (h : Row w g cs t) : ∀ j v, cs[j]? = some v → w.cell? ((⟨g, 0, none⟩ : Addr).add j) = some v := by
  intro j v hv
  have hadd : (⟨g, 0, none⟩ : Addr).add j = ⟨g, j, none⟩ := by unfold Addr.add; split <;> simp_all
  rw [hadd, h.cell, hv]
theorem row_src_at {w : World} {g : Nat} {cs : List Value} {t : TypeId} (h : Row w g cs t) (o : Nat) : ∀ j v, (cs.drop o)[j]? = some v → w.cell? ((⟨g, o, none⟩ : Addr).add j) = some v := by
  intro j v hv
  have e : (⟨g, o, none⟩ : Addr).add j = ⟨g, o + j, none⟩ := by unfold Addr.add; split <;> simp_all
  rw [e, h.cell, ← List.getElem?_drop]; exact hv
theorem under32b : Tryz.prog.underlying 47 = some (.array 32 5) := by kernel_rfl
theorem build4 : Tryz.prog.underlying 144 = some (.array 4 5) := by kernel_rfl

set_option maxRecDepth 100000 in
set_option maxHeartbeats 400000 in
theorem prog_fourBytes (x : Int) (w : World) (hx : isW x) :
    Calls Tryz.prog 87 #[.int .u32 x] w fun r w' => r = .returned (.agg (u8s (four x)).toArray) ∧ Below w.heap.size w w' := by
  obtain ⟨hx0, hx1⟩ := hx
  go_enter Tryz.func87, Tryz.ntmps87
  go_wp2_with (first | (refine wpList_allocR rfl 144 rfl 4 (.int .u8 0) arr4b ?_; go_simp) | (refine wpList_storeM rfl 144 _ _ rfl _ rfl rfl (u8s (four x)) rfl 144 _ 4 (.int .u8 0) arr4b rfl (zrow_length _ _) (u8s_one _) ?_; go_simp))
  exact bodyPost_ret (v := .agg (u8s (four x)).toArray) (results_row Tryz.results87 _ w.heap.size 144 (u8s (four x)) 4 (.int .u8 0) rfl (Row.made _ _ _) arr4b rfl) rfl ⟨rfl, (Below.refl _ _).alloc (Nat.le_refl _) _⟩

theorem outTo_splice (hs : List Int) (k : Nat) (h : hs.length = 8) (hk : k < 8) : splice (u8s (outTo hs k)) (4 * k) (u8s (four (hs.getD k 0))) = u8s (outTo hs (k + 1)) := by
  have hl : ((hs.take k).flatMap four).length = 4 * k := by rw [flat_length, List.length_take]; omega
  unfold splice
  rw [show (u8s (four (hs.getD k 0))).length = 4 from rfl]
  simp only [u8s, ← List.map_take, ← List.map_drop, ← List.map_append]
  congr 1
  unfold outTo
  rw [List.take_append_of_le_length (by omega), List.take_of_length_le (by omega), List.drop_append, hl, List.drop_eq_nil_of_le (by omega), List.nil_append, List.drop_replicate]
  rw [List.take_succ_eq_append_getElem (by omega), List.flatMap_append, List.append_assoc]
  rw [show 32 - 4 * k - (4 * k + 4 - 4 * k) = 32 - 4 * (k + 1) by omega]
  simp [List.getD, hk, h]

set_option maxRecDepth 100000 in
set_option maxHeartbeats 400000 in
theorem prog_bytesOf (hs : List Int) (w : World) (hl : hs.length = 8) (hw : ∀ x ∈ hs, isW x) :
    Calls Tryz.prog 66 #[.agg (u32s hs).toArray] w fun r w' => r = .returned (.agg (u8s (hs.flatMap four)).toArray) ∧ Below w.heap.size w w' := by
  have HL : Hid (hs.length = 8) := hl
  clear hl
  go_enter Tryz.func66, Tryz.ntmps66
  go_wp2_with (first | refine wpList_allocR rfl 47 rfl 32 (.int .u8 0) arr32b ?_ | refine wpList_boxR rfl 76 _ rfl (u32s hs) rfl ?_ | refine wpList_loadR rfl 76 _ rfl w.heap.size rfl 76 (u32s hs) 8 (.int .u32 0) (((Row.made _ _ _).alloc _).alloc _) arr8w (by rw [u32s_length]; exact HL.out) ?_)
  go_loopw [8] (fun c wr => ∃ k : Nat, k ≤ 8 ∧ c = .int .i64 k ∧ Row wr (w.heap.size + 1 + 1) (u8s (outTo hs k)) 47 ∧ Below (w.heap.size + 1 + 1) ((w.alloc (.cells (u32s hs).toArray 76)).alloc (.cells (zrow 32 (.int .u8 0)).toArray 47)) wr)
    (fun c _ => 8 - (intOf c).toNat)
  case atStart =>
    refine ⟨0, by omega, rfl, ?_, ?_⟩
    · have := Row.made1 (w.alloc (.cells (u32s hs).toArray 76)) (.cells (zrow 32 (.int .u8 0)).toArray 47) (zrow 32 (.int .u8 0)) 47
      rw [World.size_alloc, zrow_u8] at this
      simpa [outTo, zrow_u8] using this
    · exact (Below.refl _ _).alloc (by simp) _
  case round =>
    obtain ⟨k, hk, rfl, hR, hB⟩ := hrel
    by_cases hlt : k < 8
    · have hlen := outTo_length hs k HL.out (by omega)
      have hix := fun wx => run_indexAgg (P := Tryz.prog) wx 76 75 8 (u32s hs) k (.int .u32 (hs.getD k 0)) under8w size_w under_w hlt (u32s_get _ _ (by rw [HL.out]; exact hlt))
      have hx : isW (hs.getD k 0) := by
        have : hs.getD k 0 = hs[k]'(by rw [HL.out]; exact hlt) := by simp [List.getD, HL.out, hlt]
        rw [this]; exact hw _ (List.getElem_mem _)
      have HS : Hid _ := outTo_splice hs k HL.out hlt
      have HLen : Hid _ := hlen
      clear hlen
      generalize hs.getD k 0 = x at *
      go_wp2_with (first | (go_at_call 87; refine (prog_fourBytes _ _ hx).mono ?_; rintro _ w1 ⟨rfl, hb1⟩; have a2 := hR.below hb1 hR.lt; have aw := hB.trans (hb1.mono (by have := hR.lt; omega)); have HFL : Hid ((u8s (four x)).length = 4) := rfl; have HFO := u8s_one (four x); generalize u8s (four x) = fx at *) | (refine wpList_allocR rfl 144 rfl 4 (.int .u8 0) arr4b ?_; go_simp) | (refine wpList_storeMA rfl 144 _ _ rfl _ rfl rfl fx rfl 144 _ 4 (.int .u8 0) arr4b HFL.out (zrow_length _ _) HFO ?_; intro w3 hr5 hb3; have c2 := a2.below hb3 a2.lt; have cw := aw.trans (hb3.mono (by have := a2.lt; omega)); go_simp))
      have HM4 : Hid (fx.length = Nat.min 4 (32 - 4 * k)) := by show _ = _; rw [HFL.out]; exact (Nat.min_eq_left (by omega)).symm
      have hw4 : IntKind.i64.wrap (4 * (k : Int)) = 4 * (k : Int) := by simp only [IntKind.wrap, IntKind.bits, IntKind.signed]; simp; omega
      have hsl := fun wx => run_sliceArr (P := Tryz.prog) wx 47 5 32 under32b size_byte (w.heap.size + 1 + 1) 0 (4 * k) (by omega) (4 * (k : Int)) (by omega)
      go_region_law (refine step_copy_splice rfl (.tmp 16) (.tmp 17) 49 49 rfl 5 under_bytes size_byte (some ⟨w.heap.size + 1 + 1, 4 * k, none⟩) (some ⟨w1.heap.size, 0, none⟩) (32 - 4 * k) (32 - 4 * k) 4 4 rfl rfl (w.heap.size + 1 + 1) (4 * k) (u8s (outTo hs k)) 47 c2 fx HM4.out (fun _ => ⟨rfl, _, rfl, row_src (show Row _ _ _ _ from hr5)⟩) (by rw [HFL.out, u8s_length, HLen.out]; omega) HFO (w.heap.size + 1 + 1) _ (Below.refl _ _) (Nat.le_refl _) ?_; intro w6 hg6 hb6)
      have g6 : Row w6 (w.heap.size + 1 + 1) (u8s (outTo hs (k + 1))) 47 := by have := hg6.out; rw [HS.out] at this; exact this
      have gw := cw.drew.trans hb6
      clear hg6 hb6 c2 cw hr5 hb3 a2 aw hb1 hB hR
      go_wp2
      exact ⟨⟨k + 1, by omega, by go_num, g6, gw⟩, by simp [intOf]; omega⟩
    · have hk8 : k = 8 := by omega
      subst hk8
      have e8 : outTo hs 8 = hs.flatMap four := by
        have h8 := HL.out
        simp [outTo, List.take_of_length_le (show hs.length ≤ 8 by omega)]
      rw [e8] at hR
      have hlen : (u8s (hs.flatMap four)).length = 32 := by rw [u8s_length, flat_length, HL.out]
      have HLen : Hid _ := hlen
      clear hlen
      have hO : Row wr (w.heap.size + 1) (zrow 32 (.int .u8 0)) 47 := (Row.made1 w _ _ _).below hB (Nat.lt_succ_self _)
      go_wp2_with (first | refine wpList_loadR rfl 47 _ rfl (w.heap.size + 1 + 1) rfl 47 (u8s (hs.flatMap four)) 32 (.int .u8 0) hR arr32b HLen.out ?_ | refine wpList_storeR rfl 47 _ _ rfl (w.heap.size + 1) rfl (u8s (hs.flatMap four)) rfl 47 (zrow 32 (.int .u8 0)) 32 (.int .u8 0) hO arr32b HLen.out (zrow_length _ _) (u8s_one _) ?_)
      refine bodyPost_ret (v := .agg (u8s (hs.flatMap four)).toArray) (results_row Tryz.results66 _ (w.heap.size + 1) 47 (u8s (hs.flatMap four)) 32 (.int .u8 0) rfl (Row.setRow hO _) arr32b HLen.out) rfl ⟨rfl, ?_⟩
      exact below_setRow ((((Below.refl _ _).alloc (Nat.le_refl _) _).alloc (by simp) _).trans (hB.mono (by omega))) (by omega) _
end Go.Proofs.YtaokemapkgggoaaGreatDoor
