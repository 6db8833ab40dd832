import Derived.Test.YthphdoilbdeimaaDoorProgArr
namespace Go.Proofs.YthphdoilbdeimaaDoor
open Go.RowKit

/-- four bytes of a word, the highest first -/
def four (x : Int) : List Int := [x / 16777216, x / 65536 % 256, x / 256 % 256, x % 256]
def outTo (hs : List Int) (k : Nat) : List Int := (hs.take k).flatMap four ++ List.replicate (32 - 4 * k) 0
theorem flat_length (l : List Int) : (l.flatMap four).length = 4 * l.length := by
  induction l with
  | nil => rfl
  | cons a l ih => simp only [List.flatMap_cons, List.length_append, ih, List.length_cons]; simp [four]; omega
theorem outTo_length (hs : List Int) (k : Nat) (h : hs.length = 8) (hk : k ≤ 8) : (outTo hs k).length = 32 := by
  simp only [outTo, List.length_append, flat_length, List.length_replicate, List.length_take]; omega
theorem set_four (A : List Int) (m : Nat) (a b c d : Int) :
    ((((A ++ List.replicate (m + 4) 0).set A.length a).set (A.length + 1) b).set (A.length + 2) c).set (A.length + 3) d = A ++ [a, b, c, d] ++ List.replicate m 0 := by
  rw [List.set_append_right _ _ (Nat.le_refl _), List.set_append_right _ _ (by omega), List.set_append_right _ _ (by omega), List.set_append_right _ _ (by omega)]
  rw [show A.length - A.length = 0 by omega, show A.length + 1 - A.length = 1 by omega, show A.length + 2 - A.length = 2 by omega, show A.length + 3 - A.length = 3 by omega]
  simp [List.replicate_succ]
theorem outTo_set (hs : List Int) (k : Nat) (h : hs.length = 8) (hk : k < 8) :
    ((((outTo hs k).set (4 * k) (hs.getD k 0 / 16777216)).set (4 * k + 1) (hs.getD k 0 / 65536 % 256)).set (4 * k + 2) (hs.getD k 0 / 256 % 256)).set (4 * k + 3) (hs.getD k 0 % 256) = outTo hs (k + 1) := by
  have hl : ((hs.take k).flatMap four).length = 4 * k := by rw [flat_length, List.length_take]; omega
  have := set_four ((hs.take k).flatMap four) (32 - 4 * (k + 1)) (hs.getD k 0 / 16777216) (hs.getD k 0 / 65536 % 256) (hs.getD k 0 / 256 % 256) (hs.getD k 0 % 256)
  rw [hl, show 32 - 4 * (k + 1) + 4 = 32 - 4 * k by omega] at this
  unfold outTo
  rw [this]
  congr 1
  rw [List.take_succ_eq_append_getElem (by omega), List.flatMap_append]
  simp [four, List.getD, hk, h]

theorem run_indexAgg {P : Program} (w : World) (t e : TypeId) (n : Nat) (cs : List Value) (k : Nat) (v : Value) (hu : P.underlying t = some (.array n e)) (hs : (P.info? e).map (·.size) = some 1) (ha : P.underlying e = some (.int .u32))
    (hk : k < n) (hv : cs[k]? = some v) : (Instr.index t (.agg cs.toArray) (.int .i64 k)).run P w = .ok v w := by
  cases hq : P.info? e with
  | none => simp [hq] at hs
  | some i =>
    have hi : i.size = 1 := by simpa [hq] using hs
    simp [Instr.index, asIntOf, run_underlying hu, sizeOf, typeInfo, hq, hi, part, isAgg, run_underlying ha, hv]
    omega

theorem under8w : Tryd.prog.underlying 76 = some (.array 8 75) := by kernel_rfl
theorem under_w : Tryd.prog.underlying 75 = some (.int .u32) := by kernel_rfl
theorem size_w : (Tryd.prog.info? 75).map (·.size) = some 1 := by kernel_rfl

set_option maxRecDepth 100000 in
set_option maxHeartbeats 400000 in
theorem prog_bytesOf (hs : List Int) (w : World) (hl : hs.length = 8) (hw : ∀ x ∈ hs, isW x) :
    Calls Tryd.prog 56 #[.agg (u32s hs).toArray] w fun r w' => r = .returned (.agg (u8s (hs.flatMap four)).toArray) ∧ Below w.heap.size w w' := by
  have HL : Hid (hs.length = 8) := hl
  clear hl
  go_enter Tryd.func56, Tryd.ntmps56
  go_wp2_with (first | refine wpList_allocR rfl 47 rfl 32 (.int .u8 0) arr32b ?_ | refine wpList_boxR rfl 76 _ rfl (u32s hs) rfl ?_ | refine wpList_loadR rfl 76 _ rfl w.heap.size rfl 76 (u32s hs) 8 (.int .u32 0) (((Row.made _ _ _).alloc _).alloc _) arr8w (by rw [u32s_length]; exact HL.out) ?_)
  go_loopw [7] (fun c wr => ∃ k : Nat, k ≤ 8 ∧ c = .int .i64 k ∧ Row wr (w.heap.size + 1 + 1) (u8s (outTo hs k)) 47 ∧ Below (w.heap.size + 1 + 1) ((w.alloc (.cells (u32s hs).toArray 76)).alloc (.cells (zrow 32 (.int .u8 0)).toArray 47)) wr)
    (fun c _ => 8 - (intOf c).toNat)
  case atStart =>
    refine ⟨0, by omega, rfl, ?_, ?_⟩
    · have := Row.made1 (w.alloc (.cells (u32s hs).toArray 76)) (.cells (zrow 32 (.int .u8 0)).toArray 47) (zrow 32 (.int .u8 0)) 47
      rw [World.size_alloc, zrow_u8] at this
      simpa [outTo, zrow_u8] using this
    · exact (Below.refl _ _).alloc (by simp) _
  case round =>
    obtain ⟨k, hk, rfl, hR, hB⟩ := hrel
    by_cases hlt : k < 8
    · have hlen := outTo_length hs k HL.out (by omega)
      have hix := fun wx => run_indexAgg (P := Tryd.prog) wx 76 75 8 (u32s hs) k (.int .u32 (hs.getD k 0)) under8w size_w under_w hlt (u32s_get _ _ (by rw [HL.out]; exact hlt))
      have hx : isW (hs.getD k 0) := by
        have : hs.getD k 0 = hs[k]'(by rw [HL.out]; exact hlt) := by simp [List.getD, HL.out, hlt]
        rw [this]; exact hw _ (List.getElem_mem _)
      obtain ⟨hx0, hx1⟩ := hx
      have hS := outTo_set hs k HL.out hlt
      have HS : Hid _ := hS
      clear hS
      have hc0 : wr.cell? ⟨w.heap.size + 1 + 1, 4 * k, none⟩ = some (.int .u8 ((outTo hs k).getD (4 * k) 0)) := by rw [hR.cell, u8s_get _ _ (by omega)]
      have hc1 : wr.cell? ⟨w.heap.size + 1 + 1, 4 * k + 1, none⟩ = some (.int .u8 ((outTo hs k).getD (4 * k + 1) 0)) := by rw [hR.cell, u8s_get _ _ (by omega)]
      have hc2 : wr.cell? ⟨w.heap.size + 1 + 1, 4 * k + 2, none⟩ = some (.int .u8 ((outTo hs k).getD (4 * k + 2) 0)) := by rw [hR.cell, u8s_get _ _ (by omega)]
      have hc3 : wr.cell? ⟨w.heap.size + 1 + 1, 4 * k + 3, none⟩ = some (.int .u8 ((outTo hs k).getD (4 * k + 3) 0)) := by rw [hR.cell, u8s_get _ _ (by omega)]
      have hf0 := hR.frozen (4 * k)
      have hf1 := hR.frozen (4 * k + 1)
      have hf2 := hR.frozen (4 * k + 2)
      have hf3 := hR.frozen (4 * k + 3)
      have HLen : Hid _ := hlen
      clear hlen
      generalize hs.getD k 0 = x at *
      go_wp2
      refine ⟨⟨k + 1, by omega, by go_num, ?_, ?_⟩, by simp [intOf]; omega⟩
      · have := (((hR.setCell (4 * k) (.int .u8 (x / 16777216))).setCell (4 * k + 1) (.int .u8 (x / 65536 % 256))).setCell (4 * k + 2) (.int .u8 (x / 256 % 256))).setCell (4 * k + 3) (.int .u8 (x % 256))
        rwa [u8s_set, u8s_set, u8s_set, u8s_set, HS.out] at this
      · exact (((hB.setCell (Nat.le_refl _) _).setCell (Nat.le_refl _) _).setCell (Nat.le_refl _) _).setCell (Nat.le_refl _) _
    · have hk8 : k = 8 := by omega
      subst hk8
      have e8 : outTo hs 8 = hs.flatMap four := by
        have h8 := HL.out
        simp [outTo, List.take_of_length_le (show hs.length ≤ 8 by omega)]
      rw [e8] at hR
      have hlen : (u8s (hs.flatMap four)).length = 32 := by rw [u8s_length, flat_length, HL.out]
      have HLen : Hid _ := hlen
      clear hlen
      have hO : Row wr (w.heap.size + 1) (zrow 32 (.int .u8 0)) 47 := (Row.made1 w _ _ _).below hB (Nat.lt_succ_self _)
      go_wp2_with (first | refine wpList_loadR rfl 47 _ rfl (w.heap.size + 1 + 1) rfl 47 (u8s (hs.flatMap four)) 32 (.int .u8 0) hR arr32b HLen.out ?_ | refine wpList_storeR rfl 47 _ _ rfl (w.heap.size + 1) rfl (u8s (hs.flatMap four)) rfl 47 (zrow 32 (.int .u8 0)) 32 (.int .u8 0) hO arr32b HLen.out (zrow_length _ _) (u8s_one _) ?_)
      refine bodyPost_ret (v := .agg (u8s (hs.flatMap four)).toArray) (results_row Tryd.results56 _ (w.heap.size + 1) 47 (u8s (hs.flatMap four)) 32 (.int .u8 0) rfl (Row.setRow hO _) arr32b HLen.out) rfl ⟨rfl, ?_⟩
      exact below_setRow ((((Below.refl _ _).alloc (Nat.le_refl _) _).alloc (by simp) _).trans (hB.mono (by omega))) (by omega) _
end Go.Proofs.YthphdoilbdeimaaDoor
