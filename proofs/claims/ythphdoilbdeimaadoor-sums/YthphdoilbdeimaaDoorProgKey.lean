import Derived.Test.YthphdoilbdeimaaDoorProgSum
import Derived.Deep.MidRow
import Derived.Laws.BytesArg
namespace Go.Proofs.YthphdoilbdeimaaDoor
open Go.RowKit

theorem results_row2 {P : Program} {fn : Func} {p u : Tmp} {ty : TypeId} (hf : fn.results = #[.cell p ty, .tmp u]) (tmps : Array Value) (w : World) (g : Nat) (t : TypeId) (cs : List Value) (n : Nat) (z v : Value)
    (hp : tmps.getD p undef = .pointer (some ⟨g, 0, none⟩)) (hu : tmps.getD u undef = v) (hr : Row w g cs t) (ht : ArrT P ty n z) (hn : cs.length = n) : (results fn tmps).run P w = .ok (.tuple #[.agg cs.toArray, v]) w := by
  obtain ⟨e, hue⟩ := ht.u
  have hl := run_loadVar_row (P := P) w g t ty cs.toArray (0, 0) _ hr hue rfl (by rw [ht.size]; simp [hn])
  rw [results_cell_tmp hf, hp, hu]
  simp [asAddr, hl]

set_option maxRecDepth 100000 in
set_option maxHeartbeats 1000000 in
theorem prog_keyOf_no (s : ByteArray) (w : World) (hs : ¬ (1 ≤ s.size ∧ s.size ≤ 20)) :
    Calls Tryd.prog 42 #[.string s] w fun r w' => r = .returned (.tuple #[.agg (zrow 20 (.int .u8 0)).toArray, .bool false]) ∧ Below w.heap.size w w' := by
  rcases Nat.lt_or_ge s.size 1 with h1 | h1
  · have h1' : (s.size : Int) < 1 := by omega
    go_enter Tryd.func42, Tryd.ntmps42
    go_wp2_with (first | (refine wpList_allocR rfl 78 rfl 20 (.int .u8 0) arr20b ?_; go_simp) | (refine wpList_loadR rfl 78 _ rfl (w.heap.size + 1) rfl 78 (zrow 20 (.int .u8 0)) 20 (.int .u8 0) (Row.made1 _ _ _ _) arr20b (zrow_length _ _) ?_; go_simp) | (refine wpList_storeR rfl 78 _ _ rfl w.heap.size rfl (zrow 20 (.int .u8 0)) rfl 78 (zrow 20 (.int .u8 0)) 20 (.int .u8 0) ((Row.made _ _ _).alloc _) arr20b (zrow_length _ _) (zrow_length _ _) (by rw [zrow_u8]; exact u8s_one _) ?_; go_simp))
    refine bodyPost_ret (v := .tuple #[.agg (zrow 20 (.int .u8 0)).toArray, .bool false]) (results_row2 Tryd.results42 _ _ w.heap.size 78 (zrow 20 (.int .u8 0)) 20 (.int .u8 0) (.bool false) rfl rfl (Row.setRow ((Row.made _ _ _).alloc _) _) arr20b (zrow_length _ _)) rfl ⟨rfl, ?_⟩
    exact below_setRow (((Below.refl _ _).alloc (Nat.le_refl _) _).alloc (by simp) _) (Nat.le_refl _) _
  · have h1' : ¬ (s.size : Int) < 1 := by omega
    have h2' : (20 : Int) < s.size := by omega
    go_enter Tryd.func42, Tryd.ntmps42
    go_wp2_with (first | (refine wpList_allocR rfl 78 rfl 20 (.int .u8 0) arr20b ?_; go_simp) | (refine wpList_loadR rfl 78 _ rfl (w.heap.size + 1) rfl 78 (zrow 20 (.int .u8 0)) 20 (.int .u8 0) (Row.made1 _ _ _ _) arr20b (zrow_length _ _) ?_; go_simp) | (refine wpList_storeR rfl 78 _ _ rfl w.heap.size rfl (zrow 20 (.int .u8 0)) rfl 78 (zrow 20 (.int .u8 0)) 20 (.int .u8 0) ((Row.made _ _ _).alloc _) arr20b (zrow_length _ _) (zrow_length _ _) (by rw [zrow_u8]; exact u8s_one _) ?_; go_simp))
    refine bodyPost_ret (v := .tuple #[.agg (zrow 20 (.int .u8 0)).toArray, .bool false]) (results_row2 Tryd.results42 _ _ w.heap.size 78 (zrow 20 (.int .u8 0)) 20 (.int .u8 0) (.bool false) rfl rfl (Row.setRow ((Row.made _ _ _).alloc _) _) arr20b (zrow_length _ _)) rfl ⟨rfl, ?_⟩
    exact below_setRow (((Below.refl _ _).alloc (Nat.le_refl _) _).alloc (by simp) _) (Nat.le_refl _) _

set_option maxRecDepth 100000 in
set_option maxHeartbeats 1000000 in
theorem prog_keyOf_yes (s : ByteArray) (w : World) (h1 : 1 ≤ s.size) (h2 : s.size ≤ 20) :
    Calls Tryd.prog 42 #[.string s] w fun r w' => r = .returned (.tuple #[.agg (u8s (blk 20 s.data.toList)).toArray, .bool true]) ∧ Below w.heap.size w w' := by
  have hcp := run_copyStr_made (P := Tryd.prog) (w.alloc (.cells (zrow 20 (.int .u8 0)).toArray 78)) 49 9 3 5 (w.heap.size + 1) 20 20 s (zrow 20 (.int .u8 0)) 78 (by simp) under_bytes size_byte (by rw [zrow_length]; omega)
  rw [blk_cells] at hcp
  have HL : Hid ((u8s (blk 20 s.data.toList)).length = 20) := by show _ = _; rw [u8s_length, blk_length]
  have h1' : ¬ (s.size : Int) < 1 := by omega
  have h2' : ¬ (20 : Int) < s.size := by omega
  generalize blk 20 s.data.toList = b at *
  go_enter Tryd.func42, Tryd.ntmps42
  go_wp2_with (first | (refine wpList_allocR rfl 78 rfl 20 (.int .u8 0) arr20b ?_; go_simp) | (refine wpList_loadR rfl 78 _ rfl (w.heap.size + 1) rfl 78 (u8s b) 20 (.int .u8 0) (Row.made1 _ _ _ _) arr20b HL.out ?_; go_simp) | (refine wpList_storeR rfl 78 _ _ rfl w.heap.size rfl (u8s b) rfl 78 (zrow 20 (.int .u8 0)) 20 (.int .u8 0) ((Row.made _ _ _).alloc _) arr20b HL.out (zrow_length _ _) (u8s_one _) ?_; go_simp))
  refine bodyPost_ret (v := .tuple #[.agg (u8s b).toArray, .bool true]) (results_row2 Tryd.results42 _ _ w.heap.size 78 (u8s b) 20 (.int .u8 0) (.bool true) rfl rfl (Row.setRow ((Row.made _ _ _).alloc _) _) arr20b HL.out) rfl ⟨rfl, ?_⟩
  exact below_setRow (((Below.refl _ _).alloc (Nat.le_refl _) _).alloc (by simp) _) (Nat.le_refl _) _
end Go.Proofs.YthphdoilbdeimaaDoor
