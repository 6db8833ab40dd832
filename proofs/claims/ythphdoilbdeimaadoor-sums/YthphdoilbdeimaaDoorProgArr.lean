import Derived.Test.YthphdoilbdeimaaDoorKit
import Derived.Test.YthphdoilbdeimaaDoorProgLeaf
namespace Go.Proofs.YthphdoilbdeimaaDoor
open Go.RowKit

theorem arr64b : ArrT Tryd.prog 97 64 (.int .u8 0) := ⟨⟨5, by kernel_rfl⟩, by kernel_rfl⟩
theorem arr32b : ArrT Tryd.prog 47 32 (.int .u8 0) := ⟨⟨5, by kernel_rfl⟩, by kernel_rfl⟩
theorem arr20b : ArrT Tryd.prog 78 20 (.int .u8 0) := ⟨⟨5, by kernel_rfl⟩, by kernel_rfl⟩
theorem arr8b : ArrT Tryd.prog 94 8 (.int .u8 0) := ⟨⟨5, by kernel_rfl⟩, by kernel_rfl⟩
theorem arr6b : ArrT Tryd.prog 110 6 (.int .u8 0) := ⟨⟨5, by kernel_rfl⟩, by kernel_rfl⟩
theorem arr8w : ArrT Tryd.prog 76 8 (.int .u32 0) := ⟨⟨75, by kernel_rfl⟩, by kernel_rfl⟩
theorem arr64w : ArrT Tryd.prog 106 64 (.int .u32 0) := ⟨⟨75, by kernel_rfl⟩, by kernel_rfl⟩

theorem under_bytes : Tryd.prog.underlying 49 = some (.slice 5) := by kernel_rfl
theorem size_byte : (Tryd.prog.info? 5).map (·.size) = some 1 := by kernel_rfl

/-- a text's first n bytes, and bytes 0 behind them -/
def blk (n : Nat) (l : List UInt8) : List Int := bytesI (l.take n) ++ List.replicate (n - (l.take n).length) 0
theorem blk_length (n : Nat) (l : List UInt8) : (blk n l).length = n := by simp [blk, bytesI]; omega
theorem blk_cells (n : Nat) (l : List UInt8) : bcells (l.take n) ++ (zrow n (.int .u8 0)).drop (l.take n).length = u8s (blk n l) := by
  rw [bcells_eq]; simp [zrow, blk, u8s]

set_option maxRecDepth 100000 in
set_option maxHeartbeats 400000 in
theorem prog_blockOf (s : ByteArray) (w : World) :
    Calls Tryd.prog 55 #[.string s] w fun r w' => r = .returned (.agg (u8s (blk 64 s.data.toList)).toArray) ∧ Below w.heap.size w w' := by
  have hcp := run_copyStr_made (P := Tryd.prog) (w.alloc (.cells (zrow 64 (.int .u8 0)).toArray 97)) 49 9 3 5 (w.heap.size + 1) 64 64 s (zrow 64 (.int .u8 0)) 97 (by simp) under_bytes size_byte (by rw [zrow_length]; omega)
  rw [blk_cells] at hcp
  have hl := blk_length 64 s.data.toList
  have HL : Hid ((blk 64 s.data.toList).length = 64) := hl
  clear hl
  generalize blk 64 s.data.toList = b at *
  go_enter Tryd.func55, Tryd.ntmps55
  go_wp2_with (first | refine wpList_allocR rfl 97 rfl 64 (.int .u8 0) arr64b ?_ | refine wpList_loadR rfl 97 _ rfl (w.heap.size + 1) rfl 97 (u8s b) 64 (.int .u8 0) (Row.made1 _ _ _ _) arr64b (by rw [u8s_length]; exact HL.out) ?_ | refine wpList_storeR rfl 97 _ _ rfl w.heap.size rfl (u8s b) rfl 97 (zrow 64 (.int .u8 0)) 64 (.int .u8 0) ((Row.made _ _ _).alloc _) arr64b (by rw [u8s_length]; exact HL.out) (zrow_length _ _) (u8s_one _) ?_)
  refine bodyPost_ret (v := .agg (u8s b).toArray) (results_row Tryd.results55 _ w.heap.size 97 (u8s b) 64 (.int .u8 0) rfl (Row.setRow ((Row.made _ _ _).alloc _) _) arr64b (by rw [u8s_length]; exact HL.out)) rfl ⟨rfl, ?_⟩
  exact below_setRow (((Below.refl _ _).alloc (Nat.le_refl _) _).alloc (by simp) _) (Nat.le_refl _) _
end Go.Proofs.YthphdoilbdeimaaDoor
