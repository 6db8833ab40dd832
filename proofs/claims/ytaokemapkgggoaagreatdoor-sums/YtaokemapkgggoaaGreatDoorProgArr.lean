import Derived.Test.YtaokemapkgggoaaGreatDoorKit
import Derived.Test.YtaokemapkgggoaaGreatDoorProgLeaf
namespace Go.Proofs.YtaokemapkgggoaaGreatDoor
open Go.RowKit

theorem arr64b : ArrT Tryz.prog 116 64 (.int .u8 0) := ⟨⟨5, by kernel_rfl⟩, by kernel_rfl⟩
theorem arr32b : ArrT Tryz.prog 47 32 (.int .u8 0) := ⟨⟨5, by kernel_rfl⟩, by kernel_rfl⟩
theorem arr21b : ArrT Tryz.prog 79 21 (.int .u8 0) := ⟨⟨5, by kernel_rfl⟩, by kernel_rfl⟩
theorem arr4b : ArrT Tryz.prog 144 4 (.int .u8 0) := ⟨⟨5, by kernel_rfl⟩, by kernel_rfl⟩
theorem arr8b : ArrT Tryz.prog 85 8 (.int .u8 0) := ⟨⟨5, by kernel_rfl⟩, by kernel_rfl⟩
theorem arr6b : ArrT Tryz.prog 147 6 (.int .u8 0) := ⟨⟨5, by kernel_rfl⟩, by kernel_rfl⟩
theorem arr8w : ArrT Tryz.prog 76 8 (.int .u32 0) := ⟨⟨75, by kernel_rfl⟩, by kernel_rfl⟩
theorem arr64w : ArrT Tryz.prog 141 64 (.int .u32 0) := ⟨⟨75, by kernel_rfl⟩, by kernel_rfl⟩

theorem under_bytes : Tryz.prog.underlying 49 = some (.slice 5) := by kernel_rfl
theorem size_byte : (Tryz.prog.info? 5).map (·.size) = some 1 := by kernel_rfl

/-- a text's first n bytes, and bytes 0 behind them -/
def blk (n : Nat) (l : List UInt8) : List Int := bytesI (l.take n) ++ List.replicate (n - (l.take n).length) 0
theorem blk_length (n : Nat) (l : List UInt8) : (blk n l).length = n := by simp [blk, bytesI]; omega
theorem blk_cells (n : Nat) (l : List UInt8) : bcells (l.take n) ++ (zrow n (.int .u8 0)).drop (l.take n).length = u8s (blk n l) := by
  rw [bcells_eq]; simp [zrow, blk, u8s]

set_option maxRecDepth 100000 in
set_option maxHeartbeats 400000 in
theorem prog_blockOf (s : ByteArray) (w : World) :
    Calls Tryz.prog 65 #[.string s] w fun r w' => r = .returned (.agg (u8s (blk 64 s.data.toList)).toArray) ∧ Below w.heap.size w w' := by
  have hcp := run_copyStr_made (P := Tryz.prog) (w.alloc (.cells (zrow 64 (.int .u8 0)).toArray 116)) 49 9 3 5 (w.heap.size + 1) 64 64 s (zrow 64 (.int .u8 0)) 116 (by simp) under_bytes size_byte (by rw [zrow_length]; omega)
  rw [blk_cells] at hcp
  have hl := blk_length 64 s.data.toList
  have HL : Hid ((blk 64 s.data.toList).length = 64) := hl
  clear hl
  generalize blk 64 s.data.toList = b at *
  go_enter Tryz.func65, Tryz.ntmps65
  go_wp2_with (first | refine wpList_allocR rfl 116 rfl 64 (.int .u8 0) arr64b ?_ | refine wpList_loadR rfl 116 _ rfl (w.heap.size + 1) rfl 116 (u8s b) 64 (.int .u8 0) (Row.made1 _ _ _ _) arr64b (by rw [u8s_length]; exact HL.out) ?_ | refine wpList_storeR rfl 116 _ _ rfl w.heap.size rfl (u8s b) rfl 116 (zrow 64 (.int .u8 0)) 64 (.int .u8 0) ((Row.made _ _ _).alloc _) arr64b (by rw [u8s_length]; exact HL.out) (zrow_length _ _) (u8s_one _) ?_)
  refine bodyPost_ret (v := .agg (u8s b).toArray) (results_row Tryz.results65 _ w.heap.size 116 (u8s b) 64 (.int .u8 0) rfl (Row.setRow ((Row.made _ _ _).alloc _) _) arr64b (by rw [u8s_length]; exact HL.out)) rfl ⟨rfl, ?_⟩
  exact below_setRow (((Below.refl _ _).alloc (Nat.le_refl _) _).alloc (by simp) _) (Nat.le_refl _) _
end Go.Proofs.YtaokemapkgggoaaGreatDoor
