import Derived.Test.YtaokemapkgggoaaGreatDoorProgArr
namespace Go.Proofs.YtaokemapkgggoaaGreatDoor
open Go.RowKit

/-- the first k of a number's 8 bytes, the highest first, and bytes 0 behind them -/
def eightTo (n : Int) (k : Nat) : List Int := (List.range 8).map fun i => if i < k then n / 2 ^ (56 - 8 * i) % 256 else 0
theorem eightTo_length (n : Int) (k : Nat) : (eightTo n k).length = 8 := by simp [eightTo]
theorem eightTo_zero (n : Int) : eightTo n 0 = List.replicate 8 0 := by simp [eightTo, List.range, List.range.loop]
theorem eightTo_set (n : Int) (k : Nat) (_h : k < 8) : (eightTo n k).set k (n / 2 ^ (56 - 8 * k) % 256) = eightTo n (k + 1) := by
  apply List.ext_getElem
  · simp [eightTo]
  · intro i h1 h2
    simp only [eightTo, List.getElem_set, List.getElem_map, List.getElem_range]
    by_cases hk : k = i
    · subst hk; simp
    · rw [if_neg hk]
      by_cases hi : i < k
      · rw [if_pos hi, if_pos (by omega)]
      · rw [if_neg hi, if_neg (by omega)]

set_option maxRecDepth 100000 in
set_option maxHeartbeats 400000 in
theorem prog_eight (n : Int) (w : World) (_h0 : 0 ≤ n) (_h1 : n < 18446744073709551616) :
    Calls Tryz.prog 48 #[.int .u64 n] w fun r w' => r = .returned (.agg (u8s (eightTo n 8)).toArray) ∧ Below w.heap.size w w' := by
  go_enter Tryz.func48, Tryz.ntmps48
  go_wp2_with (refine wpList_allocR rfl 85 rfl 8 (.int .u8 0) arr8b ?_)
  go_loopw [5] (fun c wr => ∃ k : Nat, k ≤ 8 ∧ c = .int .i64 k ∧ Row wr (w.heap.size + 1) (u8s (eightTo n k)) 85 ∧ Below (w.heap.size + 1) (w.alloc (.cells (zrow 8 (.int .u8 0)).toArray 85)) wr)
    (fun c _ => 8 - (intOf c).toNat)
  case atStart =>
    refine ⟨0, by omega, rfl, ?_, ?_⟩
    · rw [eightTo_zero, ← zrow_u8]; exact Row.made1 _ _ _ _
    · exact (Below.refl _ _).alloc (by simp) _
  case round =>
    obtain ⟨k, hk, rfl, hR, hB⟩ := hrel
    by_cases hlt : k < 8
    · have hc : wr.cell? ⟨w.heap.size + 1, k, none⟩ = some (.int .u8 ((eightTo n k).getD k 0)) := by
        rw [hR.cell, u8s_get _ _ (by rw [eightTo_length]; exact hlt)]
      have hf := hR.frozen k
      go_wp2
      refine ⟨⟨k + 1, by omega, by go_num, ?_, ?_⟩, by simp [intOf]; omega⟩
      · have := hR.setCell k (.int .u8 (n / 2 ^ (56 - 8 * k) % 256))
        rwa [u8s_set, eightTo_set n k hlt] at this
      · exact hB.setCell (Nat.le_refl _) _
    · have hk8 : k = 8 := by omega
      subst hk8
      have hO : Row wr w.heap.size (zrow 8 (.int .u8 0)) 85 := (Row.made w _ _).below hB (Nat.lt_succ_self _)
      go_wp2_with (first | refine wpList_loadR rfl 85 _ rfl (w.heap.size + 1) rfl 85 (u8s (eightTo n 8)) 8 (.int .u8 0) hR arr8b (by rw [u8s_length, eightTo_length]) ?_ | refine wpList_storeR rfl 85 _ _ rfl w.heap.size rfl (u8s (eightTo n 8)) rfl 85 (zrow 8 (.int .u8 0)) 8 (.int .u8 0) hO arr8b (by rw [u8s_length, eightTo_length]) (zrow_length _ _) (u8s_one _) ?_)
      refine bodyPost_ret (v := .agg (u8s (eightTo n 8)).toArray) (results_row Tryz.results48 _ w.heap.size 85 (u8s (eightTo n 8)) 8 (.int .u8 0) rfl (Row.setRow hO _) arr8b (by rw [u8s_length, eightTo_length])) rfl ⟨rfl, ?_⟩
      exact below_setRow (((Below.refl _ _).alloc (Nat.le_refl _) _).trans (hB.mono (Nat.le_succ _))) (Nat.le_refl _) _
end Go.Proofs.YtaokemapkgggoaaGreatDoor
