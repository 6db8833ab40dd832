import Derived.Test.YtaokemapkgggoaaGreatDoorProgSeal
namespace Go.Proofs.YtaokemapkgggoaaGreatDoor
open Go.RowKit

/-- the last k of six decimal digits, and bytes 0 ahead of them -/
def digTo (x : Int) (k : Nat) : List Int := (List.range 6).map fun j => if 6 ≤ j + k then 48 + x / 10 ^ (5 - j) % 10 else 0
theorem digTo_length (x : Int) (k : Nat) : (digTo x k).length = 6 := by simp [digTo]
theorem digTo_zero (x : Int) : digTo x 0 = List.replicate 6 0 := by simp [digTo, List.range, List.range.loop]
theorem digTo_set (x : Int) (k : Nat) (hk : k < 6) : (digTo x k).set (5 - k) (48 + x / 10 ^ k % 10) = digTo x (k + 1) := by
  apply List.ext_getElem
  · simp [digTo]
  · intro i h1 h2
    have hi : i < 6 := by simpa [digTo] using h2
    simp only [digTo, List.getElem_set, List.getElem_map, List.getElem_range]
    by_cases e : 5 - k = i
    · subst e
      rw [if_pos rfl, if_pos (by omega), show 5 - (5 - k) = k by omega]
    · rw [if_neg e]
      by_cases hj : 6 ≤ i + k
      · rw [if_pos hj, if_pos (by omega)]
      · rw [if_neg hj, if_neg (by omega)]
theorem div_pow10 (x : Int) (k : Nat) : x / 10 ^ k / 10 = x / 10 ^ (k + 1) := by
  rw [Int.ediv_ediv_of_nonneg (Int.pow_nonneg (by omega)), Int.pow_succ]

set_option maxRecDepth 100000 in
set_option maxHeartbeats 1000000 in
theorem prog_six (x : Int) (w : World) (hx : isW x) :
    Calls Tryz.prog 70 #[.int .u32 x] w fun r w' => r = .returned (.string (strOfNums (digTo x 6))) ∧ Below w.heap.size w w' := by
  go_enter Tryz.func70, Tryz.ntmps70
  go_wp2_with (refine wpList_allocR rfl 147 rfl 6 (.int .u8 0) arr6b ?_; go_simp)
  go_loopw [0, 4] (fun y c wr => ∃ k : Nat, k ≤ 6 ∧ c = .int .i64 (5 - (k : Int)) ∧ y = .int .u32 (x / 10 ^ k) ∧ Row wr w.heap.size (u8s (digTo x k)) 147 ∧ Below w.heap.size w wr)
    (fun _ c _ => (intOf c + 1).toNat)
  case atStart =>
    refine ⟨0, by omega, rfl, by simp, ?_, (Below.refl _ _).alloc (Nat.le_refl _) _⟩
    rw [digTo_zero, ← zrow_u8]; exact Row.made _ _ _
  case round =>
    obtain ⟨k, hk, rfl, rfl, hR, hB⟩ := hrel
    by_cases hlt : k < 6
    · have hc : wr.cell? ⟨w.heap.size, 5 - k, none⟩ = some (.int .u8 ((digTo x k).getD (5 - k) 0)) := by
        rw [hR.cell, u8s_get _ _ (by rw [digTo_length]; omega)]
      have hf := hR.frozen (5 - k)
      have HS : Hid _ := digTo_set x k hlt
      have HD : Hid _ := div_pow10 x k
      have hy : 0 ≤ x / 10 ^ k ∧ x / 10 ^ k < 4294967296 := by
        have h1 : (0 : Int) ≤ x / 10 ^ k := Int.ediv_nonneg hx.1 (Int.pow_nonneg (by omega))
        have h2 : x / 10 ^ k ≤ x := Int.ediv_le_self _ hx.1
        exact ⟨h1, by have := hx.2; omega⟩
      obtain ⟨hy0, hy1⟩ := hy
      generalize x / 10 ^ k = y at *
      have i0 : (0 : Int) ≤ 5 - (k : Int) := by omega
      go_wp2
      refine ⟨⟨k + 1, by omega, by go_num, by rw [HD.out], ?_, hB.setCell (Nat.le_refl _) _⟩, by simp [intOf]; omega⟩
      have := hR.setCell (5 - k) (.int .u8 (48 + y % 10))
      rwa [u8s_set, HS.out] at this
    · have hk6 : k = 6 := by omega
      subst hk6
      have hconv := run_convR wr w.heap.size (digTo x 6) 6 6 (digTo_length _ _) hR.range
      go_wp2
      go_ret
      exact ⟨rfl, hB⟩
end Go.Proofs.YtaokemapkgggoaaGreatDoor
