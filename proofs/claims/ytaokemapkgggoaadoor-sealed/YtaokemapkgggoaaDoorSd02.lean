import Derived.Test.YtaokemapkgggoaaDoorSd01
namespace Go.Proofs.YtaokemapkgggoaaDoor
open Go.RowKit

theorem eight_le (n : Int) (i : Nat) (h0 : 0 ≤ n) : 0 ≤ n / 256 ^ i := Int.ediv_nonneg h0 (Int.pow_nonneg (by omega))
theorem eight_step (n : Int) (i : Nat) : strOfNums [n / 256 ^ i % 256] ++ strOfNums (eightL n i) = strOfNums (eightL n (i + 1)) := by
  rw [strOfNums_str, strOfNums_str, str_append]
  rfl
end Go.Proofs.YtaokemapkgggoaaDoor
