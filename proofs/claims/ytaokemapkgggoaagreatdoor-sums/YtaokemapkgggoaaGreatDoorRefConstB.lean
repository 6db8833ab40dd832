import Derived.Test.YtaokemapkgggoaaGreatDoorRefBis
/-
  The roots by halving, reckoned by the kernel.
-/
namespace Go.Proofs.YtaokemapkgggoaaGreatDoor
theorem cube16 : rootL 59 true = 3835390401 := rootL_eq _ _ _ (by decide +kernel)
theorem cube17 : rootL 61 true = 4022224774 := rootL_eq _ _ _ (by decide +kernel)
theorem cube18 : rootL 67 true = 264347078 := rootL_eq _ _ _ (by decide +kernel)
theorem cube19 : rootL 71 true = 604807628 := rootL_eq _ _ _ (by decide +kernel)
theorem cube20 : rootL 73 true = 770255983 := rootL_eq _ _ _ (by decide +kernel)
theorem cube21 : rootL 79 true = 1249150122 := rootL_eq _ _ _ (by decide +kernel)
theorem cube22 : rootL 83 true = 1555081692 := rootL_eq _ _ _ (by decide +kernel)
theorem cube23 : rootL 89 true = 1996064986 := rootL_eq _ _ _ (by decide +kernel)
theorem cube24 : rootL 97 true = 2554220882 := rootL_eq _ _ _ (by decide +kernel)
theorem cube25 : rootL 101 true = 2821834349 := rootL_eq _ _ _ (by decide +kernel)
theorem cube26 : rootL 103 true = 2952996808 := rootL_eq _ _ _ (by decide +kernel)
theorem cube27 : rootL 107 true = 3210313671 := rootL_eq _ _ _ (by decide +kernel)
theorem cube28 : rootL 109 true = 3336571891 := rootL_eq _ _ _ (by decide +kernel)
theorem cube29 : rootL 113 true = 3584528711 := rootL_eq _ _ _ (by decide +kernel)
theorem cube30 : rootL 127 true = 113926993 := rootL_eq _ _ _ (by decide +kernel)
theorem cube31 : rootL 131 true = 338241895 := rootL_eq _ _ _ (by decide +kernel)
theorem square2 : rootL 5 false = 1013904242 := rootL_eq _ _ _ (by decide +kernel)
theorem square3 : rootL 7 false = 2773480762 := rootL_eq _ _ _ (by decide +kernel)
end Go.Proofs.YtaokemapkgggoaaGreatDoor
