import Derived.Test.YtaokemapkgggoaaGreatDoorRefBis
/-
  The roots by halving, reckoned by the kernel.
-/
namespace Go.Proofs.YtaokemapkgggoaaGreatDoor
theorem cube0 : rootL 2 true = 1116352408 := rootL_eq _ _ _ (by decide +kernel)
theorem cube1 : rootL 3 true = 1899447441 := rootL_eq _ _ _ (by decide +kernel)
theorem cube2 : rootL 5 true = 3049323471 := rootL_eq _ _ _ (by decide +kernel)
theorem cube3 : rootL 7 true = 3921009573 := rootL_eq _ _ _ (by decide +kernel)
theorem cube4 : rootL 11 true = 961987163 := rootL_eq _ _ _ (by decide +kernel)
theorem cube5 : rootL 13 true = 1508970993 := rootL_eq _ _ _ (by decide +kernel)
theorem cube6 : rootL 17 true = 2453635748 := rootL_eq _ _ _ (by decide +kernel)
theorem cube7 : rootL 19 true = 2870763221 := rootL_eq _ _ _ (by decide +kernel)
theorem cube8 : rootL 23 true = 3624381080 := rootL_eq _ _ _ (by decide +kernel)
theorem cube9 : rootL 29 true = 310598401 := rootL_eq _ _ _ (by decide +kernel)
theorem cube10 : rootL 31 true = 607225278 := rootL_eq _ _ _ (by decide +kernel)
theorem cube11 : rootL 37 true = 1426881987 := rootL_eq _ _ _ (by decide +kernel)
theorem cube12 : rootL 41 true = 1925078388 := rootL_eq _ _ _ (by decide +kernel)
theorem cube13 : rootL 43 true = 2162078206 := rootL_eq _ _ _ (by decide +kernel)
theorem cube14 : rootL 47 true = 2614888103 := rootL_eq _ _ _ (by decide +kernel)
theorem cube15 : rootL 53 true = 3248222580 := rootL_eq _ _ _ (by decide +kernel)
theorem square0 : rootL 2 false = 1779033703 := rootL_eq _ _ _ (by decide +kernel)
theorem square1 : rootL 3 false = 3144134277 := rootL_eq _ _ _ (by decide +kernel)
end Go.Proofs.YtaokemapkgggoaaGreatDoor
