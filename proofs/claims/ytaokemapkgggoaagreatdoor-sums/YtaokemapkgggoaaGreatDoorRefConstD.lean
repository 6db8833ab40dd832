import Derived.Test.YtaokemapkgggoaaGreatDoorRefBis
/-
  The roots by halving, reckoned by the kernel.
-/
namespace Go.Proofs.YtaokemapkgggoaaGreatDoor
theorem cube48 : rootL 227 true = 430227734 := rootL_eq _ _ _ (by decide +kernel)
theorem cube49 : rootL 229 true = 506948616 := rootL_eq _ _ _ (by decide +kernel)
theorem cube50 : rootL 233 true = 659060556 := rootL_eq _ _ _ (by decide +kernel)
theorem cube51 : rootL 239 true = 883997877 := rootL_eq _ _ _ (by decide +kernel)
theorem cube52 : rootL 241 true = 958139571 := rootL_eq _ _ _ (by decide +kernel)
theorem cube53 : rootL 251 true = 1322822218 := rootL_eq _ _ _ (by decide +kernel)
theorem cube54 : rootL 257 true = 1537002063 := rootL_eq _ _ _ (by decide +kernel)
theorem cube55 : rootL 263 true = 1747873779 := rootL_eq _ _ _ (by decide +kernel)
theorem cube56 : rootL 269 true = 1955562222 := rootL_eq _ _ _ (by decide +kernel)
theorem cube57 : rootL 271 true = 2024104815 := rootL_eq _ _ _ (by decide +kernel)
theorem cube58 : rootL 277 true = 2227730452 := rootL_eq _ _ _ (by decide +kernel)
theorem cube59 : rootL 281 true = 2361852424 := rootL_eq _ _ _ (by decide +kernel)
theorem cube60 : rootL 283 true = 2428436474 := rootL_eq _ _ _ (by decide +kernel)
theorem cube61 : rootL 293 true = 2756734187 := rootL_eq _ _ _ (by decide +kernel)
theorem cube62 : rootL 307 true = 3204031479 := rootL_eq _ _ _ (by decide +kernel)
theorem cube63 : rootL 311 true = 3329325298 := rootL_eq _ _ _ (by decide +kernel)
theorem square6 : rootL 17 false = 528734635 := rootL_eq _ _ _ (by decide +kernel)
theorem square7 : rootL 19 false = 1541459225 := rootL_eq _ _ _ (by decide +kernel)
end Go.Proofs.YtaokemapkgggoaaGreatDoor
