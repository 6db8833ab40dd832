import Derived.Test.YtaokemapkgggoaaGreatDoorRefBis
/-
  The roots by halving, reckoned by the kernel.
-/
namespace Go.Proofs.YtaokemapkgggoaaGreatDoor
theorem cube32 : rootL 137 true = 666307205 := rootL_eq _ _ _ (by decide +kernel)
theorem cube33 : rootL 139 true = 773529912 := rootL_eq _ _ _ (by decide +kernel)
theorem cube34 : rootL 149 true = 1294757372 := rootL_eq _ _ _ (by decide +kernel)
theorem cube35 : rootL 151 true = 1396182291 := rootL_eq _ _ _ (by decide +kernel)
theorem cube36 : rootL 157 true = 1695183700 := rootL_eq _ _ _ (by decide +kernel)
theorem cube37 : rootL 163 true = 1986661051 := rootL_eq _ _ _ (by decide +kernel)
theorem cube38 : rootL 167 true = 2177026350 := rootL_eq _ _ _ (by decide +kernel)
theorem cube39 : rootL 173 true = 2456956037 := rootL_eq _ _ _ (by decide +kernel)
theorem cube40 : rootL 179 true = 2730485921 := rootL_eq _ _ _ (by decide +kernel)
theorem cube41 : rootL 181 true = 2820302411 := rootL_eq _ _ _ (by decide +kernel)
theorem cube42 : rootL 191 true = 3259730800 := rootL_eq _ _ _ (by decide +kernel)
theorem cube43 : rootL 193 true = 3345764771 := rootL_eq _ _ _ (by decide +kernel)
theorem cube44 : rootL 197 true = 3516065817 := rootL_eq _ _ _ (by decide +kernel)
theorem cube45 : rootL 199 true = 3600352804 := rootL_eq _ _ _ (by decide +kernel)
theorem cube46 : rootL 211 true = 4094571909 := rootL_eq _ _ _ (by decide +kernel)
theorem cube47 : rootL 223 true = 275423344 := rootL_eq _ _ _ (by decide +kernel)
theorem square4 : rootL 11 false = 1359893119 := rootL_eq _ _ _ (by decide +kernel)
theorem square5 : rootL 13 false = 2600822924 := rootL_eq _ _ _ (by decide +kernel)
end Go.Proofs.YtaokemapkgggoaaGreatDoor
