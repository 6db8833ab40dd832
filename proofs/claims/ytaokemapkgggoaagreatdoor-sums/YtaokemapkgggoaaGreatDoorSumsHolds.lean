import Derived.Test.YtaokemapkgggoaaGreatDoorSumsCard
import Derived.Test.YtaokemapkgggoaaGreatDoorRefSum
namespace Go.Proofs.YtaokemapkgggoaaGreatDoor

/-- every Sum, Seal and Code is the document's -/
theorem sums_holds : Rows.SumsCardSaid := card fun s g w hS hs => ref_sum s g w hS hs
end Go.Proofs.YtaokemapkgggoaaGreatDoor
