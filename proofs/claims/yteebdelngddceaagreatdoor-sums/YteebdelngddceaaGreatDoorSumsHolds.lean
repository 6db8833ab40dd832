import Derived.Test.YteebdelngddceaaGreatDoorSumsCard
import Derived.Test.YteebdelngddceaaGreatDoorRefSum
namespace Go.Proofs.YteebdelngddceaaGreatDoor

/-- every Sum, Seal and Code is the document's -/
theorem sums_holds : Rows.SumsCardSaid := card fun s g w hS hs => ref_sum s g w hS hs
end Go.Proofs.YteebdelngddceaaGreatDoor
