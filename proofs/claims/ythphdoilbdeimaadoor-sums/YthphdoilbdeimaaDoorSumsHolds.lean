import Derived.Test.YthphdoilbdeimaaDoorSumsCard
import Derived.Test.YthphdoilbdeimaaDoorRefSum
namespace Go.Proofs.YthphdoilbdeimaaDoor

/-- every Sum, Seal and Code is the document's -/
theorem sums_holds : Rows.SumsCardSaid := card fun s g w hS hs => ref_sum s g w hS hs
end Go.Proofs.YthphdoilbdeimaaDoor
