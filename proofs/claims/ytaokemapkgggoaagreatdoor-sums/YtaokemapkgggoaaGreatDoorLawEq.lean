import Derived.Test.YtaokemapkgggoaaGreatDoorLawSums
namespace Go.Proofs.YtaokemapkgggoaaGreatDoor
open Go.RowKit
theorem equalZ (w : World) : (Op.equalIn 10000 47 (.agg (zrow 32 (.int .u8 0)).toArray) (.agg (zrow 32 (.int .u8 0)).toArray)).run Tryz.prog w = .ok true w := by
  kernel_rfl

end Go.Proofs.YtaokemapkgggoaaGreatDoor
