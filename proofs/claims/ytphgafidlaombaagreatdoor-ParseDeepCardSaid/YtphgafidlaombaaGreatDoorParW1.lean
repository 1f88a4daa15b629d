/- The law of depth: what its texts come to, by the kernel's own reckoning (2 of 6). -/
import Derived.Test.YtphgafidlaombaaGreatDoorParV
namespace Go.Proofs.YtphgafidlaombaaGreatDoor
theorem deep1 : (List.range 80).all (deepOk 1) = true := by kernel_rfl
end Go.Proofs.YtphgafidlaombaaGreatDoor
