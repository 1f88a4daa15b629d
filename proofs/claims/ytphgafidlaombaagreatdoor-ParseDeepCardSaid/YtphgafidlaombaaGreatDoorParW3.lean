/- The law of depth: what its texts come to, by the kernel's own reckoning (4 of 6). -/
import Derived.Test.YtphgafidlaombaaGreatDoorParV
namespace Go.Proofs.YtphgafidlaombaaGreatDoor
theorem deep3 : (List.range 80).all (deepOk 3) = true := by kernel_rfl
end Go.Proofs.YtphgafidlaombaaGreatDoor
