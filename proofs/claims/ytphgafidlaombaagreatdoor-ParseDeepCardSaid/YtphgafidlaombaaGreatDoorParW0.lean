/- The law of depth: what its texts come to, by the kernel's own reckoning (1 of 6). -/
import Derived.Test.YtphgafidlaombaaGreatDoorParV
namespace Go.Proofs.YtphgafidlaombaaGreatDoor
theorem deep0 : (List.range 80).all (deepOk 0) = true := by kernel_rfl
end Go.Proofs.YtphgafidlaombaaGreatDoor
