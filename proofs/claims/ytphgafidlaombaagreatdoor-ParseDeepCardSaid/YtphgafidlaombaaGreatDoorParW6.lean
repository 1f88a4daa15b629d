/- The law of depth: what its texts come to, by the kernel's own reckoning (choices, from 60). -/
import Derived.Test.YtphgafidlaombaaGreatDoorParV
namespace Go.Proofs.YtphgafidlaombaaGreatDoor
theorem deep5_6 : (List.range' 60 10).all (deepOk 5) = true := by kernel_rfl
theorem deep5_7 : (List.range' 70 10).all (deepOk 5) = true := by kernel_rfl
end Go.Proofs.YtphgafidlaombaaGreatDoor
