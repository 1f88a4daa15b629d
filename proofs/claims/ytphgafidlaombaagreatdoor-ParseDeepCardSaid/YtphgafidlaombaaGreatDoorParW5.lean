/- The law of depth: what its texts come to, by the kernel's own reckoning (choices, to 59). -/
import Derived.Test.YtphgafidlaombaaGreatDoorParV
namespace Go.Proofs.YtphgafidlaombaaGreatDoor
theorem deep5_0 : (List.range' 0 10).all (deepOk 5) = true := by kernel_rfl
theorem deep5_1 : (List.range' 10 10).all (deepOk 5) = true := by kernel_rfl
theorem deep5_2 : (List.range' 20 10).all (deepOk 5) = true := by kernel_rfl
theorem deep5_3 : (List.range' 30 10).all (deepOk 5) = true := by kernel_rfl
theorem deep5_4 : (List.range' 40 10).all (deepOk 5) = true := by kernel_rfl
theorem deep5_5 : (List.range' 50 10).all (deepOk 5) = true := by kernel_rfl
end Go.Proofs.YtphgafidlaombaaGreatDoor
