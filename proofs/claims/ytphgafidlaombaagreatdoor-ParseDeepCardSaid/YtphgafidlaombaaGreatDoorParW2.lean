/- The law of depth: what its texts come to, by the kernel's own reckoning (calls). -/
import Derived.Test.YtphgafidlaombaaGreatDoorParV
namespace Go.Proofs.YtphgafidlaombaaGreatDoor
theorem deep2_0 : (List.range' 0 10).all (deepOk 2) = true := by kernel_rfl
theorem deep2_1 : (List.range' 10 10).all (deepOk 2) = true := by kernel_rfl
theorem deep2_2 : (List.range' 20 10).all (deepOk 2) = true := by kernel_rfl
theorem deep2_3 : (List.range' 30 10).all (deepOk 2) = true := by kernel_rfl
theorem deep2_4 : (List.range' 40 10).all (deepOk 2) = true := by kernel_rfl
theorem deep2_5 : (List.range' 50 10).all (deepOk 2) = true := by kernel_rfl
theorem deep2_6 : (List.range' 60 10).all (deepOk 2) = true := by kernel_rfl
theorem deep2_7 : (List.range' 70 10).all (deepOk 2) = true := by kernel_rfl
end Go.Proofs.YtphgafidlaombaaGreatDoor
