/- What is known of a slice of slices. Conditions: those of the theorem. -/
import Derived.Test.YtocjmbhfpofoeaaDoorUn
namespace Go.Proofs.YtocjmbhfpofoeaaDoor
open Go.RowKit
theorem Tryd.info22 : (Tryd.prog.info? 22).map (fun i => (i.zero, i.size, i.bytes)) = some (some (.slice none 0 0), 1, 24) := by kernel_rfl

end Go.Proofs.YtocjmbhfpofoeaaDoor
