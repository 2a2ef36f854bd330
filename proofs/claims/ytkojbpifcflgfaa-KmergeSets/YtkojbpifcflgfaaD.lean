/- The contracts of Put, span and join. Conditions: sizes far below what a slice may take; what the bytes are. -/
import Derived.Test.YtkojbpifcflgfaaC
namespace Go.Proofs.Ytkojbpifcflgfaa
open Go.RowKit

end Go.Proofs.Ytkojbpifcflgfaa
