/-
  No cell of these rows narrows 'for every input' (looked for: loops, veiled, ifaces, maps, wideKeys, modest, calm, conditions, laid).
  DERIVED. THE GIVEN ROWS OF THIS SEAT. 6 by the template 'for every input the law returns true; each argument reads behind the call as it read before'; 0 by the template 'total and deterministic' (their statements: YthklkhdcmoonkaaTotals.lean).
  GIVEN WITH THE SEED: the statements are not yours to turn. If you find one false, say at which input.
  Laid BY PROGRAM, IN A SANDBOX (cutbox-rows.mjs): the forced cells as the released guide's own fill.sh prints them over the translation 49e8ca7c6d0d5190… (all of the seat's roots in one cut). By AI agents, Wed Nov 11 2026. No macro, syntax, notation, axiom, sorry.
-/
import Derived.Test.YthklkhdcmoonkaaChecked
import GoSem.Claim
import GoSem.ClaimJoined
import GoSem.ClaimMapViews
import Derived.JoinedTies
import Derived.KernelRfl
namespace Go.Proofs.Ythklkhdcmoonkaa
/- THE CELL 'sum', in the pinned program and in every row, IS THE sha256 OF THE DUMP (.gsa) THAT YthklkhdcmoonkaaProg.lean LOADS. Nothing in Lean hashes anything: it is a label: what it is worth is what the hold of that sum in a sandbox is worth. -/
noncomputable def Try.pinned : Pinned := { name := "ythklkhdcmoonkaa", sum := "49e8ca7c6d0d5190e7e24ada66d63ca6a2888973fec88ae0ed7e92e8bd58c3a6", checked := Try.checked }
namespace Rows
def none {H : Type} : Left H := { results := [], args := [] }

/-- 'eskerlaw07.LabelsCanons': WHATEVER THE INPUT: true; the input reads as it did. -/
def labelsCanonsSpec : ChangeSpec := { name := "labelsCanons", fn := fun _ => fun
  | [d1, d2] => { results := [.lit (.bool true)], args := [d1, d2] }
  | _ => none }
def labelsCanonsRow : OpenClaim := { program := "ythklkhdcmoonkaa", sum := "49e8ca7c6d0d5190e7e24ada66d63ca6a2888973fec88ae0ed7e92e8bd58c3a6", func := "esker/eskerlaw07.LabelsCanons", spec := "labelsCanons", inPlace := ["internal/reflectlite.ValueOf", "internal/reflectlite.Swapper", "(internal/reflectlite.Value).Len", "internal/bytealg.abigen_runtime_cmpstring"], unfollowed := true, recurses := true, apart := false }
def LabelsCanonsSaid : Prop := labelsCanonsRow.holds Try.pinned (OpenSpec.ofChange labelsCanonsSpec)

/-- ITS FALSE NEIGHBOUR: 'it returns false'. Refute it at one input. -/
def labelsCanonsWrong : ChangeSpec := { name := "labelsCanons", fn := fun _ => fun
  | [d1, d2] => { results := [.lit (.bool false)], args := [d1, d2] }
  | _ => none }
def LabelsCanonsWrongFalsely : Prop := labelsCanonsRow.holds Try.pinned (OpenSpec.ofChange labelsCanonsWrong)

/-- 'eskerlaw07.LabelsBytes': WHATEVER THE INPUT: true; the input reads as it did. -/
def labelsBytesSpec : ChangeSpec := { name := "labelsBytes", fn := fun _ => fun
  | [d1, d2, d3] => { results := [.lit (.bool true)], args := [d1, d2, d3] }
  | _ => none }
def labelsBytesRow : OpenClaim := { program := "ythklkhdcmoonkaa", sum := "49e8ca7c6d0d5190e7e24ada66d63ca6a2888973fec88ae0ed7e92e8bd58c3a6", func := "esker/eskerlaw07.LabelsBytes", spec := "labelsBytes", inPlace := ["internal/reflectlite.ValueOf", "internal/reflectlite.Swapper", "(internal/reflectlite.Value).Len", "internal/bytealg.abigen_runtime_cmpstring"], unfollowed := true, recurses := true, apart := false }
def LabelsBytesSaid : Prop := labelsBytesRow.holds Try.pinned (OpenSpec.ofChange labelsBytesSpec)

/-- ITS FALSE NEIGHBOUR: 'it returns false'. Refute it at one input. -/
def labelsBytesWrong : ChangeSpec := { name := "labelsBytes", fn := fun _ => fun
  | [d1, d2, d3] => { results := [.lit (.bool false)], args := [d1, d2, d3] }
  | _ => none }
def LabelsBytesWrongFalsely : Prop := labelsBytesRow.holds Try.pinned (OpenSpec.ofChange labelsBytesWrong)

/-- 'eskerlaw07.LabelsCompares': WHATEVER THE INPUT: true; the input reads as it did. -/
def labelsComparesSpec : ChangeSpec := { name := "labelsCompares", fn := fun _ => fun
  | [d1, d2] => { results := [.lit (.bool true)], args := [d1, d2] }
  | _ => none }
def labelsComparesRow : OpenClaim := { program := "ythklkhdcmoonkaa", sum := "49e8ca7c6d0d5190e7e24ada66d63ca6a2888973fec88ae0ed7e92e8bd58c3a6", func := "esker/eskerlaw07.LabelsCompares", spec := "labelsCompares", inPlace := ["internal/reflectlite.ValueOf", "internal/reflectlite.Swapper", "(internal/reflectlite.Value).Len", "internal/bytealg.abigen_runtime_cmpstring"], unfollowed := true, recurses := true, apart := false }
def LabelsComparesSaid : Prop := labelsComparesRow.holds Try.pinned (OpenSpec.ofChange labelsComparesSpec)

/-- ITS FALSE NEIGHBOUR: 'it returns false'. Refute it at one input. -/
def labelsComparesWrong : ChangeSpec := { name := "labelsCompares", fn := fun _ => fun
  | [d1, d2] => { results := [.lit (.bool false)], args := [d1, d2] }
  | _ => none }
def LabelsComparesWrongFalsely : Prop := labelsComparesRow.holds Try.pinned (OpenSpec.ofChange labelsComparesWrong)

/-- 'eskerlaw07.LabelsBack': WHATEVER THE INPUT: true; the input reads as it did. -/
def labelsBackSpec : ChangeSpec := { name := "labelsBack", fn := fun _ => fun
  | [d1, d2, d3] => { results := [.lit (.bool true)], args := [d1, d2, d3] }
  | _ => none }
def labelsBackRow : OpenClaim := { program := "ythklkhdcmoonkaa", sum := "49e8ca7c6d0d5190e7e24ada66d63ca6a2888973fec88ae0ed7e92e8bd58c3a6", func := "esker/eskerlaw07.LabelsBack", spec := "labelsBack", inPlace := ["internal/reflectlite.ValueOf", "internal/reflectlite.Swapper", "(internal/reflectlite.Value).Len", "internal/bytealg.abigen_runtime_cmpstring"], unfollowed := true, recurses := true, apart := false }
def LabelsBackSaid : Prop := labelsBackRow.holds Try.pinned (OpenSpec.ofChange labelsBackSpec)

/-- ITS FALSE NEIGHBOUR: 'it returns false'. Refute it at one input. -/
def labelsBackWrong : ChangeSpec := { name := "labelsBack", fn := fun _ => fun
  | [d1, d2, d3] => { results := [.lit (.bool false)], args := [d1, d2, d3] }
  | _ => none }
def LabelsBackWrongFalsely : Prop := labelsBackRow.holds Try.pinned (OpenSpec.ofChange labelsBackWrong)

/-- 'eskerlaw07.LabelsOrders': WHATEVER THE INPUT: true; the input reads as it did. -/
def labelsOrdersSpec : ChangeSpec := { name := "labelsOrders", fn := fun _ => fun
  | [d1, d2, d3] => { results := [.lit (.bool true)], args := [d1, d2, d3] }
  | _ => none }
def labelsOrdersRow : OpenClaim := { program := "ythklkhdcmoonkaa", sum := "49e8ca7c6d0d5190e7e24ada66d63ca6a2888973fec88ae0ed7e92e8bd58c3a6", func := "esker/eskerlaw07.LabelsOrders", spec := "labelsOrders", inPlace := ["internal/reflectlite.ValueOf", "internal/reflectlite.Swapper", "(internal/reflectlite.Value).Len", "internal/bytealg.abigen_runtime_cmpstring"], unfollowed := true, recurses := true, apart := false }
def LabelsOrdersSaid : Prop := labelsOrdersRow.holds Try.pinned (OpenSpec.ofChange labelsOrdersSpec)

/-- ITS FALSE NEIGHBOUR: 'it returns false'. Refute it at one input. -/
def labelsOrdersWrong : ChangeSpec := { name := "labelsOrders", fn := fun _ => fun
  | [d1, d2, d3] => { results := [.lit (.bool false)], args := [d1, d2, d3] }
  | _ => none }
def LabelsOrdersWrongFalsely : Prop := labelsOrdersRow.holds Try.pinned (OpenSpec.ofChange labelsOrdersWrong)

/-- 'eskerlaw07.LabelsOwn': WHATEVER THE INPUT: true; the input reads as it did. -/
def labelsOwnSpec : ChangeSpec := { name := "labelsOwn", fn := fun _ => fun
  | [d] => { results := [.lit (.bool true)], args := [d] }
  | _ => none }
def labelsOwnRow : OpenClaim := { program := "ythklkhdcmoonkaa", sum := "49e8ca7c6d0d5190e7e24ada66d63ca6a2888973fec88ae0ed7e92e8bd58c3a6", func := "esker/eskerlaw07.LabelsOwn", spec := "labelsOwn", inPlace := ["internal/reflectlite.ValueOf", "internal/reflectlite.Swapper", "(internal/reflectlite.Value).Len", "internal/bytealg.abigen_runtime_cmpstring"], unfollowed := true, recurses := true, apart := false }
def LabelsOwnSaid : Prop := labelsOwnRow.holds Try.pinned (OpenSpec.ofChange labelsOwnSpec)

/-- ITS FALSE NEIGHBOUR: 'it returns false'. Refute it at one input. -/
def labelsOwnWrong : ChangeSpec := { name := "labelsOwn", fn := fun _ => fun
  | [d] => { results := [.lit (.bool false)], args := [d] }
  | _ => none }
def LabelsOwnWrongFalsely : Prop := labelsOwnRow.holds Try.pinned (OpenSpec.ofChange labelsOwnWrong)

/- THE SECOND FORM. 'bulk': how many values and letters a reading holds, each counted each time it is reached (what is shared counts as often as it is met; a slice's spare places count too). A statement '..UptoSaid' is the law's where the arguments, and the package variables that the reading takes, are together of bulk at most 1048576: NARROWER than '..Said'. Prove '..Said' where nothing that the law and all that it calls make is longer than what came in: it says more and counts as full. Else prove '..UptoSaid'. A law counts once. -/
mutual
def uptoBulk {H : Type} : DataW H → Nat
  | .lit (.string bytes) => bytes.length + 1
  | .lit _ => 1
  | .nil => 1
  | .ptr d => uptoBulk d + 1
  | .slice elems spare => uptoBulkAll elems + uptoBulkAll spare + 1
  | .agg parts => uptoBulkAll parts + 1
  | .iface _ d => uptoBulk d + 1
  | .map entries => uptoBulkEntries entries + 1
  | .held _ => 1
def uptoBulkAll {H : Type} : List (DataW H) → Nat
  | [] => 0
  | d :: r => uptoBulk d + uptoBulkAll r
def uptoBulkEntries {H : Type} : List (Lit × DataW H) → Nat
  | [] => 0
  | x :: r => uptoBulkEntry x + uptoBulkEntries r
def uptoBulkEntry {H : Type} : Lit × DataW H → Nat
  | (.string bytes, d) => bytes.length + uptoBulk d + 1
  | (_, d) => uptoBulk d + 1
 end
def uptoSmall : (H : Type) → List (DataW H) → Bool := fun _ ds => decide (uptoBulkAll ds ≤ 1048576)
def OpenSpec.upto (s : _root_.Go.ChangeSpec) : _root_.Go.OpenSpec := { _root_.Go.OpenSpec.ofChange s with cond := some uptoSmall }

/-- 'eskerlaw07.LabelsCanons', WHERE WHAT IT READS IS OF BULK AT MOST 1048576: true; the input reads as it did. -/
def labelsCanonsUptoRow : OpenClaim := { program := "ythklkhdcmoonkaa", sum := "49e8ca7c6d0d5190e7e24ada66d63ca6a2888973fec88ae0ed7e92e8bd58c3a6", func := "esker/eskerlaw07.LabelsCanons", spec := "labelsCanons", inPlace := ["internal/reflectlite.ValueOf", "internal/reflectlite.Swapper", "(internal/reflectlite.Value).Len", "internal/bytealg.abigen_runtime_cmpstring"], unfollowed := true, recurses := true, apart := false, narrowed := true }
def LabelsCanonsUptoSaid : Prop := labelsCanonsUptoRow.holds Try.pinned (OpenSpec.upto labelsCanonsSpec)

/-- 'eskerlaw07.LabelsBytes', WHERE WHAT IT READS IS OF BULK AT MOST 1048576: true; the input reads as it did. -/
def labelsBytesUptoRow : OpenClaim := { program := "ythklkhdcmoonkaa", sum := "49e8ca7c6d0d5190e7e24ada66d63ca6a2888973fec88ae0ed7e92e8bd58c3a6", func := "esker/eskerlaw07.LabelsBytes", spec := "labelsBytes", inPlace := ["internal/reflectlite.ValueOf", "internal/reflectlite.Swapper", "(internal/reflectlite.Value).Len", "internal/bytealg.abigen_runtime_cmpstring"], unfollowed := true, recurses := true, apart := false, narrowed := true }
def LabelsBytesUptoSaid : Prop := labelsBytesUptoRow.holds Try.pinned (OpenSpec.upto labelsBytesSpec)

/-- 'eskerlaw07.LabelsCompares', WHERE WHAT IT READS IS OF BULK AT MOST 1048576: true; the input reads as it did. -/
def labelsComparesUptoRow : OpenClaim := { program := "ythklkhdcmoonkaa", sum := "49e8ca7c6d0d5190e7e24ada66d63ca6a2888973fec88ae0ed7e92e8bd58c3a6", func := "esker/eskerlaw07.LabelsCompares", spec := "labelsCompares", inPlace := ["internal/reflectlite.ValueOf", "internal/reflectlite.Swapper", "(internal/reflectlite.Value).Len", "internal/bytealg.abigen_runtime_cmpstring"], unfollowed := true, recurses := true, apart := false, narrowed := true }
def LabelsComparesUptoSaid : Prop := labelsComparesUptoRow.holds Try.pinned (OpenSpec.upto labelsComparesSpec)

/-- 'eskerlaw07.LabelsBack', WHERE WHAT IT READS IS OF BULK AT MOST 1048576: true; the input reads as it did. -/
def labelsBackUptoRow : OpenClaim := { program := "ythklkhdcmoonkaa", sum := "49e8ca7c6d0d5190e7e24ada66d63ca6a2888973fec88ae0ed7e92e8bd58c3a6", func := "esker/eskerlaw07.LabelsBack", spec := "labelsBack", inPlace := ["internal/reflectlite.ValueOf", "internal/reflectlite.Swapper", "(internal/reflectlite.Value).Len", "internal/bytealg.abigen_runtime_cmpstring"], unfollowed := true, recurses := true, apart := false, narrowed := true }
def LabelsBackUptoSaid : Prop := labelsBackUptoRow.holds Try.pinned (OpenSpec.upto labelsBackSpec)

/-- 'eskerlaw07.LabelsOrders', WHERE WHAT IT READS IS OF BULK AT MOST 1048576: true; the input reads as it did. -/
def labelsOrdersUptoRow : OpenClaim := { program := "ythklkhdcmoonkaa", sum := "49e8ca7c6d0d5190e7e24ada66d63ca6a2888973fec88ae0ed7e92e8bd58c3a6", func := "esker/eskerlaw07.LabelsOrders", spec := "labelsOrders", inPlace := ["internal/reflectlite.ValueOf", "internal/reflectlite.Swapper", "(internal/reflectlite.Value).Len", "internal/bytealg.abigen_runtime_cmpstring"], unfollowed := true, recurses := true, apart := false, narrowed := true }
def LabelsOrdersUptoSaid : Prop := labelsOrdersUptoRow.holds Try.pinned (OpenSpec.upto labelsOrdersSpec)

/-- 'eskerlaw07.LabelsOwn', WHERE WHAT IT READS IS OF BULK AT MOST 1048576: true; the input reads as it did. -/
def labelsOwnUptoRow : OpenClaim := { program := "ythklkhdcmoonkaa", sum := "49e8ca7c6d0d5190e7e24ada66d63ca6a2888973fec88ae0ed7e92e8bd58c3a6", func := "esker/eskerlaw07.LabelsOwn", spec := "labelsOwn", inPlace := ["internal/reflectlite.ValueOf", "internal/reflectlite.Swapper", "(internal/reflectlite.Value).Len", "internal/bytealg.abigen_runtime_cmpstring"], unfollowed := true, recurses := true, apart := false, narrowed := true }
def LabelsOwnUptoSaid : Prop := labelsOwnUptoRow.holds Try.pinned (OpenSpec.upto labelsOwnSpec)

end Rows
end Go.Proofs.Ythklkhdcmoonkaa
