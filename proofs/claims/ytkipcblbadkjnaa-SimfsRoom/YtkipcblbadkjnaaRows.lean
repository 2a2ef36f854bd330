/-
  No cell of these rows narrows 'for every input' (looked for: loops, veiled, ifaces, maps, wideKeys, modest, calm, conditions, laid).
  DERIVED. THE GIVEN ROWS OF THIS SEAT. 7 by the template 'for every input the law returns true; each argument reads behind the call as it read before'; 0 by the template 'total and deterministic' (their statements: YtkipcblbadkjnaaTotals.lean).
  GIVEN WITH THE SEED: the statements are not yours to turn. If you find one false, say at which input.
  Laid BY PROGRAM, IN A SANDBOX (cutbox-rows.mjs): the forced cells as the released guide's own fill.sh prints them over the translation 19a8868fe623b981… (all of the seat's roots in one cut). By AI agents, Wed Nov 11 2026. No macro, syntax, notation, axiom, sorry.
-/
import Derived.Test.YtkipcblbadkjnaaChecked
import GoSem.Claim
import GoSem.ClaimJoined
import GoSem.ClaimMapViews
import Derived.JoinedTies
import Derived.KernelRfl
namespace Go.Proofs.Ytkipcblbadkjnaa
/- THE CELL 'sum', in the pinned program and in every row, IS THE sha256 OF THE DUMP (.gsa) THAT YtkipcblbadkjnaaProg.lean LOADS. Nothing in Lean hashes anything: it is a label: what it is worth is what the hold of that sum in a sandbox is worth. -/
noncomputable def Try.pinned : Pinned := { name := "ytkipcblbadkjnaa", sum := "19a8868fe623b9813b5b3552f06efa0a45dc35300ec1255c5ffcb362ed391d84", checked := Try.checked }
namespace Rows
def none {H : Type} : Left H := { results := [], args := [] }

/-- 'eskerlaw06.SimfsPlays': WHATEVER THE INPUT: true; the input reads as it did. -/
def simfsPlaysSpec : ChangeSpec := { name := "simfsPlays", fn := fun _ => fun
  | [d1, d2, d3] => { results := [.lit (.bool true)], args := [d1, d2, d3] }
  | _ => none }
def simfsPlaysRow : OpenClaim := { program := "ytkipcblbadkjnaa", sum := "19a8868fe623b9813b5b3552f06efa0a45dc35300ec1255c5ffcb362ed391d84", func := "esker/eskerlaw06.SimfsPlays", spec := "simfsPlays", inPlace := ["maps.clone"], unfollowed := true, recurses := true, apart := false }
def SimfsPlaysSaid : Prop := simfsPlaysRow.holds Try.pinned (OpenSpec.ofChange simfsPlaysSpec)

/-- ITS FALSE NEIGHBOUR: 'it returns false'. Refute it at one input. -/
def simfsPlaysWrong : ChangeSpec := { name := "simfsPlays", fn := fun _ => fun
  | [d1, d2, d3] => { results := [.lit (.bool false)], args := [d1, d2, d3] }
  | _ => none }
def SimfsPlaysWrongFalsely : Prop := simfsPlaysRow.holds Try.pinned (OpenSpec.ofChange simfsPlaysWrong)

/-- 'eskerlaw06.SimfsKeeps': WHATEVER THE INPUT: true; the input reads as it did. -/
def simfsKeepsSpec : ChangeSpec := { name := "simfsKeeps", fn := fun _ => fun
  | [d1, d2, d3] => { results := [.lit (.bool true)], args := [d1, d2, d3] }
  | _ => none }
def simfsKeepsRow : OpenClaim := { program := "ytkipcblbadkjnaa", sum := "19a8868fe623b9813b5b3552f06efa0a45dc35300ec1255c5ffcb362ed391d84", func := "esker/eskerlaw06.SimfsKeeps", spec := "simfsKeeps", inPlace := ["maps.clone"], unfollowed := true, recurses := true, apart := false }
def SimfsKeepsSaid : Prop := simfsKeepsRow.holds Try.pinned (OpenSpec.ofChange simfsKeepsSpec)

/-- ITS FALSE NEIGHBOUR: 'it returns false'. Refute it at one input. -/
def simfsKeepsWrong : ChangeSpec := { name := "simfsKeeps", fn := fun _ => fun
  | [d1, d2, d3] => { results := [.lit (.bool false)], args := [d1, d2, d3] }
  | _ => none }
def SimfsKeepsWrongFalsely : Prop := simfsKeepsRow.holds Try.pinned (OpenSpec.ofChange simfsKeepsWrong)

/-- 'eskerlaw06.SimfsSwaps': WHATEVER THE INPUT: true; the input reads as it did. -/
def simfsSwapsSpec : ChangeSpec := { name := "simfsSwaps", fn := fun _ => fun
  | [d1, d2, d3] => { results := [.lit (.bool true)], args := [d1, d2, d3] }
  | _ => none }
def simfsSwapsRow : OpenClaim := { program := "ytkipcblbadkjnaa", sum := "19a8868fe623b9813b5b3552f06efa0a45dc35300ec1255c5ffcb362ed391d84", func := "esker/eskerlaw06.SimfsSwaps", spec := "simfsSwaps", inPlace := ["maps.clone"], unfollowed := true, recurses := true, apart := false }
def SimfsSwapsSaid : Prop := simfsSwapsRow.holds Try.pinned (OpenSpec.ofChange simfsSwapsSpec)

/-- ITS FALSE NEIGHBOUR: 'it returns false'. Refute it at one input. -/
def simfsSwapsWrong : ChangeSpec := { name := "simfsSwaps", fn := fun _ => fun
  | [d1, d2, d3] => { results := [.lit (.bool false)], args := [d1, d2, d3] }
  | _ => none }
def SimfsSwapsWrongFalsely : Prop := simfsSwapsRow.holds Try.pinned (OpenSpec.ofChange simfsSwapsWrong)

/-- 'eskerlaw06.SimfsLinks': WHATEVER THE INPUT: true; the input reads as it did. -/
def simfsLinksSpec : ChangeSpec := { name := "simfsLinks", fn := fun _ => fun
  | [d1, d2, d3] => { results := [.lit (.bool true)], args := [d1, d2, d3] }
  | _ => none }
def simfsLinksRow : OpenClaim := { program := "ytkipcblbadkjnaa", sum := "19a8868fe623b9813b5b3552f06efa0a45dc35300ec1255c5ffcb362ed391d84", func := "esker/eskerlaw06.SimfsLinks", spec := "simfsLinks", inPlace := ["maps.clone"], unfollowed := true, recurses := true, apart := false }
def SimfsLinksSaid : Prop := simfsLinksRow.holds Try.pinned (OpenSpec.ofChange simfsLinksSpec)

/-- ITS FALSE NEIGHBOUR: 'it returns false'. Refute it at one input. -/
def simfsLinksWrong : ChangeSpec := { name := "simfsLinks", fn := fun _ => fun
  | [d1, d2, d3] => { results := [.lit (.bool false)], args := [d1, d2, d3] }
  | _ => none }
def SimfsLinksWrongFalsely : Prop := simfsLinksRow.holds Try.pinned (OpenSpec.ofChange simfsLinksWrong)

/-- 'eskerlaw06.SimfsRoom': WHATEVER THE INPUT: true; the input reads as it did. -/
def simfsRoomSpec : ChangeSpec := { name := "simfsRoom", fn := fun _ => fun
  | [d1, d2] => { results := [.lit (.bool true)], args := [d1, d2] }
  | _ => none }
def simfsRoomRow : OpenClaim := { program := "ytkipcblbadkjnaa", sum := "19a8868fe623b9813b5b3552f06efa0a45dc35300ec1255c5ffcb362ed391d84", func := "esker/eskerlaw06.SimfsRoom", spec := "simfsRoom", inPlace := ["maps.clone"], unfollowed := true, recurses := true, apart := false }
def SimfsRoomSaid : Prop := simfsRoomRow.holds Try.pinned (OpenSpec.ofChange simfsRoomSpec)

/-- ITS FALSE NEIGHBOUR: 'it returns false'. Refute it at one input. -/
def simfsRoomWrong : ChangeSpec := { name := "simfsRoom", fn := fun _ => fun
  | [d1, d2] => { results := [.lit (.bool false)], args := [d1, d2] }
  | _ => none }
def SimfsRoomWrongFalsely : Prop := simfsRoomRow.holds Try.pinned (OpenSpec.ofChange simfsRoomWrong)

/-- 'eskerlaw06.SimfsTwice': WHATEVER THE INPUT: true; the input reads as it did. -/
def simfsTwiceSpec : ChangeSpec := { name := "simfsTwice", fn := fun _ => fun
  | [d1, d2] => { results := [.lit (.bool true)], args := [d1, d2] }
  | _ => none }
def simfsTwiceRow : OpenClaim := { program := "ytkipcblbadkjnaa", sum := "19a8868fe623b9813b5b3552f06efa0a45dc35300ec1255c5ffcb362ed391d84", func := "esker/eskerlaw06.SimfsTwice", spec := "simfsTwice", inPlace := ["maps.clone"], unfollowed := true, recurses := true, apart := false }
def SimfsTwiceSaid : Prop := simfsTwiceRow.holds Try.pinned (OpenSpec.ofChange simfsTwiceSpec)

/-- ITS FALSE NEIGHBOUR: 'it returns false'. Refute it at one input. -/
def simfsTwiceWrong : ChangeSpec := { name := "simfsTwice", fn := fun _ => fun
  | [d1, d2] => { results := [.lit (.bool false)], args := [d1, d2] }
  | _ => none }
def SimfsTwiceWrongFalsely : Prop := simfsTwiceRow.holds Try.pinned (OpenSpec.ofChange simfsTwiceWrong)

/-- 'eskerlaw06.SimfsNone': WHATEVER THE INPUT: true; the input reads as it did. -/
def simfsNoneSpec : ChangeSpec := { name := "simfsNone", fn := fun _ => fun
  | [d1, d2, d3] => { results := [.lit (.bool true)], args := [d1, d2, d3] }
  | _ => none }
def simfsNoneRow : OpenClaim := { program := "ytkipcblbadkjnaa", sum := "19a8868fe623b9813b5b3552f06efa0a45dc35300ec1255c5ffcb362ed391d84", func := "esker/eskerlaw06.SimfsNone", spec := "simfsNone", inPlace := ["maps.clone"], unfollowed := true, recurses := true, apart := false }
def SimfsNoneSaid : Prop := simfsNoneRow.holds Try.pinned (OpenSpec.ofChange simfsNoneSpec)

/-- ITS FALSE NEIGHBOUR: 'it returns false'. Refute it at one input. -/
def simfsNoneWrong : ChangeSpec := { name := "simfsNone", fn := fun _ => fun
  | [d1, d2, d3] => { results := [.lit (.bool false)], args := [d1, d2, d3] }
  | _ => none }
def SimfsNoneWrongFalsely : Prop := simfsNoneRow.holds Try.pinned (OpenSpec.ofChange simfsNoneWrong)

/- THE SECOND FORM. 'bulk': how many values and letters a reading holds, each counted each time it is reached (what is shared counts as often as it is met; a slice's spare places count too). A statement '..UptoSaid' is the law's where the arguments, and the package variables that the reading takes, are together of bulk at most 1048576: NARROWER than '..Said'. Prove '..Said' where nothing that the law and all that it calls make is longer than what came in: it says more and counts as full. Else prove '..UptoSaid'. A law counts once. -/
mutual
def uptoBulk {H : Type} : DataW H → Nat
  | .lit (.string bytes) => bytes.length + 1
  | .lit _ => 1
  | .nil => 1
  | .ptr d => uptoBulk d + 1
  | .slice elems spare => uptoBulkAll elems + uptoBulkAll spare + 1
  | .agg parts => uptoBulkAll parts + 1
  | .iface _ d => uptoBulk d + 1
  | .map entries => uptoBulkEntries entries + 1
  | .held _ => 1
def uptoBulkAll {H : Type} : List (DataW H) → Nat
  | [] => 0
  | d :: r => uptoBulk d + uptoBulkAll r
def uptoBulkEntries {H : Type} : List (Lit × DataW H) → Nat
  | [] => 0
  | x :: r => uptoBulkEntry x + uptoBulkEntries r
def uptoBulkEntry {H : Type} : Lit × DataW H → Nat
  | (.string bytes, d) => bytes.length + uptoBulk d + 1
  | (_, d) => uptoBulk d + 1
 end
def uptoSmall : (H : Type) → List (DataW H) → Bool := fun _ ds => decide (uptoBulkAll ds ≤ 1048576)
def OpenSpec.upto (s : _root_.Go.ChangeSpec) : _root_.Go.OpenSpec := { _root_.Go.OpenSpec.ofChange s with cond := some uptoSmall }

/-- 'eskerlaw06.SimfsPlays', WHERE WHAT IT READS IS OF BULK AT MOST 1048576: true; the input reads as it did. -/
def simfsPlaysUptoRow : OpenClaim := { program := "ytkipcblbadkjnaa", sum := "19a8868fe623b9813b5b3552f06efa0a45dc35300ec1255c5ffcb362ed391d84", func := "esker/eskerlaw06.SimfsPlays", spec := "simfsPlays", inPlace := ["maps.clone"], unfollowed := true, recurses := true, apart := false, narrowed := true }
def SimfsPlaysUptoSaid : Prop := simfsPlaysUptoRow.holds Try.pinned (OpenSpec.upto simfsPlaysSpec)

/-- 'eskerlaw06.SimfsKeeps', WHERE WHAT IT READS IS OF BULK AT MOST 1048576: true; the input reads as it did. -/
def simfsKeepsUptoRow : OpenClaim := { program := "ytkipcblbadkjnaa", sum := "19a8868fe623b9813b5b3552f06efa0a45dc35300ec1255c5ffcb362ed391d84", func := "esker/eskerlaw06.SimfsKeeps", spec := "simfsKeeps", inPlace := ["maps.clone"], unfollowed := true, recurses := true, apart := false, narrowed := true }
def SimfsKeepsUptoSaid : Prop := simfsKeepsUptoRow.holds Try.pinned (OpenSpec.upto simfsKeepsSpec)

/-- 'eskerlaw06.SimfsSwaps', WHERE WHAT IT READS IS OF BULK AT MOST 1048576: true; the input reads as it did. -/
def simfsSwapsUptoRow : OpenClaim := { program := "ytkipcblbadkjnaa", sum := "19a8868fe623b9813b5b3552f06efa0a45dc35300ec1255c5ffcb362ed391d84", func := "esker/eskerlaw06.SimfsSwaps", spec := "simfsSwaps", inPlace := ["maps.clone"], unfollowed := true, recurses := true, apart := false, narrowed := true }
def SimfsSwapsUptoSaid : Prop := simfsSwapsUptoRow.holds Try.pinned (OpenSpec.upto simfsSwapsSpec)

/-- 'eskerlaw06.SimfsLinks', WHERE WHAT IT READS IS OF BULK AT MOST 1048576: true; the input reads as it did. -/
def simfsLinksUptoRow : OpenClaim := { program := "ytkipcblbadkjnaa", sum := "19a8868fe623b9813b5b3552f06efa0a45dc35300ec1255c5ffcb362ed391d84", func := "esker/eskerlaw06.SimfsLinks", spec := "simfsLinks", inPlace := ["maps.clone"], unfollowed := true, recurses := true, apart := false, narrowed := true }
def SimfsLinksUptoSaid : Prop := simfsLinksUptoRow.holds Try.pinned (OpenSpec.upto simfsLinksSpec)

/-- 'eskerlaw06.SimfsRoom', WHERE WHAT IT READS IS OF BULK AT MOST 1048576: true; the input reads as it did. -/
def simfsRoomUptoRow : OpenClaim := { program := "ytkipcblbadkjnaa", sum := "19a8868fe623b9813b5b3552f06efa0a45dc35300ec1255c5ffcb362ed391d84", func := "esker/eskerlaw06.SimfsRoom", spec := "simfsRoom", inPlace := ["maps.clone"], unfollowed := true, recurses := true, apart := false, narrowed := true }
def SimfsRoomUptoSaid : Prop := simfsRoomUptoRow.holds Try.pinned (OpenSpec.upto simfsRoomSpec)

/-- 'eskerlaw06.SimfsTwice', WHERE WHAT IT READS IS OF BULK AT MOST 1048576: true; the input reads as it did. -/
def simfsTwiceUptoRow : OpenClaim := { program := "ytkipcblbadkjnaa", sum := "19a8868fe623b9813b5b3552f06efa0a45dc35300ec1255c5ffcb362ed391d84", func := "esker/eskerlaw06.SimfsTwice", spec := "simfsTwice", inPlace := ["maps.clone"], unfollowed := true, recurses := true, apart := false, narrowed := true }
def SimfsTwiceUptoSaid : Prop := simfsTwiceUptoRow.holds Try.pinned (OpenSpec.upto simfsTwiceSpec)

/-- 'eskerlaw06.SimfsNone', WHERE WHAT IT READS IS OF BULK AT MOST 1048576: true; the input reads as it did. -/
def simfsNoneUptoRow : OpenClaim := { program := "ytkipcblbadkjnaa", sum := "19a8868fe623b9813b5b3552f06efa0a45dc35300ec1255c5ffcb362ed391d84", func := "esker/eskerlaw06.SimfsNone", spec := "simfsNone", inPlace := ["maps.clone"], unfollowed := true, recurses := true, apart := false, narrowed := true }
def SimfsNoneUptoSaid : Prop := simfsNoneUptoRow.holds Try.pinned (OpenSpec.upto simfsNoneSpec)

end Rows
end Go.Proofs.Ytkipcblbadkjnaa
