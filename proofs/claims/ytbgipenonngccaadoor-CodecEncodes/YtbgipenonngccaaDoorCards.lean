/-
  DERIVED. GIVEN WITH THE SEED: THE CARDS: each row of YtbgipenonngccaaDoorRows.lean that lists a variable, with what it lists TIED to the program's text (the seventh form; the later family's looks); each row that meets fmt, with fmt's text TOLD by the authors' own Lean function (tested against real Go, not proved from fmt's source: count such statements apart). THE CARD IS WHAT COUNTS. Prove the row's statement (the work); the ties are given (YtbgipenonngccaaDoorTie.lean); close each card by the builder's one call (the guide's Derived/Test/ToyasCard.lean, 'card_holds'). Laid BY PROGRAM, IN A SANDBOX (cutbox-door.mjs). By AI agents, Wed Nov 11 2026. No macro, syntax, notation, axiom, sorry.
-/
import Derived.Test.YtbgipenonngccaaDoorRows
import GoSem.ClaimSeven
namespace Go.Proofs.YtbgipenonngccaaDoor
namespace Rows

/-- THE TIED CARD OF 'eskerlaw04.CodecEncodes'. -/
def codecEncodesCard : Claim7 := { stood := { row := codecEncodesRow, standIns := [], harness := (true, "268070590a5cdbedef29cc263c966a7d9eccac97f001ce0c2ffcf9837f493a1d"), looks := false }, kinds := [], alts := [], laidByText := true, laidKinds := [.data], laidTests := true, laidLooks := .later }
def CodecEncodesCardSaid : Prop := Claim7.holds Tryd.pinned (.plain (OpenSpec.ofChange codecEncodesSpec)) codecEncodesCard

/-- THE TIED CARD OF 'eskerlaw04.CodecBack'. -/
def codecBackCard : Claim7 := { stood := { row := codecBackRow, standIns := [], harness := (true, "268070590a5cdbedef29cc263c966a7d9eccac97f001ce0c2ffcf9837f493a1d"), looks := false }, kinds := [], alts := [], laidByText := true, laidKinds := [.data], laidTests := true, laidLooks := .later }
def CodecBackCardSaid : Prop := Claim7.holds Tryd.pinned (.plain (OpenSpec.ofChange codecBackSpec)) codecBackCard

/-- THE TIED CARD OF 'eskerlaw04.CodecLeast'. -/
def codecLeastCard : Claim7 := { stood := { row := codecLeastRow, standIns := [], harness := (true, "268070590a5cdbedef29cc263c966a7d9eccac97f001ce0c2ffcf9837f493a1d"), looks := false }, kinds := [], alts := [], laidByText := true, laidKinds := [.data], laidTests := true, laidLooks := .later }
def CodecLeastCardSaid : Prop := Claim7.holds Tryd.pinned (.plain (OpenSpec.ofChange codecLeastSpec)) codecLeastCard

/-- THE TIED CARD OF 'eskerlaw04.CodecFlat'. -/
def codecFlatCard : Claim7 := { stood := { row := codecFlatRow, standIns := [], harness := (true, "268070590a5cdbedef29cc263c966a7d9eccac97f001ce0c2ffcf9837f493a1d"), looks := false }, kinds := [], alts := [], laidByText := true, laidKinds := [.data], laidTests := true, laidLooks := .later }
def CodecFlatCardSaid : Prop := Claim7.holds Tryd.pinned (.plain (OpenSpec.ofChange codecFlatSpec)) codecFlatCard

/-- THE TIED CARD OF 'eskerlaw04.CodecMoves'. -/
def codecMovesCard : Claim7 := { stood := { row := codecMovesRow, standIns := [], harness := (true, "268070590a5cdbedef29cc263c966a7d9eccac97f001ce0c2ffcf9837f493a1d"), looks := false }, kinds := [], alts := [], laidByText := true, laidKinds := [.data], laidTests := true, laidLooks := .later }
def CodecMovesCardSaid : Prop := Claim7.holds Tryd.pinned (.plain (OpenSpec.ofChange codecMovesSpec)) codecMovesCard

/-- THE SECOND FORM's CARD OF 'eskerlaw04.CodecEncodes'. -/
def codecEncodesUptoCard : Claim7 := { stood := { row := codecEncodesUptoRow, standIns := [], harness := (true, "268070590a5cdbedef29cc263c966a7d9eccac97f001ce0c2ffcf9837f493a1d"), looks := false }, kinds := [], alts := [], laidByText := true, laidKinds := [.data], laidTests := true, laidLooks := .later }
def CodecEncodesUptoCardSaid : Prop := Claim7.holds Tryd.pinned (.plain (OpenSpec.upto codecEncodesSpec)) codecEncodesUptoCard

/-- THE SECOND FORM's CARD OF 'eskerlaw04.CodecBack'. -/
def codecBackUptoCard : Claim7 := { stood := { row := codecBackUptoRow, standIns := [], harness := (true, "268070590a5cdbedef29cc263c966a7d9eccac97f001ce0c2ffcf9837f493a1d"), looks := false }, kinds := [], alts := [], laidByText := true, laidKinds := [.data], laidTests := true, laidLooks := .later }
def CodecBackUptoCardSaid : Prop := Claim7.holds Tryd.pinned (.plain (OpenSpec.upto codecBackSpec)) codecBackUptoCard

/-- THE SECOND FORM's CARD OF 'eskerlaw04.CodecLeast'. -/
def codecLeastUptoCard : Claim7 := { stood := { row := codecLeastUptoRow, standIns := [], harness := (true, "268070590a5cdbedef29cc263c966a7d9eccac97f001ce0c2ffcf9837f493a1d"), looks := false }, kinds := [], alts := [], laidByText := true, laidKinds := [.data], laidTests := true, laidLooks := .later }
def CodecLeastUptoCardSaid : Prop := Claim7.holds Tryd.pinned (.plain (OpenSpec.upto codecLeastSpec)) codecLeastUptoCard

/-- THE SECOND FORM's CARD OF 'eskerlaw04.CodecFlat'. -/
def codecFlatUptoCard : Claim7 := { stood := { row := codecFlatUptoRow, standIns := [], harness := (true, "268070590a5cdbedef29cc263c966a7d9eccac97f001ce0c2ffcf9837f493a1d"), looks := false }, kinds := [], alts := [], laidByText := true, laidKinds := [.data], laidTests := true, laidLooks := .later }
def CodecFlatUptoCardSaid : Prop := Claim7.holds Tryd.pinned (.plain (OpenSpec.upto codecFlatSpec)) codecFlatUptoCard

/-- THE SECOND FORM's CARD OF 'eskerlaw04.CodecMoves'. -/
def codecMovesUptoCard : Claim7 := { stood := { row := codecMovesUptoRow, standIns := [], harness := (true, "268070590a5cdbedef29cc263c966a7d9eccac97f001ce0c2ffcf9837f493a1d"), looks := false }, kinds := [], alts := [], laidByText := true, laidKinds := [.data], laidTests := true, laidLooks := .later }
def CodecMovesUptoCardSaid : Prop := Claim7.holds Tryd.pinned (.plain (OpenSpec.upto codecMovesSpec)) codecMovesUptoCard
end Rows
end Go.Proofs.YtbgipenonngccaaDoor
