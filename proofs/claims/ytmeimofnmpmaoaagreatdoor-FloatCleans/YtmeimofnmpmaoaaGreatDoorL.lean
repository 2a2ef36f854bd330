/- The library's contracts, laid at this program. Conditions: those of each contract. -/
import Derived.Test.YtmeimofnmpmaoaaGreatDoorRows
import Derived.Ground.NamesProg
import Derived.Shelf.Lay
import Derived.Shelf.Bits.Mul64
import Derived.Shelf.Strconv.Itoa4
import Derived.Shelf.Strconv.AtoiAll
import Derived.Shelf.Strings.Cut
import Derived.Shelf.Strings.Prefix
import Derived.Shelf.Strconv.Lower
namespace Go.Proofs
open Go.Shelf
shelf_lay Lays.n264 Nm 264 at Tryz as Tryz.laysMul64
shelf_lay Lays.n129 Nm 129 at Tryz as Tryz.laysLen64
shelf_lay LaysM.n284 Nm 284 at Tryz as Tryz.laysNumDigits
shelf_lay Lays.n285 Nm 285 at Tryz as Tryz.laysBase10
shelf_lay LaysM.n173 Nm 173 at Tryz as Tryz.laysFormatInt
shelf_lay LaysM.n171 Nm 171 at Tryz as Tryz.laysItoa
shelf_lay LaysC.n172 Nm 172 at Tryz as Tryz.laysAtoi
shelf_lay Lays.n145 Nm 145 at Tryz as Tryz.laysCut
shelf_lay LaysM.n145 Nm 145 at Tryz as Tryz.laysCutM
shelf_lay Lays.n321 Nm 321 at Tryz as Tryz.laysLower
shelf_lay Lays.n318 Nm 318 at Tryz as Tryz.laysBool2
shelf_lay Lays.n317 Nm 317 at Tryz as Tryz.laysLog10
shelf_lay Lays.n101 Nm 101 at Tryz as Tryz.laysTrimPrefix
end Go.Proofs
