/- The contracts of package credit: each call answers as the plain functions over lists say, and makes memory of its own alone. Condition: the State lies in memory, its numbers are of 64 bits. -/
import Derived.Test.YtkobldddiedmdaaLaw3
import Derived.WalkSpells
import Derived.Deep.RegionWith
import Derived.Deep.RegionLaw
import Derived.Lib.LazyBuf
namespace Go.Proofs.Ytkobldddiedmdaa.Crd
set_option maxRecDepth 100000
open Go.ChangeShapes Go.WideShapes Go.ChangeAt Go.RowKit Mem Tre Ref3 Law3
set_option linter.unusedVariables false

theorem i64_info : (Try.prog.info? 2).map (fun i => (i.zero, i.size, i.bytes)) = some (some (.int .i64 0), 1, 8) := by kernel_rfl

def OwnI (base : Nat) (w : World) (A : Option Addr) (c : Nat) (u : List Int) : Prop := w.ownsRow base 2 1 (.slice A u.length c) u.length (ints u)
def MadeOwnI (u : List Int) (w : World) (e : Ending) (w' : World) : Prop := ∃ A c, e = .returned (.slice A u.length c) ∧ OwnI w.heap.size w' A c u ∧ Below w.heap.size w w'

end Go.Proofs.Ytkobldddiedmdaa.Crd
