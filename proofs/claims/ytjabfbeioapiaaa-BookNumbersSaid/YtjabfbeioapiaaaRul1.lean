/- The contracts of rules.Check and of its reference, and of what they call. Condition: the Config lies in memory, its numbers are of 64 bits. -/
import Derived.Test.YtjabfbeioapiaaaCfg
namespace Go.Proofs.Ytjabfbeioapiaaa.Rul1
set_option maxRecDepth 100000
open Go.ChangeShapes Go.WideShapes Go.ChangeAt Go.RowKit Mem Tre Ref3 Law3 Fix3 Opn Bnd Flo Cfg
set_option linter.unusedVariables false

attribute [local go_sem] run_store_float
def MadeX (x : Int) (w : World) (e : Ending) (w' : World) : Prop := e = .returned (.int .i64 x) ∧ Below w.heap.size w w'
theorem madeX_mk {x y : Int} {w w' : World} (h : x = y) (hb : Below w.heap.size w w') : MadeX x w (.returned (.int .i64 y)) w' := by subst h; exact ⟨rfl, hb⟩
theorem below_step {a b c : World} (h : Below a.heap.size a b) (k : Below b.heap.size b c) : Below a.heap.size a c := h.trans (k.mono h.size)

end Go.Proofs.Ytjabfbeioapiaaa.Rul1
