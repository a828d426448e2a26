/- The contract of the reference's Fix of nodes once more, its answer a row of its own. Condition: the list lies in memory, its numbers are of 64 bits. -/
import Derived.Test.YtkobldddiedmdaaRfx
import Derived.Test.YtkobldddiedmdaaFcf
namespace Go.Proofs.Ytkobldddiedmdaa.Fown
set_option maxRecDepth 100000
open Go.ChangeShapes Go.WideShapes Go.ChangeAt Go.RowKit Mem Tre Ref3 Law3 Fix3
set_option linter.unusedVariables false
set_option linter.unusedSimpArgs false

theorem own_one {w : World} {g : Nat} {te : TypeId} {base : Nat} {a b : Value} (h : Blk w g te #[a, b]) (hb : base ≤ g) : w.ownsRow base te 2 (.slice (some ⟨g, 0, none⟩) 1 1) 1 [a, b] :=
  ⟨by simp, .inr ⟨g, 1, #[a, b], rfl, hb, h, Nat.le_refl _, by unfold maxLen; omega, by simp, by simp⟩⟩

end Go.Proofs.Ytkobldddiedmdaa.Fown
