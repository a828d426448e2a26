/- The contracts of the reference's Right and Same, of the law's From and To. Condition: the States lie in memory, their numbers are of 64 bits. -/
import Derived.Test.YtjabfbeioapiaaaRr4
namespace Go.Proofs.Ytjabfbeioapiaaa.Sm4
set_option maxRecDepth 100000
open Go.ChangeShapes Go.WideShapes Go.ChangeAt Go.RowKit Mem Tre Ref3 Law3 Fix3 Crd CrdB CrdC Cpl Own Res Rr4
set_option linter.unusedVariables false

end Go.Proofs.Ytjabfbeioapiaaa.Sm4
