/- The contract of credit.Limit: the code and the State are as the plain functions say. Condition: the State is one that may be, each node behind the one that it hangs on. -/
import Derived.Test.YtjabfbeioapiaaaRes
namespace Go.Proofs.Ytjabfbeioapiaaa.Lim
set_option maxRecDepth 100000
open Go.ChangeShapes Go.WideShapes Go.ChangeAt Go.RowKit Mem Tre Ref3 Law3 Fix3 Crd CrdB CrdC Cpl Own Res
set_option linter.unusedVariables false

def MadeLim (l : List (Int × Int)) (u : List Int) (b : Int) (w : World) (e : Ending) (w' : World) : Prop :=
  ∃ A c A' c', e = .returned (.tuple #[.agg #[.slice A l.length c, .slice A' u.length c'], .int .i64 b]) ∧ Nds w' w'.heap.size A l ∧ Ris w' w'.heap.size A' u ∧ Below w.heap.size w w'
theorem madeLim_mk {l l' : List (Int × Int)} {u : List Int} {b b' : Int} {A A' : Option Addr} {c c' : Nat} {w w' : World} (hu : l = l') (hp : b = b') (h1 : Nds w' w'.heap.size A l') (h2 : Ris w' w'.heap.size A' u) (hb : Below w.heap.size w w') :
    MadeLim l u b w (.returned (.tuple #[.agg #[.slice A l'.length c, .slice A' u.length c'], .int .i64 b'])) w' := by
  subst hu; subst hp; exact ⟨A, c, A', c', rfl, h1, h2, hb⟩

end Go.Proofs.Ytjabfbeioapiaaa.Lim
