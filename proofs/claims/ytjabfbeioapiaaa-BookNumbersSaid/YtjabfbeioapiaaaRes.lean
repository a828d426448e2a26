/- The contract of credit.Reserve: the code, the place and the State are as the plain functions say. Condition: the State is one that may be, each node behind the one that it hangs on. -/
import Derived.Test.YtjabfbeioapiaaaOwn
namespace Go.Proofs.Ytjabfbeioapiaaa.Res
set_option maxRecDepth 100000
open Go.ChangeShapes Go.WideShapes Go.ChangeAt Go.RowKit Mem Tre Ref3 Law3 Fix3 Crd CrdB CrdC Cpl Own
set_option linter.unusedVariables false

/-- a State that may be, in memory -/
structure GoodSt (l : List (Int × Int)) (u : List Int) : Prop where
  okt : Okt l
  one : 1 ≤ l.length
  few : l.length ≤ 32
  len : u.length = l.length
  uok : UOk u
theorem GoodSt.right {l : List (Int × Int)} {u : List Int} (h : GoodSt l u) : rightF l u = true := okt_right h.okt h.one h.few h.len h.uok
theorem GoodSt.wf {l : List (Int × Int)} {u : List Int} (h : GoodSt l u) : WfN l := okt_wf h.okt h.few
theorem GoodSt.wfi {l : List (Int × Int)} {u : List Int} (h : GoodSt l u) : WfI u := uok_wf h.uok
def MadeRes (l : List (Int × Int)) (u : List Int) (p : Int × Int) (w : World) (e : Ending) (w' : World) : Prop :=
  ∃ A c A' c', e = .returned (.tuple #[.agg #[.slice A l.length c, .slice A' u.length c'], .int .i64 p.1, .int .i64 p.2]) ∧ Nds w' w'.heap.size A l ∧ Ris w' w'.heap.size A' u ∧ Below w.heap.size w w'

theorem madeRes_mk {l : List (Int × Int)} {u u' : List Int} {p : Int × Int} {a b : Int} {A A' : Option Addr} {c c' : Nat} {w w' : World} (hu : u = u') (hp : p = (a, b)) (h1 : Nds w' w'.heap.size A l) (h2 : Ris w' w'.heap.size A' u') (hb : Below w.heap.size w w') :
    MadeRes l u p w (.returned (.tuple #[.agg #[.slice A l.length c, .slice A' u'.length c'], .int .i64 a, .int .i64 b])) w' := by
  subst hu; subst hp; exact ⟨A, c, A', c', rfl, h1, h2, hb⟩

end Go.Proofs.Ytjabfbeioapiaaa.Res
