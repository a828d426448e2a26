/- The contract of credit.Reserve once more, with where its answer lies: in new blocks. Condition: as there. -/
import Derived.Test.YtjabfbeioapiaaaRes
namespace Go.Proofs.Ytjabfbeioapiaaa.Rsf
set_option maxRecDepth 100000
open Go.ChangeShapes Go.WideShapes Go.ChangeAt Go.RowKit Mem Tre Ref3 Law3 Fix3 Crd CrdB CrdC Cpl Own Res
set_option linter.unusedVariables false

def MadeResF (l : List (Int × Int)) (u : List Int) (p : Int × Int) (w : World) (e : Ending) (w' : World) : Prop :=
  ∃ A c A' c', e = .returned (.tuple #[.agg #[.slice A l.length c, .slice A' u.length c'], .int .i64 p.1, .int .i64 p.2]) ∧ Nds w' w'.heap.size A l ∧ Ris w' w'.heap.size A' u ∧ Below w.heap.size w w' ∧
    (∀ a, A = some a → w.heap.size ≤ a.block) ∧ (∀ a, A' = some a → w.heap.size ≤ a.block)
theorem madeResF_mk {l : List (Int × Int)} {u u' : List Int} {p : Int × Int} {a b : Int} {A A' : Option Addr} {c c' : Nat} {w w' : World} (fa : ∀ a, A = some a → w.heap.size ≤ a.block) (fb : ∀ a, A' = some a → w.heap.size ≤ a.block) (hu : u = u') (hp : p = (a, b)) (h1 : Nds w' w'.heap.size A l) (h2 : Ris w' w'.heap.size A' u') (hb : Below w.heap.size w w') :
    MadeResF l u p w (.returned (.tuple #[.agg #[.slice A l.length c, .slice A' u'.length c'], .int .i64 a, .int .i64 b])) w' := by
  subst hu; subst hp; exact ⟨A, c, A', c', rfl, h1, h2, hb, fa, fb⟩
theorem own_fresh {w : World} {base : Nat} {e : TypeId} {size n c : Nat} {A : Option Addr} {xs : List Value} (h : w.ownsRow base e size (.slice A n c) n xs) (a : Addr) (ha : A = some a) : base ≤ a.block := by
  rcases h.2 with ⟨hv, _⟩ | ⟨g, cap, cur, hv, hg, _⟩
  · injection hv with hA
    rw [ha] at hA
    cases hA
  · injection hv with hA
    rw [ha] at hA
    injection hA with hA
    subst hA
    exact hg

end Go.Proofs.Ytjabfbeioapiaaa.Rsf
