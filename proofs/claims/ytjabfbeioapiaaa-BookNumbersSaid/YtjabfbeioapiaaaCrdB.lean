/- The contracts of package credit, second part. -/
import Derived.Test.YtjabfbeioapiaaaCrd
import Derived.Deep.RegionHeld3
namespace Go.Proofs.Ytjabfbeioapiaaa.CrdB
set_option maxRecDepth 100000
open Go.ChangeShapes Go.WideShapes Go.ChangeAt Go.RowKit Mem Tre Ref3 Law3 Crd
set_option linter.unusedVariables false

def MadeOwnSt (l : List (Int × Int)) (u : List Int) (w : World) (e : Ending) (w' : World) : Prop :=
  ∃ A c A' c', e = .returned (.agg #[.slice A l.length c, .slice A' u.length c']) ∧ OwnN w.heap.size w' A c l ∧ OwnI w.heap.size w' A' c' u ∧ Below w.heap.size w w'

theorem below_step {a b c : World} (h : Below a.heap.size a b) (k : Below b.heap.size b c) : Below a.heap.size a c := h.trans (k.mono h.size)
theorem own_mono {w : World} {base base' : Nat} {e : TypeId} {size n : Nat} {v : Value} {xs : List Value} (h : w.ownsRow base e size v n xs) (hb : base' ≤ base) : w.ownsRow base' e size v n xs := by
  refine ⟨h.1, ?_⟩
  rcases h.2 with h2 | ⟨g, cap, cur, hv, hg, r⟩
  · exact .inl h2
  · exact .inr ⟨g, cap, cur, hv, by omega, r⟩

theorem blk_set {w : World} {g : Nat} {te : TypeId} {cs : Array Value} (h : Blk w g te cs) (i : Nat) (u : Value) : Blk (w.setCell ⟨g, i, none⟩ u) g te (cs.setIfInBounds i u) := by
  unfold Blk at h ⊢
  simp [World.setCell, Array.getElem?_modify, h]

end Go.Proofs.Ytjabfbeioapiaaa.CrdB
