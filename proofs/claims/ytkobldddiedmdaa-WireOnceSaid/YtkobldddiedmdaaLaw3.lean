/- The contracts of the law's helpers over lists of pairs and of numbers. Condition: the lists lie in memory, their numbers are of 64 bits. -/
import Derived.Test.YtkobldddiedmdaaRef3
import Derived.RegionTactic
import Derived.Deep.RegionLaw
import Derived.BigQuiet
import Derived.Deep.QuietTactic
namespace Go.Proofs.Ytkobldddiedmdaa.Law3
set_option maxRecDepth 100000
open Go.ChangeShapes Go.WideShapes Go.ChangeAt Go.RowKit Mem Tre Ref3
set_option linter.unusedVariables false

/-- a list of pairs in new memory -/
def MadeNds (l : List (Int × Int)) (w : World) (e : Ending) (w' : World) : Prop := ∃ A c, e = .returned (.slice A l.length c) ∧ Nds w' w'.heap.size A l ∧ Below w.heap.size w w'
theorem madeNds_mk {xs ys : List (Int × Int)} {A : Option Addr} {c : Nat} {w w' : World} (h : ys = xs) (hr : Nds w' w'.heap.size A xs) (hb : Below w.heap.size w w') : MadeNds ys w (.returned (.slice A xs.length c)) w' := by
  subst h; exact ⟨A, c, rfl, hr, hb⟩
theorem take_snoc {l : List (Int × Int)} {k : Nat} (h : k < l.length) : l.take (k + 1) = l.take k ++ [(nP l k, nC l k)] := by
  have e : l[k] = (nP l k, nC l k) := by simp [nP, nC, h]
  rw [List.take_succ_eq_append_getElem h, e]

theorem eqB {a b : Int} {x : Bool} (h : (a = b) ↔ x = true) : (a == b) = x := by
  cases x <;> simp_all
def eqI (xs ys : List Int) : Bool := decide (xs = ys)
theorem eqI_len {xs ys : List Int} (h : ¬ xs.length = ys.length) : eqI xs ys = false := by unfold eqI; simp; intro e; exact h (by rw [e])
theorem eqI_at {xs ys : List Int} {i : Nat} (h : ¬ gI xs i = gI ys i) : eqI xs ys = false := by unfold eqI; simp; intro e; exact h (by rw [e])
theorem eqI_all {xs ys : List Int} (hl : xs.length = ys.length) (h : ∀ i, i < xs.length → gI xs i = gI ys i) : eqI xs ys = true := by
  unfold eqI
  simp only [decide_eq_true_eq]
  refine List.ext_getElem hl fun i h1 h2 => ?_
  have := h i h1
  simpa [gI, h1, h2] using this
theorem eqI_refl (xs : List Int) : eqI xs xs = true := by unfold eqI; simp
def MadeB (b : Bool) (w : World) (e : Ending) (w' : World) : Prop := e = .returned (.bool b) ∧ Below w.heap.size w w'
theorem madeB_mk {b b' : Bool} {w w' : World} (h : b' = b) (hb : Below w.heap.size w w') : MadeB b' w (.returned (.bool b)) w' := by subst h; exact ⟨rfl, hb⟩

end Go.Proofs.Ytkobldddiedmdaa.Law3
