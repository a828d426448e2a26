/- The contracts of the reference of layer 3 and of the law's own helpers: each call answers as the plain functions over lists of pairs say, and makes memory of its own alone. Condition: the list lies in memory, its numbers are of 64 bits. -/
import Derived.Test.YtkobldddiedmdaaTre
namespace Go.Proofs.Ytkobldddiedmdaa.Ref3
set_option maxRecDepth 100000
open Go.ChangeShapes Go.WideShapes Go.ChangeAt Go.RowKit Mem Tre

def MadeIB (xs : List Int) (b : Bool) (w : World) (e : Ending) (w' : World) : Prop := ∃ A c, e = .returned (.tuple #[.slice A xs.length c, .bool b]) ∧ Ris w' w'.heap.size A xs ∧ Below w.heap.size w w'
theorem madeIB_mk {xs ys : List Int} {b b' : Bool} {A : Option Addr} {c : Nat} {w w' : World} (h : ys = xs) (hb' : b' = b) (hr : Ris w' w'.heap.size A xs) (hb : Below w.heap.size w w') : MadeIB ys b' w (.returned (.tuple #[.slice A xs.length c, .bool b])) w' := by
  subst h; subst hb'; exact ⟨A, c, rfl, hr, hb⟩
theorem fitF_out {l : List (Int × Int)} {g : Nat} {n : Int} (h : inR l.length n = false) : fitF l g n = true := by
  cases g <;> simp [fitF, h]
theorem fitF_in {l : List (Int × Int)} {g : Nat} {n : Int} (h : inR l.length n = true) : fitF l (g + 1) n = fitF l g (nP l n.toNat) := by
  rw [fitF, if_pos h]

theorem climbF_go {l : List (Int × Int)} {g k : Nat} (h : top l 3 k = true) : climbF l (g + 1) k = climbF l g (k + 1) := by rw [climbF, if_pos h]
theorem climbF_no {l : List (Int × Int)} {g k : Nat} (h : top l 3 k = false) : climbF l (g + 1) k = (16, (k : Int)) := by rw [climbF, h]; rfl

end Go.Proofs.Ytkobldddiedmdaa.Ref3
