/- The contract of credit.Release: whether it is done, and the State, are as the plain functions say. Condition: the State is one that may be, each node behind the one that it hangs on. -/
import Derived.Test.YtjabfbeioapiaaaRes
namespace Go.Proofs.Ytjabfbeioapiaaa.Rel
set_option maxRecDepth 100000
open Go.ChangeShapes Go.WideShapes Go.ChangeAt Go.RowKit Mem Tre Ref3 Law3 Fix3 Crd CrdB CrdC Cpl Own Res
set_option linter.unusedVariables false

def MadeRel (l : List (Int × Int)) (u : List Int) (b : Bool) (w : World) (e : Ending) (w' : World) : Prop :=
  ∃ A c A' c', e = .returned (.tuple #[.agg #[.slice A l.length c, .slice A' u.length c'], .bool b]) ∧ Nds w' w'.heap.size A l ∧ Ris w' w'.heap.size A' u ∧ Below w.heap.size w w'
theorem madeRel_mk {l : List (Int × Int)} {u u' : List Int} {b b' : Bool} {A A' : Option Addr} {c c' : Nat} {w w' : World} (hu : u = u') (hp : b = b') (h1 : Nds w' w'.heap.size A l) (h2 : Ris w' w'.heap.size A' u') (hb : Below w.heap.size w w') :
    MadeRel l u b w (.returned (.tuple #[.agg #[.slice A l.length c, .slice A' u'.length c'], .bool b'])) w' := by
  subst hu; subst hp; exact ⟨A, c, A', c', rfl, h1, h2, hb⟩
theorem relF_0 {l : List (Int × Int)} {u : List Int} {n x : Int} (h : (pathF l 3 n).length = 0) : relF l u n x = false := by unfold relF; simp [h]
theorem relF_m {l : List (Int × Int)} {u : List Int} {n x : Int} (h : x < 0) : relF l u n x = false := by
  unfold relF
  have : decide (0 ≤ x) = false := by simp; omega
  simp [this]
theorem relF_no {l : List (Int × Int)} {u : List Int} {n x : Int} {i : Nat} (hi : i < (pathF l 3 n).length) (h : gI u (gI (pathF l 3 n) i).toNat < x) : relF l u n x = false := by
  have : ((pathF l 3 n).all fun m => decide (x ≤ gI u m.toNat)) = false := by
    rw [List.all_eq_false]
    refine ⟨(pathF l 3 n)[i], List.getElem_mem hi, ?_⟩
    simp [gI, hi] at h ⊢
    exact h
  unfold relF
  rw [this, Bool.and_false]
theorem relF_t {l : List (Int × Int)} {u : List Int} {n x : Int} (h0 : 0 < (pathF l 3 n).length) (hx : 0 ≤ x) (h : ∀ i, i < (pathF l 3 n).length → x ≤ gI u (gI (pathF l 3 n) i).toNat) : relF l u n x = true := by
  have : ((pathF l 3 n).all fun m => decide (x ≤ gI u m.toNat)) = true := by
    rw [List.all_eq_true]
    intro m hm
    obtain ⟨i, hi, rfl⟩ := List.getElem_of_mem hm
    have := h i hi
    simp [gI, hi] at this
    simpa [gI] using this
  unfold relF
  rw [this]
  simp [h0, hx]

end Go.Proofs.Ytjabfbeioapiaaa.Rel
