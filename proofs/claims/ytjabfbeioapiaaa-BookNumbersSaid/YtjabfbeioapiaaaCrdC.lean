/- The contracts of package credit and of its reference, third part: Begin, Right, pathOf. -/
import Derived.Test.YtjabfbeioapiaaaCrdB
namespace Go.Proofs.Ytjabfbeioapiaaa.CrdC
set_option maxRecDepth 100000
open Go.ChangeShapes Go.WideShapes Go.ChangeAt Go.RowKit Mem Tre Ref3 Law3 Crd CrdB
set_option linter.unusedVariables false

def MadeSt (l : List (Int × Int)) (u : List Int) (w : World) (e : Ending) (w' : World) : Prop :=
  ∃ A c A' c', e = .returned (.agg #[.slice A l.length c, .slice A' u.length c']) ∧ Nds w' w'.heap.size A l ∧ Ris w' w'.heap.size A' u ∧ Below w.heap.size w w'
theorem madeSt_mk {l : List (Int × Int)} {u : List Int} {A A' : Option Addr} {n n' c c' : Nat} {w w' : World} (hn : n = l.length) (hn' : n' = u.length) (h1 : Nds w' w'.heap.size A l) (h2 : Ris w' w'.heap.size A' u) (hb : Below w.heap.size w w') :
    MadeSt l u w (.returned (.agg #[.slice A n c, .slice A' n' c'])) w' := by
  subst hn; subst hn'; exact ⟨A, c, A', c', rfl, h1, h2, hb⟩
def zeros (n : Nat) : List Int := List.replicate n 0
theorem zeros_len (n : Nat) : (zeros n).length = n := by simp [zeros]
theorem made_zeros (n : Nat) : (madeCells (Value.int .i64 0).cells n).toList = ints (zeros n) := by
  refine List.ext_getElem? fun i => ?_
  by_cases h : i < n
  · have e : (madeCells (Value.int .i64 0).cells n)[i]? = some (Value.int .i64 0) := by
      unfold madeCells
      simp [h, Value.cells]
      exact Nat.mod_one i ▸ rfl
    simp [ints, zeros, h, e]
  · simp [ints, zeros, madeCells, h]

theorem blk_far {w : World} {g : Nat} {te : TypeId} {cs : Array Value} (h : Blk w g te cs) {p : Addr} (hp : g ≠ p.block) (u : Value) : Blk (w.setCell p u) g te cs := (Below.heap_setCell w p u g hp).trans h

/-! ### Right -/
def maxC (x : Int) : Bool := decide (0 ≤ x) && decide (x ≤ 4611686018427387904)
def rightF (l : List (Int × Int)) (u : List Int) : Bool := decide ((chk l).1 = 0) && decide (u.length = l.length) && u.all maxC
def UOk (u : List Int) : Prop := ∀ i, i < u.length → 0 ≤ gI u i ∧ gI u i ≤ 4611686018427387904
theorem all_of {u : List Int} (h : UOk u) : u.all maxC = true := by
  simp only [List.all_eq_true]
  intro x hx
  obtain ⟨i, hi, rfl⟩ := List.getElem_of_mem hx
  have := h i hi
  simp [gI, hi] at this
  simp [maxC, this]
theorem all_not {u : List Int} {i : Nat} (hi : i < u.length) (h : gI u i < 0 ∨ 4611686018427387904 < gI u i) : u.all maxC = false := by
  rw [List.all_eq_false]
  refine ⟨u[i], List.getElem_mem hi, ?_⟩
  simp [gI, hi] at h
  simp [maxC]
  omega
theorem rightF_c {l : List (Int × Int)} {u : List Int} (h : ¬ (chk l).1 = 0) : rightF l u = false := by simp [rightF, h]
theorem rightF_l {l : List (Int × Int)} {u : List Int} (h : ¬ u.length = l.length) : rightF l u = false := by simp [rightF, h]
theorem rightF_a {l : List (Int × Int)} {u : List Int} (h : u.all maxC = false) : rightF l u = false := by unfold rightF; rw [h, Bool.and_false]
theorem rightF_t {l : List (Int × Int)} {u : List Int} (h : (chk l).1 = 0) (h' : u.length = l.length) (h'' : UOk u) : rightF l u = true := by
  simp only [rightF, all_of h'', h, h']; rfl

end Go.Proofs.Ytjabfbeioapiaaa.CrdC
