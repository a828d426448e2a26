/- The contract of fixed.Add, and words on rows of the call's own that are written. Condition: the numbers are of 64 bits. -/
import Derived.Test.YtjabfbeioapiaaaCpl
namespace Go.Proofs.Ytjabfbeioapiaaa.Own
set_option maxRecDepth 100000
open Go.ChangeShapes Go.WideShapes Go.ChangeAt Go.RowKit Mem Tre Ref3 Law3 Fix3 Crd CrdB CrdC Cpl
set_option linter.unusedVariables false

/-- fits 64 bits -/
def inB (x : Int) : Bool := decide (-9223372036854775808 ≤ x ∧ x ≤ 9223372036854775807)
def numV (x : Int) : Int := if inB x then x else 0

theorem inB_t {x : Int} (h : -9223372036854775808 ≤ x) (h' : x ≤ 9223372036854775807) : inB x = true := by
  unfold inB; simp [h, h']
theorem inB_f {x : Int} (h : x < -9223372036854775808 ∨ 9223372036854775807 < x) : inB x = false := by
  unfold inB; simp; omega
theorem inB_of {x : Int} (h : inB x = true) : -9223372036854775808 ≤ x ∧ x ≤ 9223372036854775807 := by
  unfold inB at h; simpa using h
theorem numV_t {x : Int} (h : inB x = true) : numV x = x := by unfold numV; simp [h]
theorem numV_f {x : Int} (h : inB x = false) : numV x = 0 := by unfold numV; simp [h]
theorem numV_lo (x : Int) : -9223372036854775808 ≤ numV x := by
  unfold numV; split
  · rename_i h; exact (inB_of h).1
  · omega
theorem numV_hi (x : Int) : numV x ≤ 9223372036854775807 := by
  unfold numV; split
  · rename_i h; exact (inB_of h).2
  · omega

def Told (x : Int) (w : Go.World) (e : Ending) (w' : Go.World) : Prop := e = .returned (.tuple #[.int .i64 (numV x), .bool (inB x)]) ∧ w = w'

theorem told_t {x : Int} {w : Go.World} {y : Int} (h : -9223372036854775808 ≤ x) (h' : x ≤ 9223372036854775807) (hy : y = x) : Told x w (.returned (.tuple #[.int .i64 y, .bool true])) w := by
  have := inB_t h h'
  subst hy
  exact ⟨by rw [numV_t this, this], rfl⟩
theorem told_f {x : Int} {w : Go.World} (h : x < -9223372036854775808 ∨ 9223372036854775807 < x) : Told x w (.returned (.tuple #[.int .i64 0, .bool false])) w := by
  have := inB_f h
  exact ⟨by rw [numV_f this, this], rfl⟩

theorem told_no {x : Int} {w : Go.World} (h : inB x = false) : Told x w (.returned (.tuple #[.int .i64 0, .bool false])) w :=
  ⟨by rw [numV_f h, h], rfl⟩

/-- a row of numbers of the call's own, opened -/
theorem own_at {w : World} {base : Nat} {e : TypeId} {A : Option Addr} {n c : Nat} {u : List Int} (h : w.ownsRow base e 1 (.slice A n c) n (ints u)) (h0 : 0 < u.length) :
    ∃ g, A = some ⟨g, 0, none⟩ ∧ base ≤ g ∧ g < w.heap.size ∧ n = u.length ∧ (∀ j, j < u.length → w.cell? ⟨g, j, none⟩ = some (.int .i64 (gI u j)) ∧ w.frozen? ⟨g, j, none⟩ = false) ∧
      ∀ (j : Nat) (x : Int), j < u.length → (w.setCell ⟨g, j, none⟩ (.int .i64 x)).ownsRow base e 1 (.slice A n c) n (ints (u.set j x)) := by
  have hn : n = u.length := by have := h.1; rw [ints_len] at this; omega
  subst hn
  have hA : ∃ g, A = some ⟨g, 0, none⟩ ∧ base ≤ g := by
    rcases h.2 with ⟨h1, h2⟩ | ⟨g, cap, cur, h1, h2, _⟩
    · omega
    · injection h1 with h1; exact ⟨g, h1, h2⟩
  obtain ⟨g, rfl, hg⟩ := hA
  have hlt := World.ownsRow.lt h g rfl
  refine ⟨g, rfl, hg, hlt.2, rfl, fun j hj => ⟨?_, World.ownsRow.frozenAt h j⟩, fun j x hj => ?_⟩
  · rw [World.ownsRow.cellAt h j (by omega)]
    simp [ints, gI, hj]
  · have := World.ownsRow.stored h j (.int .i64 x)
    have e : (ints u).set j (.int .i64 x) = ints (u.set j x) := by simp [ints, List.map_set]
    rw [e] at this
    exact this.1
/-- a row of pairs of the call's own, opened -/
theorem own_at2 {w : World} {base : Nat} {e : TypeId} {A : Option Addr} {n c : Nat} {l : List (Int × Int)} (h : w.ownsRow base e 2 (.slice A n c) n (nds l)) (h0 : 0 < l.length) :
    ∃ g, A = some ⟨g, 0, none⟩ ∧ base ≤ g ∧ g < w.heap.size ∧ n = l.length ∧ (∀ j, j < l.length → w.cell? ⟨g, j * 2, none⟩ = some (.int .i64 (nP l j)) ∧ w.cell? ⟨g, j * 2 + 1, none⟩ = some (.int .i64 (nC l j)) ∧ w.frozen? ⟨g, j * 2 + 1, none⟩ = false) ∧
      ∀ (j : Nat) (x : Int), j < l.length → (w.setCell ⟨g, j * 2 + 1, none⟩ (.int .i64 x)).ownsRow base e 2 (.slice A n c) n (nds (l.set j (nP l j, x))) := by
  have hn : n = l.length := by have := h.1; rw [nds_len] at this; omega
  subst hn
  have hA : ∃ g, A = some ⟨g, 0, none⟩ ∧ base ≤ g := by
    rcases h.2 with ⟨h1, h2⟩ | ⟨g, cap, cur, h1, h2, _⟩
    · omega
    · injection h1 with h1; exact ⟨g, h1, h2⟩
  obtain ⟨g, rfl, hg⟩ := hA
  have hlt := World.ownsRow.lt h g rfl
  refine ⟨g, rfl, hg, hlt.2, rfl, fun j hj => ⟨?_, ?_, World.ownsRow.frozenAt h _⟩, fun j x hj => ?_⟩
  · rw [World.ownsRow.cellAt h _ (by omega)]; exact (nds_get l j hj).1
  · rw [World.ownsRow.cellAt h _ (by omega)]; exact (nds_get l j hj).2
  · have := World.ownsRow.stored h (j * 2 + 1) (.int .i64 x)
    have e : (nds l).set (j * 2 + 1) (.int .i64 x) = nds (l.set j (nP l j, x)) := by
      clear this h hlt hg h0
      induction l generalizing j with
      | nil => simp at hj
      | cons p l ih =>
        cases j with
        | zero => simp [nds, ndV, nP]
        | succ j =>
          have h' := ih j (by simpa using hj)
          have e1 : (j + 1) * 2 + 1 = (j * 2 + 1) + 1 + 1 := by omega
          have e2 : nP (p :: l) (j + 1) = nP l j := by simp [nP]
          rw [e1, e2]
          simpa [nds, ndV] using h'
    rw [e] at this
    exact this.1
/-- a row of another kind stays while one is written -/
theorem own_other {w : World} {base base' : Nat} {e e' : TypeId} {size n size' n' c' g : Nat} {v : Value} {xs ys : List Value} (h : w.ownsRow base e size v n xs) (h' : w.ownsRow base' e' size' (.slice (some ⟨g, 0, none⟩) n' c') n' ys) (hne : e ≠ e') (j : Nat) (u : Value) :
    (w.setCell ⟨g, j, none⟩ u).ownsRow base e size v n xs := by
  refine ⟨h.1, ?_⟩
  rcases h.2 with h2 | ⟨k, cap, cur, hv, hg, hh, r⟩
  · exact .inl h2
  · refine .inr ⟨k, cap, cur, hv, hg, ?_, r⟩
    rw [Below.heap_setCell _ _ _ _ ?_]
    · exact hh
    · rintro rfl
      rcases h'.2 with ⟨h1, _⟩ | ⟨k', cap', cur', h1, _, hh', _⟩
      · cases h1
      · injection h1 with h1
        injection h1 with h1
        injection h1 with h1
        subst h1
        rw [hh] at hh'
        injection hh' with hh'
        injection hh' with _ q
        exact hne q
/-- the last store: the result's block takes the State -/
theorem fin_st {w W : World} {A A' : Option Addr} {c c' g base : Nat} {l : List (Int × Int)} {u : List Int} {te : TypeId} {x y : Value}
    (o1 : W.ownsRow base 84 2 (.slice A l.length c) l.length (nds l)) (o2 : W.ownsRow base 2 1 (.slice A' u.length c') u.length (ints u)) (k : Blk W g te #[x, y]) (hg : g < base) (hw : w.heap.size ≤ g) (hb : Below w.heap.size w W) (a b : Value) :
    Nds ((W.setCell ⟨g, 0, none⟩ a).setCell ⟨g, 1, none⟩ b) ((W.setCell ⟨g, 0, none⟩ a).setCell ⟨g, 1, none⟩ b).heap.size A l ∧ Ris ((W.setCell ⟨g, 0, none⟩ a).setCell ⟨g, 1, none⟩ b) ((W.setCell ⟨g, 0, none⟩ a).setCell ⟨g, 1, none⟩ b).heap.size A' u ∧
    Below w.heap.size w ((W.setCell ⟨g, 0, none⟩ a).setCell ⟨g, 1, none⟩ b) ∧ ((W.setCell ⟨g, 0, none⟩ a).setCell ⟨g, 1, none⟩ b).cell? ⟨g, 0, none⟩ = some a ∧ ((W.setCell ⟨g, 0, none⟩ a).setCell ⟨g, 1, none⟩ b).cell? ⟨g, 1, none⟩ = some b := by
  have kf := blk_set (blk_set k 0 a) 1 b
  exact ⟨Rd.of_own (ownsRow_setCell_below (ownsRow_setCell_below o1 hg _) hg _), Rd.of_own (ownsRow_setCell_below (ownsRow_setCell_below o2 hg _) hg _), (hb.setCell hw _).setCell hw _, by rw [kf.cell]; rfl, by rw [kf.cell]; rfl⟩
end Go.Proofs.Ytjabfbeioapiaaa.Own
