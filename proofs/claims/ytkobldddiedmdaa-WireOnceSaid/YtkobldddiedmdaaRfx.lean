/- The contract of the reference's Fix, and that what it gives is a tree that may be. Condition: the list lies in memory, its numbers are of 64 bits. -/
import Derived.Test.YtkobldddiedmdaaLaw3
namespace Go.Proofs.Ytkobldddiedmdaa.Fix3
set_option maxRecDepth 100000
open Go.ChangeShapes Go.WideShapes Go.ChangeAt Go.RowKit Mem Tre Ref3 Law3
set_option linter.unusedVariables false

def capF (c : Int) : Int := (c % 18446744073709551616) % 4611686018427387905
def fixP (l out : List (Int × Int)) (k : Nat) : Int :=
  if 0 < k ∧ 0 ≤ nP l k then (if 3 ≤ (pathF out 3 (nP l k % k)).length then -1 else nP l k % k) else -1
def fixK (l : List (Int × Int)) : Nat → List (Int × Int)
  | 0 => []
  | k + 1 => fixK l k ++ [(fixP l (fixK l k) k, capF (nC l k))]
def fixF (l : List (Int × Int)) : List (Int × Int) := if l.length = 0 then [(-1, 1000)] else fixK l (min l.length 10)
theorem fixK_len (l : List (Int × Int)) (k : Nat) : (fixK l k).length = k := by
  induction k with
  | zero => rfl
  | succ k ih => rw [fixK, List.length_append, ih]; rfl
theorem capF_b (c : Int) : 0 ≤ capF c ∧ capF c ≤ 4611686018427387904 := by unfold capF; omega

/-- a tree that may be, each node behind the one that it hangs on -/
def Okt (l : List (Int × Int)) : Prop := ∀ i, i < l.length → -1 ≤ nP l i ∧ nP l i < i ∧ 0 ≤ nC l i ∧ nC l i ≤ 4611686018427387904 ∧ top l 3 i = true
theorem nP_snoc_lt {l : List (Int × Int)} {x : Int × Int} {i : Nat} (h : i < l.length) : nP (l ++ [x]) i = nP l i := by
  simp [nP, List.getElem?_append_left h]
theorem nC_snoc_lt {l : List (Int × Int)} {x : Int × Int} {i : Nat} (h : i < l.length) : nC (l ++ [x]) i = nC l i := by
  simp [nC, List.getElem?_append_left h]
theorem nP_snoc_eq {l : List (Int × Int)} {x : Int × Int} : nP (l ++ [x]) l.length = x.1 := by simp [nP]
theorem nC_snoc_eq {l : List (Int × Int)} {x : Int × Int} : nC (l ++ [x]) l.length = x.2 := by simp [nC]
theorem top_snoc {l : List (Int × Int)} {x : Int × Int} (h : Okt l) : ∀ (d a : Nat), a < l.length → top (l ++ [x]) d a = top l d a
  | 0, _, _ => rfl
  | d + 1, a, ha => by
    have hb := h a ha
    by_cases e : nP l a = -1
    · rw [top_m1 e, top_m1 (by rw [nP_snoc_lt ha]; exact e)]
    · have e' : (nP l a == -1) = false := by simp [e]
      rw [top_up e', top_up (by rw [nP_snoc_lt ha]; exact e'), nP_snoc_lt ha]
      exact top_snoc h d _ (by omega)
theorem top_short {l : List (Int × Int)} (h : Okt l) {a : Nat} (ha : a < l.length) (hp : (pathF l 3 a).length < 3) : top l 2 a = true := by
  have hb := h a ha
  rw [pathF_in (inR_t (by omega) (by omega)), Int.toNat_natCast] at hp
  by_cases e : nP l a = -1
  · exact top_m1 e
  · have e' : (nP l a == -1) = false := by simp [e]
    have hb2 := h (nP l a).toNat (by omega)
    rw [top_up e']
    rw [pathF_in (inR_t (by omega) (by omega))] at hp
    by_cases e2 : nP l (nP l a).toNat = -1
    · exact top_m1 e2
    · rw [pathF_in (inR_t (by omega) (by omega))] at hp
      simp at hp
      omega
theorem okt_snoc {l : List (Int × Int)} {p c : Int} (h : Okt l) (hc : 0 ≤ c ∧ c ≤ 4611686018427387904) (hp : p = -1 ∨ (0 ≤ p ∧ p < l.length ∧ (pathF l 3 p).length < 3)) : Okt (l ++ [(p, c)]) := by
  intro i hi
  simp at hi
  by_cases e : i < l.length
  · have := h i e
    rw [nP_snoc_lt e, nC_snoc_lt e, top_snoc h 3 i e]
    exact this
  · obtain rfl : i = l.length := by omega
    rw [nP_snoc_eq, nC_snoc_eq]
    refine ⟨by simp; omega, by simp; omega, hc.1, hc.2, ?_⟩
    rcases hp with hp | ⟨h0, h1, h2⟩
    · exact top_m1 (by rw [nP_snoc_eq]; exact hp)
    · have e' : (nP (l ++ [(p, c)]) l.length == -1) = false := by rw [nP_snoc_eq]; simp; omega
      rw [top_up e', nP_snoc_eq]
      simp only
      rw [top_snoc h 2 _ (by omega)]
      exact top_short h (by omega) (by rwa [Int.toNat_of_nonneg h0])
theorem fixP_or (l out : List (Int × Int)) (k : Nat) : fixP l out k = -1 ∨ (0 ≤ fixP l out k ∧ fixP l out k < k ∧ (pathF out 3 (fixP l out k)).length < 3) := by
  unfold fixP
  split
  · rename_i h
    have h1 := Int.emod_nonneg (nP l k) (b := (k : Int)) (by omega)
    have h2 := Int.emod_lt_of_pos (nP l k) (b := (k : Int)) (by omega)
    split
    · exact .inl rfl
    · exact .inr ⟨h1, h2, by omega⟩
  · exact .inl rfl
theorem okt_fixK (l : List (Int × Int)) (k : Nat) : Okt (fixK l k) := by
  induction k with
  | zero => intro i hi; simp [fixK] at hi
  | succ k ih =>
    rw [fixK]
    refine okt_snoc ih (capF_b _) ?_
    rw [fixK_len]
    exact fixP_or l _ k
theorem okt_fixF (l : List (Int × Int)) : Okt (fixF l) := by
  unfold fixF
  split
  · intro i hi
    obtain rfl : i = 0 := by simpa using hi
    exact ⟨by decide, by decide, by decide, by decide, rfl⟩
  · exact okt_fixK _ _
theorem fixF_len (l : List (Int × Int)) : 1 ≤ (fixF l).length ∧ (fixF l).length ≤ 10 := by
  unfold fixF
  split
  · simp
  · rw [fixK_len]; omega
theorem okt_wf {l : List (Int × Int)} (h : Okt l) (hl : l.length ≤ 32) : WfN l := fun i hi => by
  have := h i hi
  exact ⟨⟨by omega, by omega⟩, ⟨by omega, by omega⟩⟩
theorem okt_scan {l : List (Int × Int)} (h : Okt l) : ∀ (g k : Nat), k + g = l.length → scanF l g k = climbF l l.length 0
  | 0, k, _ => rfl
  | g + 1, k, e => by
    have hb := h k (by omega)
    rw [scan_go (g := g) (by by_cases e : nP l k = -1; exact .inl e; exact .inr (inR_t (by omega) (by omega))) hb.2.2.1 hb.2.2.2.1]
    exact okt_scan h g (k + 1) (by omega)
theorem okt_climb {l : List (Int × Int)} (h : Okt l) : ∀ (g k : Nat), k + g = l.length → climbF l g k = (0, -1)
  | 0, k, _ => rfl
  | g + 1, k, e => by
    rw [climbF_go (h k (by omega)).2.2.2.2]
    exact okt_climb h g (k + 1) (by omega)
theorem okt_chk {l : List (Int × Int)} (h : Okt l) (h1 : 1 ≤ l.length) (h2 : l.length ≤ 32) : chk l = (0, -1) := by
  rw [chk, if_neg (by omega), if_neg (by omega), okt_scan h _ 0 (by omega), okt_climb h _ 0 (by omega)]

theorem wrap_u64 (x : Int) : IntKind.u64.wrap x = x % 18446744073709551616 := by simp [IntKind.wrap, IntKind.bits, IntKind.signed]
theorem capE (c : Int) : wrap64 ((IntKind.u64.wrap c).tmod 4611686018427387905) = capF c := by
  rw [wrap_u64, Int.tmod_eq_emod_of_nonneg (Int.emod_nonneg _ (by decide))]
  have := capF_b c
  unfold wrap64
  show _ = capF c
  change ((capF c) + _) % _ - _ = _
  omega
end Go.Proofs.Ytkobldddiedmdaa.Fix3
