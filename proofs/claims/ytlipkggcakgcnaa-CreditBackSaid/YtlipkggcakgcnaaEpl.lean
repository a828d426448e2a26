/- Plain facts on what is left under a path: no program, no condition. -/
import Derived.Test.YtlipkggcakgcnaaTold4
namespace Go.Proofs.Ytlipkggcakgcnaa.Epl
set_option maxRecDepth 100000
open Go.RowKit Mem Tre Ref3 Law3 Fix3 Crd CrdB CrdC Cpl Own Res

def UC (l : List (Int × Int)) (u : List Int) : Prop := ∀ i, i < l.length → gI u i ≤ nC l i
theorem uc_res {l : List (Int × Int)} {u : List Int} (hu : u.length = l.length) (h : UC l u) (n x : Int) : UC l (resU l u n x) := by
  unfold resU
  by_cases hc : (resF l u n x).1 = 0
  · rw [if_pos hc]
    intro j hj
    rw [gI_addF (by omega)]
    have hb := h j hj
    split
    · rename_i hm
      obtain ⟨i, _, hi, he⟩ := (mem_take (k := (pathF l 3 n).length)).1 (by rw [List.take_length]; exact hm)
      unfold resF at hc
      split at hc
      · simp at hc
      · split at hc
        · simp at hc
        · have h1 := resS_ok _ _ (by decide) hc i hi
          rw [he, Int.toNat_natCast] at h1
          omega
    · exact hb
  · rw [if_neg hc]; exact h
theorem good_res {l : List (Int × Int)} {u : List Int} (h : GoodSt l u) (n x : Int) : GoodSt l (resU l u n x) :=
  have := uok_res h.okt h.len h.uok n x
  ⟨h.okt, h.one, h.few, this.2.trans h.len, this.1⟩
theorem good_begin {l : List (Int × Int)} (h : Okt l) (h1 : 1 ≤ l.length) (h2 : l.length ≤ 32) : GoodSt l (zeros l.length) :=
  ⟨h, h1, h2, zeros_len _, fun i hi => by rw [zeros_len] at hi; simp [gI, zeros, hi]⟩
theorem uc_begin {l : List (Int × Int)} (h : Okt l) : UC l (zeros l.length) := fun i hi => by
  have := h i hi
  simp [gI, zeros, hi]
  omega
def sl (l : List (Int × Int)) (u p : List Int) (i : Nat) : Int := nC l (gI p i).toNat - gI u (gI p i).toNat
def minF (f : Nat → Int) : Nat → Int × Nat
  | 0 => (f 0, 0)
  | k + 1 => if f (k + 1) < (minF f k).1 then (f (k + 1), k + 1) else minF f k
theorem minF_ok (f : Nat → Int) : ∀ k, (minF f k).2 ≤ k ∧ f (minF f k).2 = (minF f k).1 ∧ (∀ i, i ≤ k → (minF f k).1 ≤ f i) ∧ ∀ i, i < (minF f k).2 → (minF f k).1 < f i
  | 0 => ⟨Nat.le_refl _, rfl, (fun i hi => (by
      have : i = 0 := by omega
      subst this
      exact Int.le_refl _)), fun i hi => absurd hi (Nat.not_lt_zero i)⟩
  | k + 1 => by
    obtain ⟨h1, h2, h3, h4⟩ := minF_ok f k
    rw [minF]
    split
    · rename_i h
      refine ⟨Nat.le_refl _, rfl, fun i hi => ?_, fun i hi => ?_⟩
      · by_cases e : i = k + 1
        · subst e; exact Int.le_refl _
        · have := h3 i (by omega)
          show f (k + 1) ≤ f i
          omega
      · have := h3 i (by simp at hi; omega)
        show f (k + 1) < f i
        omega
    · rename_i h
      refine ⟨by omega, h2, fun i hi => ?_, h4⟩
      by_cases e : i = k + 1
      · subst e; omega
      · exact h3 i (by omega)
theorem resS_all {l : List (Int × Int)} {u p : List Int} {x : Int} (h : ∀ i, i < p.length → x ≤ sl l u p i) : ∀ (g k : Nat) (c : Int), k + g = p.length → resS l u x (p.drop k) c = (0, -1)
  | 0, k, c, e => by
    obtain rfl : k = p.length := by omega
    exact resS_end
  | g + 1, k, c, e => by
    have := h k (by omega)
    unfold sl at this
    rw [resS_go (by omega) (by omega)]
    exact resS_all h g (k + 1) (c + 1) (by omega)
theorem resS_first {l : List (Int × Int)} {u p : List Int} {x : Int} {w : Nat} (hw : w < p.length) (h : ∀ i, i < w → x ≤ sl l u p i) (h' : sl l u p w < x) : ∀ (g k : Nat) (c : Int), k + g = w → resS l u x (p.drop k) c = (c + g, gI p w)
  | 0, k, c, e => by
    obtain rfl : k = w := by omega
    unfold sl at h'
    rw [resS_no hw h']
    simp
  | g + 1, k, c, e => by
    have := h k (by omega)
    unfold sl at this
    rw [resS_go (by omega) (by omega), resS_first hw h h' g (k + 1) (c + 1) (by omega)]
    congr 1
    omega
/-- just what is left may be reserved; of one more the first that lacks is told -/
theorem edge {l : List (Int × Int)} {u : List Int} {n : Int} {k : Nat} (hk : k + 1 = (pathF l 3 n).length) (h0 : ∀ i, i < (pathF l 3 n).length → 0 ≤ sl l u (pathF l 3 n) i) :
    resF l u n (minF (sl l u (pathF l 3 n)) k).1 = (0, -1) ∧ resF l u n ((minF (sl l u (pathF l 3 n)) k).1 + 1) = (12 + ((minF (sl l u (pathF l 3 n)) k).2 : Int), gI (pathF l 3 n) (minF (sl l u (pathF l 3 n)) k).2) := by
  obtain ⟨h1, h2, h3, h4⟩ := minF_ok (sl l u (pathF l 3 n)) k
  have hm := h0 (minF (sl l u (pathF l 3 n)) k).2 (by omega)
  constructor
  · rw [resF, if_neg (by omega), if_neg (by omega)]
    have := resS_all (l := l) (u := u) (p := pathF l 3 n) (x := (minF (sl l u (pathF l 3 n)) k).1) (fun i hi => h3 i (by omega)) (pathF l 3 n).length 0 12 (by omega)
    rwa [List.drop_zero] at this
  · rw [resF, if_neg (by omega), if_neg (by omega)]
    have := resS_first (l := l) (u := u) (p := pathF l 3 n) (x := (minF (sl l u (pathF l 3 n)) k).1 + 1) (w := (minF (sl l u (pathF l 3 n)) k).2) (by omega) (fun i hi => by have := h4 i hi; omega) (by omega) (minF (sl l u (pathF l 3 n)) k).2 0 12 (by omega)
    rwa [List.drop_zero] at this
theorem wrap_in (x : Int) : inI (wrap64 x) := by unfold inI wrap64; omega
end Go.Proofs.Ytlipkggcakgcnaa.Epl
