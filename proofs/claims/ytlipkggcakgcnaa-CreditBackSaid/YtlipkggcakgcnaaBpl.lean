/- Plain facts on what is reserved and released again along one path, and on a lower cap: no program, no condition. -/
import Derived.Test.YtlipkggcakgcnaaCpl
namespace Go.Proofs.Ytlipkggcakgcnaa.Bpl
set_option maxRecDepth 100000
open Go.RowKit Mem Tre Ref3 Law3 Fix3 Crd CrdB CrdC Cpl

theorem addF_addF {u p : List Int} {x y : Int} : addF (addF u p x) p y = addF u p (x + y) :=
  ext_gI (by simp [addF_len]) fun j hj => by
    rw [addF_len, addF_len] at hj
    rw [gI_addF (by rw [addF_len]; exact hj), gI_addF hj, gI_addF hj]
    split <;> omega
theorem addF_zero {u p : List Int} : addF u p 0 = u :=
  ext_gI (by simp [addF_len]) fun j hj => by
    rw [addF_len] at hj
    rw [gI_addF hj]
    split <;> omega
theorem gI_zeros {n j : Nat} : gI (zeros n) j = 0 := by
  unfold gI zeros
  by_cases h : j < n <;> simp [List.getD, h]
/-- of none, so much along the path of k -/
def upF (l : List (Int × Int)) (k S : Int) : List Int := addF (zeros l.length) (pathF l 3 k) S
theorem upF_len {l : List (Int × Int)} {k S : Int} : (upF l k S).length = l.length := by rw [upF, addF_len, zeros_len]
theorem upF_zero {l : List (Int × Int)} {k : Int} : upF l k 0 = zeros l.length := addF_zero
theorem upF_at {l : List (Int × Int)} {k S : Int} {i : Nat} (h : i < (pathF l 3 k).length) : gI (upF l k S) (gI (pathF l 3 k) i).toNat = S := by
  obtain ⟨h0, h1⟩ := path_in 3 k i h
  have hm : gI (pathF l 3 k) i ∈ pathF l 3 k := by
    have e : gI (pathF l 3 k) i = (pathF l 3 k)[i] := by simp [gI, h]
    rw [e]; exact List.getElem_mem h
  have hj : (((gI (pathF l 3 k) i).toNat : Nat) : Int) = gI (pathF l 3 k) i := by omega
  rw [upF, gI_addF (by rw [zeros_len]; omega), if_pos (by rw [hj]; exact hm), gI_zeros]
  omega
theorem res_nonneg {l : List (Int × Int)} {u : List Int} {k x : Int} (h : (resF l u k x).1 = 0) : 0 ≤ x := by
  unfold resF at h
  split at h
  · exact absurd h (by decide)
  · split at h
    · exact absurd h (by decide)
    · omega
theorem res_up {l : List (Int × Int)} {k S x : Int} (h : (resF l (upF l k S) k x).1 = 0) : resU l (upF l k S) k x = upF l k (S + x) := by
  unfold resU
  rw [if_pos h, upF, addF_addF]; rfl
theorem rel_up {l : List (Int × Int)} {k S x : Int} (hk : inR l.length k = true) (h0 : 0 ≤ x) (h1 : x ≤ S) :
    relF l (upF l k S) k x = true ∧ relU l (upF l k S) k x = upF l k (S - x) := by
  have hp : 0 < (pathF l 3 k).length := by
    rcases Nat.eq_zero_or_pos (pathF l 3 k).length with e | e
    · rw [path_none, hk] at e; exact absurd e (by decide)
    · exact e
  have e : relF l (upF l k S) k x = true := by
    unfold relF
    rw [decide_eq_true hp, decide_eq_true h0]
    simp only [Bool.true_and, List.all_eq_true, decide_eq_true_eq]
    intro m hm
    obtain ⟨i, hi, rfl⟩ := List.getElem_of_mem hm
    have := upF_at (S := S) hi
    have e2 : gI (pathF l 3 k) i = (pathF l 3 k)[i] := by simp [gI, hi]
    rw [e2] at this
    omega
  refine ⟨e, ?_⟩
  unfold relU
  rw [if_pos e, upF, addF_addF]; rfl

theorem resS_lower {l l' : List (Int × Int)} {u : List Int} {x : Int} : ∀ (p : List Int) (c : Int), 1 ≤ c → (∀ m ∈ p, nC l' m.toNat ≤ nC l m.toNat) → (resS l' u x p c).1 = 0 → (resS l u x p c).1 = 0
  | [], _, _, _, _ => rfl
  | m :: r, c, hc, hle, h => by
    have h1 := hle m (by simp)
    rw [resS] at h ⊢
    by_cases e : nC l' m.toNat - gI u m.toNat < x
    · rw [if_pos e] at h; simp at h; omega
    · rw [if_neg e] at h
      rw [if_neg (by omega)]
      exact resS_lower r (c + 1) (by omega) (fun m hm => hle m (by simp [hm])) h
/-- a lower cap refuses what a greater one does -/
theorem res_lower {l : List (Int × Int)} {u : List Int} {k low : Int} {n x : Int} (hlow : low ≤ nC l k.toNat) (h : (resF (limL l k low) u n x).1 = 0) : (resF l u n x).1 = 0 := by
  unfold limL at h
  split at h
  · rename_i hk
    have hkl : inR l.length k = true := by
      unfold limF at hk
      split at hk
      · assumption
      · exact absurd hk (by decide)
    unfold resF at h ⊢
    rw [path_set] at h
    split at h
    · exact absurd h (by decide)
    · rename_i h1
      rw [if_neg h1]
      split at h
      · exact absurd h (by decide)
      · rename_i h2
        rw [if_neg h2]
        refine resS_lower (pathF l 3 n) 12 (by decide) (fun m hm => ?_) h
        obtain ⟨i, hi, rfl⟩ := List.getElem_of_mem hm
        have e2 : gI (pathF l 3 n) i = (pathF l 3 n)[i] := by simp [gI, hi]
        have := path_in 3 n i hi
        rw [e2] at this
        rw [nC_set (by omega)]
        split
        · rename_i e; rw [← e]; exact hlow
        · omega
  · exact h
theorem lim_ok {l : List (Int × Int)} {k m : Int} (hk : inR l.length k = true) (h0 : 0 ≤ m) (h1 : m ≤ 4611686018427387904) : limF l k m = 0 := by
  unfold limF
  rw [if_pos hk, if_neg (by omega)]
theorem set_back {l : List (Int × Int)} {k : Nat} {m : Int} (hk : k < l.length) : ((l.set k (nP l k, m)).set k (nP l k, nC l k)) = l := by
  rw [List.set_set]
  have e : (nP l k, nC l k) = l[k] := by simp [nP, nC, hk]
  rw [e]
  exact List.set_getElem_self hk
/-- the cap as it was: all is as it was -/
theorem lim_back {l : List (Int × Int)} {k low C : Int} (hk : inR l.length k = true) (h0 : 0 ≤ low) (h1 : low ≤ 4611686018427387904) (hC : C = nC l k.toNat) (h2 : 0 ≤ C) (h3 : C ≤ 4611686018427387904) :
    limF (limL l k low) k C = 0 ∧ limL (limL l k low) k C = l := by
  obtain ⟨k0, k1⟩ := inR_of hk
  have e : limL l k low = l.set k.toNat (nP l k.toNat, low) := by unfold limL; rw [if_pos (lim_ok hk h0 h1)]
  have hk' : inR (limL l k low).length k = true := by rw [e, List.length_set]; exact hk
  have e2 := lim_ok hk' h2 h3
  refine ⟨e2, ?_⟩
  unfold limL
  rw [if_pos (by have := e2; unfold limL at this; exact this), if_pos (lim_ok hk h0 h1), nP_set, hC]
  exact set_back (by omega)
/-- along the path of k the lower cap changes nothing of what is reserved -/
theorem up_lim {l : List (Int × Int)} {k low S : Int} : upF (limL l k low) k S = upF l k S := by
  unfold limL
  split
  · rw [upF, upF, path_set, List.length_set]
  · rfl
theorem low_in (cap C : Int) (h0 : 0 ≤ C) (h1 : C ≤ 4611686018427387904) :
    0 ≤ wrap64 ((IntKind.u64.wrap cap).tmod (C + 1)) ∧ wrap64 ((IntKind.u64.wrap cap).tmod (C + 1)) ≤ C := by
  rw [wrap_u64, Int.tmod_eq_emod_of_nonneg (Int.emod_nonneg _ (by decide))]
  have a := Int.emod_nonneg (cap % 18446744073709551616) (b := C + 1) (by omega)
  have b := Int.emod_lt_of_pos (cap % 18446744073709551616) (b := C + 1) (by omega)
  generalize cap % 18446744073709551616 % (C + 1) = r at *
  unfold wrap64
  omega
/-- sums of what was reserved -/
theorem sum_snoc (a : List Int) (x : Int) : (a ++ [x]).sum = a.sum + x := by simp
theorem sum_drop {a : List Int} {i : Nat} (h : i < a.length) : (a.drop i).sum = gI a i + (a.drop (i + 1)).sum := by rw [drop_at h]; simp
theorem sum_nonneg : ∀ {a : List Int}, (∀ x ∈ a, 0 ≤ x) → 0 ≤ a.sum
  | [], _ => by simp
  | x :: r, h => by
    have h1 := h x (by simp)
    have h2 := sum_nonneg (a := r) fun y hy => h y (by simp [hy])
    simp only [List.sum_cons]; omega
theorem drop_nonneg {a : List Int} (h : ∀ x ∈ a, 0 ≤ x) (i : Nat) : 0 ≤ (a.drop i).sum := sum_nonneg fun x hx => h x (List.mem_of_mem_drop hx)
end Go.Proofs.Ytlipkggcakgcnaa.Bpl
