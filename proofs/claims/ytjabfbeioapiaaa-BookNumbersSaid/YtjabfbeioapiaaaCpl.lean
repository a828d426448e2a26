/- Plain facts on reserving and releasing along a path of a tree that may be: no program, no condition. -/
import Derived.Test.YtjabfbeioapiaaaCrdC
import Derived.Test.YtjabfbeioapiaaaRfx
namespace Go.Proofs.Ytjabfbeioapiaaa.Cpl
set_option maxRecDepth 100000
open Go.RowKit Mem Tre Ref3 Law3 Fix3 Crd CrdB CrdC

def addF (u : List Int) (p : List Int) (x : Int) : List Int := (List.range u.length).map fun (j : Nat) => if (j : Int) ∈ p then gI u j + x else gI u j
theorem addF_len (u p : List Int) (x : Int) : (addF u p x).length = u.length := by simp [addF]
theorem gI_addF {u p : List Int} {x : Int} {j : Nat} (h : j < u.length) : gI (addF u p x) j = if (j : Int) ∈ p then gI u j + x else gI u j := by
  simp [addF, gI, h]
theorem ext_gI {u v : List Int} (hl : u.length = v.length) (h : ∀ j, j < u.length → gI u j = gI v j) : u = v := by
  refine List.ext_getElem hl fun i h1 h2 => ?_
  have := h i h1
  simpa [gI, h1, h2] using this
theorem addF_nil (u : List Int) (x : Int) : addF u [] x = u := ext_gI (addF_len _ _ _) fun j hj => by
  rw [addF_len] at hj; rw [gI_addF hj]; simp
theorem gI_set {u : List Int} {k j : Nat} {x : Int} (h : j < u.length) : gI (u.set k x) j = if k = j then x else gI u j := by
  unfold gI
  by_cases e : k = j
  · subst e; simp [h]
  · simp [List.getElem?_set, e]
/-- all places of p are apart, and places of the list -/
def Apart (n : Nat) (p : List Int) : Prop := (∀ i, i < p.length → 0 ≤ gI p i ∧ gI p i < n) ∧ ∀ i j, i < j → j < p.length → gI p i ≠ gI p j
theorem mem_take {p : List Int} {k : Nat} {x : Int} : x ∈ p.take k ↔ ∃ i, i < k ∧ i < p.length ∧ gI p i = x := by
  rw [List.mem_iff_getElem?]
  constructor
  · rintro ⟨i, hi⟩
    have h1 := (List.getElem?_eq_some_iff.1 hi).1
    have h2 : i < k ∧ i < p.length := by simp at h1; omega
    refine ⟨i, h2.1, h2.2, ?_⟩
    rw [List.getElem?_take, if_pos h2.1] at hi
    simp [gI, hi]
  · rintro ⟨i, h1, h2, h3⟩
    refine ⟨i, ?_⟩
    rw [List.getElem?_take, if_pos h1]
    simpa [gI, h2] using h3
theorem not_mem {n : Nat} {p : List Int} (h : Apart n p) {k : Nat} (hk : k < p.length) : gI p k ∉ p.take k := by
  rw [mem_take]
  rintro ⟨i, h1, h2, h3⟩
  exact h.2 i k h1 hk h3
theorem addF_at {u p : List Int} {x : Int} {k : Nat} (h : Apart u.length p) (hk : k < p.length) : gI (addF u (p.take k) x) (gI p k).toNat = gI u (gI p k).toNat := by
  have hb := h.1 k hk
  rw [gI_addF (by omega), if_neg]
  rw [Int.toNat_of_nonneg hb.1]
  exact not_mem h hk
theorem addF_step {u p : List Int} {x : Int} {k : Nat} (h : Apart u.length p) (hk : k < p.length) :
    (addF u (p.take k) x).set (gI p k).toNat (gI u (gI p k).toNat + x) = addF u (p.take (k + 1)) x := by
  have hb := h.1 k hk
  refine ext_gI (by simp [addF_len]) fun j hj => ?_
  simp [addF_len] at hj
  rw [gI_set (by rw [addF_len]; exact hj), gI_addF hj, gI_addF hj]
  have hm : (j : Int) ∈ p.take (k + 1) ↔ (j : Int) ∈ p.take k ∨ gI p k = j := by
    rw [mem_take, mem_take]
    constructor
    · rintro ⟨i, h1, h2, h3⟩
      by_cases e : i = k
      · subst e; exact .inr h3
      · exact .inl ⟨i, by omega, h2, h3⟩
    · rintro (⟨i, h1, h2, h3⟩ | h3)
      · exact ⟨i, by omega, h2, h3⟩
      · exact ⟨k, by omega, hk, h3⟩
  by_cases e : (gI p k).toNat = j
  · have e' : gI p k = j := by omega
    rw [if_pos e, if_pos (hm.2 (.inr e'))]
    rw [← e]
  · have e' : ¬ gI p k = j := by omega
    rw [if_neg e]
    by_cases m : (j : Int) ∈ p.take k
    · rw [if_pos m, if_pos (hm.2 (.inl m))]
    · rw [if_neg m, if_neg (fun h => (hm.1 h).elim m e')]
theorem addF_full {u p : List Int} {x : Int} : addF u (p.take p.length) x = addF u p x := by rw [List.take_length]

/-- what a reserving says: the code, and where -/
def resS (l : List (Int × Int)) (u : List Int) (x : Int) : List Int → Int → Int × Int
  | [], _ => (0, -1)
  | n :: r, c => if nC l n.toNat - gI u n.toNat < x then (c, n) else resS l u x r (c + 1)
def resF (l : List (Int × Int)) (u : List Int) (n x : Int) : Int × Int :=
  if (pathF l 3 n).length = 0 then (18, -1) else if x < 0 then (1, -1) else resS l u x (pathF l 3 n) 12
def resU (l : List (Int × Int)) (u : List Int) (n x : Int) : List Int := if (resF l u n x).1 = 0 then addF u (pathF l 3 n) x else u
theorem drop_at {p : List Int} {k : Nat} (h : k < p.length) : p.drop k = gI p k :: p.drop (k + 1) := by
  rw [List.drop_eq_getElem_cons h]; simp [gI, h]
theorem resS_no {l : List (Int × Int)} {u p : List Int} {x c : Int} {k : Nat} (h : k < p.length) (h' : nC l (gI p k).toNat - gI u (gI p k).toNat < x) : resS l u x (p.drop k) c = (c, gI p k) := by
  rw [drop_at h, resS, if_pos h']
theorem resS_go {l : List (Int × Int)} {u p : List Int} {x c : Int} {k : Nat} (h : k < p.length) (h' : ¬ nC l (gI p k).toNat - gI u (gI p k).toNat < x) : resS l u x (p.drop k) c = resS l u x (p.drop (k + 1)) (c + 1) := by
  rw [drop_at h, resS, if_neg h']
theorem resS_end {l : List (Int × Int)} {u p : List Int} {x c : Int} : resS l u x (p.drop p.length) c = (0, -1) := by rw [List.drop_length]; rfl

/-- what a releasing says -/
def relF (l : List (Int × Int)) (u : List Int) (n x : Int) : Bool := decide (0 < (pathF l 3 n).length) && decide (0 ≤ x) && (pathF l 3 n).all fun m => decide (x ≤ gI u m.toNat)
def relU (l : List (Int × Int)) (u : List Int) (n x : Int) : List Int := if relF l u n x then addF u (pathF l 3 n) (-x) else u

theorem okt_path_lt {l : List (Int × Int)} (h : Okt l) : ∀ (g : Nat) (n : Int) (i j : Nat), i < j → j < (pathF l g n).length → gI (pathF l g n) j < gI (pathF l g n) i
  | 0, n, i, j, _, hj => by simp [pathF] at hj
  | g + 1, n, i, j, hij, hj => by
    by_cases hin : inR l.length n = true
    · obtain ⟨h0, h1⟩ := inR_of hin
      have hp := h n.toNat (by omega)
      rw [pathF_in hin] at hj ⊢
      cases j with
      | zero => omega
      | succ j =>
        simp at hj
        have e1 : gI (n :: pathF l g (nP l n.toNat)) (j + 1) = gI (pathF l g (nP l n.toNat)) j := rfl
        rw [e1]
        cases i with
        | zero =>
          show _ < n
          have hin2 : inR l.length (nP l n.toNat) = true := by
            cases hh : inR l.length (nP l n.toNat) with
            | true => rfl
            | false => rw [pathF_out hh] at hj; simp at hj
          have h2 := inR_of hin2
          have hle : gI (pathF l g (nP l n.toNat)) j ≤ nP l n.toNat := by
            cases j with
            | zero =>
              cases g with
              | zero => simp [pathF] at hj
              | succ g => rw [pathF_in hin2]; exact Int.le_refl _
            | succ j =>
              have := okt_path_lt h g (nP l n.toNat) 0 (j + 1) (by omega) hj
              have e0 : gI (pathF l g (nP l n.toNat)) 0 = nP l n.toNat := by
                cases g with
                | zero => simp [pathF] at hj
                | succ g => rw [pathF_in hin2]; rfl
              omega
          omega
        | succ i => exact okt_path_lt h g _ i j (by omega) hj
    · rw [pathF_out (by simpa using hin)] at hj; simp at hj
theorem path_in {l : List (Int × Int)} : ∀ (g : Nat) (n : Int) (i : Nat), i < (pathF l g n).length → 0 ≤ gI (pathF l g n) i ∧ gI (pathF l g n) i < l.length
  | 0, n, i, h => by simp [pathF] at h
  | g + 1, n, i, h => by
    by_cases hin : inR l.length n = true
    · rw [pathF_in hin] at h ⊢
      cases i with
      | zero => exact inR_of hin
      | succ i => exact path_in g _ i (by simpa using h)
    · rw [pathF_out (by simpa using hin)] at h; simp at h
theorem apart_path {l : List (Int × Int)} (h : Okt l) {m : Nat} (hm : m = l.length) (n : Int) : Apart m (pathF l 3 n) := by
  subst hm
  exact ⟨fun i hi => path_in 3 n i hi, fun i j hij hj e => by have := okt_path_lt h 3 n i j hij hj; omega⟩
theorem path_le3 (l : List (Int × Int)) : ∀ (g : Nat) (n : Int), (pathF l g n).length ≤ g
  | 0, n => by simp [pathF]
  | g + 1, n => by
    rw [pathF]
    split
    · have := path_le3 l g (nP l n.toNat); simp; omega
    · simp
theorem okt_right {l : List (Int × Int)} {u : List Int} (h : Okt l) (h1 : 1 ≤ l.length) (h2 : l.length ≤ 32) (hu : u.length = l.length) (ho : UOk u) : rightF l u = true :=
  rightF_t (by rw [okt_chk h h1 h2]) hu ho
theorem resS_ok {l : List (Int × Int)} {u : List Int} {x : Int} : ∀ (p : List Int) (c : Int), 1 ≤ c → (resS l u x p c).1 = 0 → ∀ i, i < p.length → x ≤ nC l (gI p i).toNat - gI u (gI p i).toNat
  | [], _, _, _, i, hi => by simp at hi
  | n :: r, c, hc, h, i, hi => by
    rw [resS] at h
    split at h
    · simp at h; omega
    · rename_i hn
      cases i with
      | zero => show x ≤ nC l n.toNat - gI u n.toNat; omega
      | succ i => exact resS_ok r (c + 1) (by omega) h i (by simpa using hi)
theorem uok_res {l : List (Int × Int)} {u : List Int} (hl : Okt l) (hu : u.length = l.length) (ho : UOk u) (n x : Int) : UOk (resU l u n x) ∧ (resU l u n x).length = u.length := by
  unfold resU
  by_cases h : (resF l u n x).1 = 0
  · rw [if_pos h]
    refine ⟨fun j hj => ?_, addF_len _ _ _⟩
    rw [addF_len] at hj
    rw [gI_addF hj]
    have hb := ho j hj
    split
    · rename_i hm
      obtain ⟨i, _, hi, he⟩ := (mem_take (k := (pathF l 3 n).length)).1 (by rw [List.take_length]; exact hm)
      unfold resF at h
      split at h
      · simp at h
      · split at h
        · simp at h
        · have h1 := resS_ok _ _ (by decide) h i hi
          rw [he, Int.toNat_natCast] at h1
          have h2 := hl j (by omega)
          omega
    · exact hb
  · rw [if_neg h]; exact ⟨ho, rfl⟩
theorem uok_rel {l : List (Int × Int)} {u : List Int} (ho : UOk u) (n x : Int) : UOk (relU l u n x) ∧ (relU l u n x).length = u.length := by
  unfold relU
  by_cases h : relF l u n x = true
  · rw [if_pos h]
    refine ⟨fun j hj => ?_, addF_len _ _ _⟩
    rw [addF_len] at hj
    rw [gI_addF hj]
    have hb := ho j hj
    simp only [relF, Bool.and_eq_true, decide_eq_true_eq, List.all_eq_true] at h
    split
    · rename_i hm
      have := h.2 _ hm
      rw [Int.toNat_natCast] at this
      omega
    · exact hb
  · rw [if_neg h]; exact ⟨ho, rfl⟩
theorem uok_wf {u : List Int} (h : UOk u) : WfI u := fun i hi => by have := h i hi; exact ⟨by omega, by omega⟩

/-- another cap -/
def limF (l : List (Int × Int)) (n m : Int) : Int := if inR l.length n = true then (if m < 0 ∨ 4611686018427387904 < m then 1 else 0) else 18
def limL (l : List (Int × Int)) (n m : Int) : List (Int × Int) := if limF l n m = 0 then l.set n.toNat (nP l n.toNat, m) else l
theorem path_none {l : List (Int × Int)} (n : Int) : (pathF l 3 n).length = 0 ↔ inR l.length n = false := by
  constructor
  · intro h
    cases hh : inR l.length n with
    | false => rfl
    | true => rw [pathF_in hh] at h; simp at h
  · intro h; rw [pathF_out h]; rfl
theorem nP_set {l : List (Int × Int)} {k j : Nat} {m : Int} : nP (l.set k (nP l k, m)) j = nP l j := by
  unfold nP
  by_cases e : k = j
  · subst e
    by_cases hk : k < l.length
    · simp [hk]
    · simp [List.getElem?_eq_none (Nat.le_of_not_lt hk), hk]
  · simp [List.getElem?_set, e]
theorem nC_set {l : List (Int × Int)} {k j : Nat} {m : Int} (h : j < l.length) : nC (l.set k (nP l k, m)) j = if k = j then m else nC l j := by
  unfold nC
  by_cases e : k = j
  · subst e; simp [h]
  · simp [List.getElem?_set, e]
theorem top_set {l : List (Int × Int)} {k : Nat} {m : Int} : ∀ (d a : Nat), top (l.set k (nP l k, m)) d a = top l d a
  | 0, _ => rfl
  | d + 1, a => by rw [top, top, nP_set, top_set d]
theorem path_set {l : List (Int × Int)} {k : Nat} {m : Int} : ∀ (g : Nat) (n : Int), pathF (l.set k (nP l k, m)) g n = pathF l g n
  | 0, _ => rfl
  | g + 1, n => by rw [pathF, pathF, nP_set, path_set g, List.length_set]
theorem okt_lim {l : List (Int × Int)} (h : Okt l) (n m : Int) : Okt (limL l n m) ∧ (limL l n m).length = l.length := by
  unfold limL limF
  by_cases hi : inR l.length n = true
  · rw [if_pos hi]
    by_cases hm : m < 0 ∨ 4611686018427387904 < m
    · rw [if_pos hm, if_neg (by decide)]; exact ⟨h, rfl⟩
    · rw [if_neg hm, if_pos rfl]
      refine ⟨fun i hi' => ?_, by simp⟩
      rw [List.length_set] at hi'
      have := h i hi'
      rw [nP_set, nC_set hi', top_set]
      refine ⟨this.1, this.2.1, ?_, ?_, this.2.2.2.2⟩
      · split <;> omega
      · split <;> omega
  · rw [if_neg hi, if_neg (by decide)]; exact ⟨h, rfl⟩
end Go.Proofs.Ytjabfbeioapiaaa.Cpl
