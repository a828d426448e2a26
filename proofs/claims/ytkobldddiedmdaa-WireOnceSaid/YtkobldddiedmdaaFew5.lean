/- Lists cut to what can be looked at. No program, no condition. -/
import Derived.Test.YtkobldddiedmdaaRul4
namespace Go.Proofs.Ytkobldddiedmdaa.Few5
set_option maxRecDepth 100000
open Go.RowKit Mem Tre Ref3 Law3 Fix3 Cfg Rul4
theorem front {w : World} {B : Nat} {A : Option Addr} {xs ys : List Value} (h : Rd w B A (xs ++ ys)) : Rd w B A xs := by
  rcases h with h | ⟨b, o, hA, hb, hc⟩
  · exact .inl (List.append_eq_nil_iff.1 h).1
  · exact .inr ⟨b, o, hA, hb, fun i v hi => hc i v (by rw [List.getElem?_append_left (List.getElem?_eq_some_iff.1 hi).1]; exact hi)⟩
theorem nds_cut {w : World} {B : Nat} {A : Option Addr} {l : List (Int × Int)} (h : Nds w B A l) (m : Nat) : Nds w B A (l.take m) := by
  have e : nds l = nds (l.take m) ++ nds (l.drop m) := by rw [nds, nds, nds, ← List.flatMap_append, List.take_append_drop]
  unfold Nds at h ⊢
  rw [e] at h
  exact front h
theorem ris_cut {w : World} {B : Nat} {A : Option Addr} {l : List Int} (h : Ris w B A l) (m : Nat) : Ris w B A (l.take m) := by
  have e : ints l = ints (l.take m) ++ ints (l.drop m) := by rw [ints, ints, ints, ← List.map_append, List.take_append_drop]
  unfold Ris at h ⊢
  rw [e] at h
  exact front h
theorem btb_cut {w : World} {B : Nat} {A : Option Addr} {l : List (Int × Int × Int × Nat)} (h : Btb w B A l) (m : Nat) : Btb w B A (l.take m) := by
  have e : btbs l = btbs (l.take m) ++ btbs (l.drop m) := by rw [btbs, btbs, btbs, ← List.flatMap_append, List.take_append_drop]
  unfold Btb at h ⊢
  rw [e] at h
  exact front h
theorem wfn_cut {l : List (Int × Int)} (h : WfN l) (m : Nat) : WfN (l.take m) := by
  intro i hi
  have hi' : i < m ∧ i < l.length := by rw [List.length_take] at hi; omega
  have e : (l.take m).getD i (0, 0) = l.getD i (0, 0) := by simp [hi'.1, hi'.2]
  have := h i hi'.2
  unfold nP nC at this ⊢
  rwa [e]
theorem wfi_cut {l : List Int} (h : WfI l) (m : Nat) : WfI (l.take m) := by
  intro i hi
  have hi' : i < m ∧ i < l.length := by rw [List.length_take] at hi; omega
  have e : (l.take m).getD i 0 = l.getD i 0 := by simp [hi'.1, hi'.2]
  have := h i hi'.2
  unfold gI at this ⊢
  rwa [e]
theorem wfs_cut {l : List (Int × Int × Int × Nat)} (h : WfS l) (m : Nat) : WfS (l.take m) := by
  intro i hi
  have hi' : i < m ∧ i < l.length := by rw [List.length_take] at hi; omega
  have e : (l.take m).getD i (0, 0, 0, 0) = l.getD i (0, 0, 0, 0) := by simp [hi'.1, hi'.2]
  have := h i hi'.2
  unfold sP sQ sW sB at this ⊢
  rwa [e]
theorem cut_len {α : Type} (l : List α) (m : Nat) : cut l.length m = (l.take m).length := by
  rw [List.length_take]
  unfold cut
  split <;> omega
end Go.Proofs.Ytkobldddiedmdaa.Few5
