/- A row of the call's own out of which a part is deleted: what it reads then, over any program. No condition. -/
import Derived.Test.YtjabfbeioapiaaaBkp
import Derived.Lib.SliceRun
import Derived.ArgAppend
import Derived.Deep.Upon
import Derived.Deep.RegionLaw
namespace Go.Proofs.Ytjabfbeioapiaaa.Dlk
set_option maxRecDepth 100000
open Go.ChangeShapes Go.WideShapes Go.RowKit Mem
set_option linter.unusedVariables false
variable {P : Program}

theorem zeroCells_len (z : Array Value) (n : Nat) : (Builtin.zeroCells z n).toList.length = n * z.size := by simp [Builtin.zeroCells]
theorem zeroCells_one (z : Array Value) (n : Nat) (h : ∀ u ∈ z, u.oneCell' = true) (h0 : 0 < z.size) : ∀ u ∈ (Builtin.zeroCells z n).toList, u.oneCell' = true := by
  intro u hu
  simp only [Builtin.zeroCells, Array.toList_map, List.mem_map] at hu
  obtain ⟨i, _, rfl⟩ := hu
  have hm : i % z.size < z.size := Nat.mod_lt _ h0
  rw [getElem!_pos z (i % z.size) hm]
  exact h _ (Array.getElem_mem hm)
/-- clear(s) of elements of any size -/
theorem run_clear_any (w : World) (t e ty : TypeId) (z : Value) (ht : P.underlying t = some (.slice e)) (hv : ∀ w, (zeroValue e).run P w = .ok z w) (size : Nat) (hs : z.cells.size = size) (h0 : 0 < size) (h1 : ∀ u ∈ z.cells, u.oneCell' = true) (b o n c : Nat) (hn : 0 < n)
    (hc : ∀ j, j < n * size → (w.cell? ⟨b, o + j, none⟩).isSome = true) (hf : ∀ j, j < n * size → w.frozen? ⟨b, o + j, none⟩ = false) :
    (Builtin.clear_ #[t] ty #[.slice (some ⟨b, o, none⟩) n c]).run P w = .ok (.tuple #[]) (w.setCells b o (Builtin.zeroCells z.cells n).toList) := by
  have hl := zeroCells_len z.cells n
  rw [hs] at hl
  have hst := run_storeCells_cells (P := P) b o (Builtin.zeroCells z.cells n).toList 0 w (by rw [hl]; simpa using hc) (by rw [hl]; simpa using hf) (zeroCells_one _ _ h1 (by omega))
  simp only [Nat.add_zero] at hst
  obtain ⟨m, rfl⟩ : ∃ m, n = m + 1 := ⟨n - 1, by omega⟩
  simp [Builtin.clear_, run_underlying ht, hv, hst]

/-- a row of the call's own, open: all its cells, as far as its room -/
theorem own_room {w : World} {base : Nat} {e : TypeId} {size n cap g : Nat} {xs : List Value} (h : w.ownsRow base e size (.slice (some ⟨g, 0, none⟩) n cap) n xs) :
    base ≤ g ∧ g < w.heap.size ∧ n ≤ cap ∧ cap ≤ maxLen ∧ (∀ j, j < cap * size → (w.cell? ⟨g, j, none⟩).isSome = true ∧ w.frozen? ⟨g, j, none⟩ = false) ∧ (∀ j u, xs[j]? = some u → w.cell? ⟨g, j, none⟩ = some u) := by
  rcases h.2 with ⟨h', _⟩ | ⟨g', cap', cur, h', hb, hg, hnc, hcm, hcs, htake⟩
  · simp at h'
  · simp only [Value.slice.injEq, Option.some.injEq, Addr.mk.injEq, and_true, true_and] at h'
    obtain ⟨rfl, rfl⟩ := h'
    refine ⟨hb, (Array.getElem?_eq_some_iff.1 hg).1, hnc, hcm, fun j hj => ?_, fun j u hu => ?_⟩
    · rw [cell_of_row w g j cur e (0, 0) hg]
      exact ⟨by rw [Array.getElem?_eq_getElem (by omega)]; rfl, frozen_of_row w g j cur e hg⟩
    · rw [cell_of_row w g j cur e (0, 0) hg]
      rw [← htake] at hu
      rw [List.getElem?_take] at hu
      split at hu
      · simpa using hu
      · simp at hu
theorem grown_setCells {w w' : World} {g : Nat} (h : w.grownBy w' (some g)) : ∀ (vs : List Value) (o : Nat), w.grownBy (w'.setCells g o vs) (some g) := by
  intro vs
  induction vs generalizing w' with
  | nil => intro o; exact h
  | cons v r ih =>
    intro o
    refine ih (w' := w'.setCell ⟨g, o, none⟩ v) ⟨h.os, h.tape, h.output, by simpa [World.setCell] using h.size, fun k hk hne => ?_⟩ (o + 1)
    exact (heap_setCell_other w' ⟨g, o, none⟩ k v (fun e => hne (by simp [e]))).trans (h.block k hk hne)
theorem grown_refl (w : World) (r : Option Nat) : w.grownBy w r := ⟨rfl, rfl, rfl, Nat.le_refl _, fun _ _ _ => rfl⟩
theorem grown_drew {w w' : World} {r : Option Nat} (h : w.grownBy w' r) : w.grownBy w'.drew r := ⟨h.os, h.tape, h.output, h.size, h.block⟩
/-- what a row reads behind 'append(s[:i], s[j:]...)' and a clear of what is behind it -/
theorem del_reads {w : World} {g size i j n cap : Nat} {xs : List Value} {base : Nat} {e : TypeId} (h : w.ownsRow base e size (.slice (some ⟨g, 0, none⟩) n cap) n xs) (hij : i ≤ j) (hj : j ≤ n) (zs : List Value) :
    Rd ((w.drew.setCells g (i * size) (xs.drop (j * size))).setCells g ((i + (n - j)) * size) zs) ((w.drew.setCells g (i * size) (xs.drop (j * size))).setCells g ((i + (n - j)) * size) zs).heap.size (some ⟨g, 0, none⟩) (xs.take (i * size) ++ xs.drop (j * size)) := by
  obtain ⟨hb, hlt, hnc, hcm, hroom, hcell⟩ := own_room h
  have hlen : xs.length = n * size := h.1
  have l1 : (xs.drop (j * size)).length = (n - j) * size := by rw [List.length_drop, hlen, Nat.sub_mul]
  have hle : j * size ≤ n * size := Nat.mul_le_mul_right _ hj
  have hie : i * size ≤ j * size := Nat.mul_le_mul_right _ hij
  have hcap : n * size ≤ cap * size := Nat.mul_le_mul_right _ hnc
  have e1 : (i + (n - j)) * size = i * size + (n - j) * size := Nat.add_mul _ _ _
  have e2 : (n - j) * size = n * size - j * size := Nat.sub_mul _ _ _
  have gr : w.grownBy ((w.drew.setCells g (i * size) (xs.drop (j * size))).setCells g ((i + (n - j)) * size) zs) (some g) := grown_setCells (grown_setCells (grown_drew (grown_refl w _)) _ _) _ _
  refine .inr ⟨g, 0, rfl, by have := gr.size; omega, fun t v hv => ?_⟩
  have ht : t < i * size + (n - j) * size := by
    have := (List.getElem?_eq_some_iff.1 hv).1
    rw [List.length_append, l1, List.length_take] at this
    omega
  rw [Nat.zero_add, World.cell?_setCells_out g zs _ _ ⟨g, t, none⟩ (fun _ _ => Or.inl (by simp only []; omega))]
  by_cases h1 : t < i * size
  · rw [World.cell?_setCells_out g _ _ _ ⟨g, t, none⟩ (fun _ _ => Or.inl h1)]
    rw [List.getElem?_append_left (by rw [List.length_take]; omega), List.getElem?_take, if_pos h1] at hv
    exact hcell t v hv
  · obtain ⟨k, rfl⟩ : ∃ k, t = i * size + k := ⟨t - i * size, by omega⟩
    have hk : k < (xs.drop (j * size)).length := by omega
    have := World.cell?_setCells_in g (xs.drop (j * size)) (i * size) w.drew (fun q hq => by rw [l1] at hq; exact (hroom (i * size + q) (by omega)).1) k hk
    rw [this]
    rw [List.getElem?_append_right (by rw [List.length_take]; omega), List.length_take, show i * size + k - min (i * size) xs.length = k by omega] at hv
    rw [List.getElem?_eq_getElem hk] at hv
    exact hv
end Go.Proofs.Ytjabfbeioapiaaa.Dlk
