/- Texts side by side. -/
import Derived.Deep.RegionHeld3
set_option linter.unusedVariables false
set_option linter.unusedSimpArgs false
set_option maxRecDepth 100000
set_option maxHeartbeats 16000000
namespace Go.Proofs.YtcccdikhfgpamaaGreat.Lim
end Go.Proofs.YtcccdikhfgpamaaGreat.Lim
namespace Go.Proofs.YtcccdikhfgpamaaGreat.Sm4
end Go.Proofs.YtcccdikhfgpamaaGreat.Sm4
namespace Go.Proofs.YtcccdikhfgpamaaGreat.To4
end Go.Proofs.YtcccdikhfgpamaaGreat.To4
namespace Go.Proofs.YtcccdikhfgpamaaGreat.Rck
end Go.Proofs.YtcccdikhfgpamaaGreat.Rck
namespace Go.Proofs.YtcccdikhfgpamaaGreat.Rul2
end Go.Proofs.YtcccdikhfgpamaaGreat.Rul2
namespace Go.Proofs.YtcccdikhfgpamaaGreat.Rl4
end Go.Proofs.YtcccdikhfgpamaaGreat.Rl4
namespace Go.Proofs.YtcccdikhfgpamaaGreat.Rm4
end Go.Proofs.YtcccdikhfgpamaaGreat.Rm4
namespace Go.Proofs.YtcccdikhfgpamaaGreat.Mdw
end Go.Proofs.YtcccdikhfgpamaaGreat.Mdw
namespace Go.Proofs.YtcccdikhfgpamaaGreat.Mdv
end Go.Proofs.YtcccdikhfgpamaaGreat.Mdv
namespace Go.Proofs.YtcccdikhfgpamaaGreat
open Go
namespace Lat
section
variable {P : Program} {ops : Array Oper} {Q : Exit → Act → World → Prop} {md : Region.Mode} {T : World → Prop} {st : List Nat}
def clean (st : List Nat) (up : Array Bool) : Bool := st.all fun s => !(up.getD s false)
theorem clean_back {up : Array Bool} {i : Nat} (h : clean st (up.setIfInBounds i true) = true) : clean st up = true := by
  unfold clean at *
  rw [List.all_eq_true] at *
  intro s b
  have a := h s b
  by_cases e : i = s
  · subst e
    by_cases hl : i < up.size
    · simp [hl] at a
    · simp [hl]
  · rw [getD_set_ne false e] at a; exact a
theorem clean_on {up : Array Bool} {i : Nat} (hi : st.contains i = false) (h : clean st up = true) : clean st (up.setIfInBounds i true) = true := by
  unfold clean at *
  rw [List.all_eq_true] at *
  intro s a
  have e : i ≠ s := by rintro rfl; have : st.contains i = true := by simpa using a
                       rw [hi] at this; cases this
  rw [getD_set_ne false e]; exact h s a
def wpL (P : Program) (md : Region.Mode) (ops : Array Oper) (Q : Exit → Act → World → Prop) (T : World → Prop) (st : List Nat) : Nat → Array Bool → Act → World → Prop
  | 0, up, a, w => Region.ready md ops up = [] ∧ Q .normal a w
  | k + 1, up, a, w => (Region.ready md ops up = [] → Q .normal a w) ∧
      ∀ i ∈ Region.ready md ops up, wpOp P ops Q i (fun a' w' => (clean st (up.setIfInBounds i true) = true → T w') ∧ wpL P md ops Q T st k (up.setIfInBounds i true) a' w') a w
theorem wpAny_of_L : ∀ (k : Nat) (up : Array Bool) (a : Act) (w : World), wpL P md ops Q T st k up a w → wpAny P md ops Q k up a w
  | 0, _, _, _, h => h
  | k + 1, up, _, _, h => ⟨h.1, fun i hi => wpOp_mono (fun a' w' h' => wpAny_of_L k (up.setIfInBounds i true) a' w' h'.2) (h.2 i hi)⟩
def waits (md : Region.Mode) (ops : Array Oper) (st : List Nat) (i : Nat) : Bool :=
  st.all fun j => match ops[j]? with
    | some o => o.after.any fun e => Region.binds md e && e.on == i
    | none => true
theorem waits_spec {i j : Nat} {o : Oper} (h : waits md ops st i = true) (hj : st.contains j = true) (ho : ops[j]? = some o) : ∃ e ∈ o.after, Region.binds md e = true ∧ e.on = i := by
  unfold waits at h
  rw [List.all_eq_true] at h
  have a := h j (by simpa using hj)
  rw [ho] at a
  simp only [Array.any_eq_true, Bool.and_eq_true, beq_iff_eq] at a
  obtain ⟨n, b, c, d⟩ := a
  exact ⟨_, Array.getElem_mem b, c, d⟩
theorem wpL_load {i : Nat} {oi : Oper} {v : Value} (hi : ops[i]? = some oi) (hs : Region.noSelect ops = true) (hQ : ∀ c a w, Q (.panic c) (a.put oi.dst v) w → Q (.panic c) a w) (hns : st.contains i = false) (hlt : waits md ops st i = true) :
    ∀ (k : Nat) (up : Array Bool) (a : Act) (w : World), Region.free md ops up i = true → (Region.ready md ops up).contains i = true → YieldsIf P ops T oi v a → clean st up = true → T w →
      wpL P md ops Q T st k (up.setIfInBounds i true) (a.put oi.dst v) w → wpL P md ops Q T st (k + 1) up a w := by
  suffices H0 : ∀ (k : Nat) (up : Array Bool) (a : Act) (w : World),
      (∀ j r, ops[j]? = some r → j ≠ i → up.getD j true = false → (∀ e ∈ r.after, Region.binds md e = true → e.on ≠ i) → oi.apart ops r = true) →
      i ∈ Region.ready md ops up → YieldsIf P ops T oi v a → clean st up = true → T w →
      wpL P md ops Q T st k (up.setIfInBounds i true) (a.put oi.dst v) w → wpL P md ops Q T st (k + 1) up a w by
    intro k up a w V l
    exact H0 k up a w (Region.free_spec hi V) (by simpa using l)
  intro k
  induction k with
  | zero =>
    intro up a w _ l E S x H
    refine ⟨fun h => (by rw [h] at l; cases l), fun j F => ?_⟩
    by_cases hji : j = i
    · subst hji; exact E.wpOp hi x ⟨fun _ => x, H⟩
    · have := ready_mono F hji
      rw [H.1] at this
      cases this
  | succ k ih =>
    intro up a w d l E S x H
    refine ⟨fun h => (by rw [h] at l; cases l), fun j F => ?_⟩
    by_cases hji : j = i
    · subst hji; exact E.wpOp hi x ⟨fun _ => x, H⟩
    · have W := H.2 j (ready_mono F hji)
      obtain ⟨p, r, m, y⟩ := mem_ready.1 F
      have z : ∀ e ∈ r.after, Region.binds md e = true → e.on ≠ i := fun e I J s => by
        have A := y e I J
        have U := (mem_ready.1 l).1
        rw [s] at A
        rcases Nat.lt_or_ge i up.size with h' | h'
        · simp [h'] at U A; rw [U] at A; cases A
        · simp [Array.getElem?_eq_none h'] at A
      have K : st.contains j = false := by
        cases f : st.contains j with
        | false => rfl
        | true =>
          obtain ⟨e, I, J, s⟩ := waits_spec hlt f m
          exact absurd s (z e I J)
      have f := clean_on K S
      have q := Region.noSelect_spec hs
      have X := wpOp_putIf m (d j r m hji p z) (fun L b => q i oi L b hi) (fun L b => q j r L b m) hQ E W
      have o : ∀ n g, ops[n]? = some g → n ≠ i → (up.setIfInBounds j true).getD n true = false →
          (∀ e ∈ g.after, Region.binds md e = true → e.on ≠ i) → oi.apart ops g = true := fun n g Y O C R => by
        refine d n g Y O ?_ R
        by_cases hjn : j = n
        · subst hjn; exact p
        · rw [getD_set_ne true hjn] at C; exact C
      have t : (up.setIfInBounds i true).setIfInBounds j true = (up.setIfInBounds j true).setIfInBounds i true := Array.setIfInBounds_comm _ _ (Ne.symm hji)
      refine wpOp_mono (fun Z w' G => ⟨fun _ => G.2.1 (by rw [t]; exact clean_on hns f), ih (up.setIfInBounds j true) Z w' o (ready_mono l (Ne.symm hji)) G.1 f (G.2.1 (by rw [t]; exact clean_on hns f)) ?_⟩) X
      rw [← t]
      exact G.2.2
theorem wpL_word {i : Nat} {oi : Oper} {v : Value} (hi : ops[i]? = some oi) (hs : Region.noSelect ops = true) (hQ : ∀ c a w, Q (.panic c) (a.put oi.dst v) w → Q (.panic c) a w) (hns : st.contains i = false) :
    ∀ (k : Nat) (up : Array Bool) (a : Act) (w : World), Region.free md ops up i = true → (Region.ready md ops up).contains i = true → YieldsIf P ops (fun _ => True) oi v a → (clean st up = true → T w) →
      wpL P md ops Q T st k (up.setIfInBounds i true) (a.put oi.dst v) w → wpL P md ops Q T st (k + 1) up a w := by
  suffices H0 : ∀ (k : Nat) (up : Array Bool) (a : Act) (w : World),
      (∀ j p, ops[j]? = some p → j ≠ i → up.getD j true = false → (∀ e ∈ p.after, Region.binds md e = true → e.on ≠ i) → oi.apart ops p = true) →
      i ∈ Region.ready md ops up → YieldsIf P ops (fun _ => True) oi v a → (clean st up = true → T w) →
      wpL P md ops Q T st k (up.setIfInBounds i true) (a.put oi.dst v) w → wpL P md ops Q T st (k + 1) up a w by
    intro k up a w O g
    exact H0 k up a w (Region.free_spec hi O) (by simpa using g)
  intro k
  induction k with
  | zero =>
    intro up a w _ g z E H
    refine ⟨fun h => (by rw [h] at g; cases g), fun j A => ?_⟩
    by_cases hji : j = i
    · subst hji; exact z.wpOp hi trivial ⟨fun h => E (clean_back h), H⟩
    · have := ready_mono A hji
      rw [H.1] at this
      cases this
  | succ k ih =>
    intro up a w d g z E H
    refine ⟨fun h => (by rw [h] at g; cases g), fun j A => ?_⟩
    by_cases hji : j = i
    · subst hji; exact z.wpOp hi trivial ⟨fun h => E (clean_back h), H⟩
    · have R := H.2 j (ready_mono A hji)
      obtain ⟨m, p, q, t⟩ := mem_ready.1 A
      have F : ∀ e ∈ p.after, Region.binds md e = true → e.on ≠ i := fun e S U G => by
        have x := t e S U
        have L := (mem_ready.1 g).1
        rw [G] at x
        rcases Nat.lt_or_ge i up.size with h' | h'
        · simp [h'] at L x; rw [L] at x; cases x
        · simp [Array.getElem?_eq_none h'] at x
      have o := Region.noSelect_spec hs
      have V := wpOp_putIf q (d j p q hji m F) (fun I b => o i oi I b hi) (fun I b => o j p I b q) hQ z R
      have l : ∀ n f, ops[n]? = some f → n ≠ i → (up.setIfInBounds j true).getD n true = false →
          (∀ e ∈ f.after, Region.binds md e = true → e.on ≠ i) → oi.apart ops f = true := fun n f W J y K => by
        refine d n f W J ?_ K
        by_cases hjn : j = n
        · subst hjn; exact m
        · rw [getD_set_ne true hjn] at y; exact y
      have r : (up.setIfInBounds i true).setIfInBounds j true = (up.setIfInBounds j true).setIfInBounds i true := Array.setIfInBounds_comm _ _ (Ne.symm hji)
      refine wpOp_mono (fun X Y C => ⟨fun s => C.2.1 (by rw [r]; exact clean_on hns s), ih (up.setIfInBounds j true) X Y l (ready_mono g (Ne.symm hji)) C.1 (fun s => C.2.1 (by rw [r]; exact clean_on hns s)) ?_⟩) V
      rw [← r]
      exact C.2.2
theorem wpL_done {up : Array Bool} {a : Act} {w : World} (hr : Region.ready md ops up = []) (h : Q .normal a w) : ∀ k, wpL P md ops Q T st k up a w
  | 0 => ⟨hr, h⟩
  | _ + 1 => ⟨fun _ => h, by rw [hr]; simp⟩
theorem wpL_late {n k : Nat} {o : Oper} {up : Array Bool} {a : Act} {w : World} (hr : Region.ready md ops up = [n]) (ho : ops[n]? = some o) (hk : clean st (up.setIfInBounds n true) = false)
    (h : ∀ K : Act → World → Prop, Shut (∀ a w, wpL P md ops Q T st k (up.setIfInBounds n true) a w → K a w) → if Region.wanted o (yielded ops a.tmps) = true then Oper.wp P o a w K Q else K (a.put o.dst undef) w) :
    wpL P md ops Q T st (k + 1) up a w := by
  refine ⟨fun b => (by rw [hr] at b; cases b), ?_⟩
  rw [hr]
  intro j c
  simp only [List.mem_cons, List.not_mem_nil, or_false] at c
  subst c
  exact wpOp_step ho (fun K d => h K (fun a w f => d a w ⟨fun e => (by rw [hk] at e; cases e), f⟩))
theorem wpL_next {n k : Nat} {o : Oper} {up : Array Bool} {a : Act} {w : World} (hr : Region.ready md ops up = [n]) (ho : ops[n]? = some o)
    (h : ∀ K : Act → World → Prop, Shut (∀ a w, T w → wpL P md ops Q T st k (up.setIfInBounds n true) a w → K a w) → if Region.wanted o (yielded ops a.tmps) = true then Oper.wp P o a w K Q else K (a.put o.dst undef) w) :
    wpL P md ops Q T st (k + 1) up a w := by
  refine ⟨fun b => (by rw [hr] at b; cases b), ?_⟩
  rw [hr]
  intro j c
  simp only [List.mem_cons, List.not_mem_nil, or_false] at c
  subst c
  exact wpOp_step ho (fun K d => h K (fun a w e f => d a w ⟨fun _ => e, f⟩))
theorem wp_region_L {id : Nat} {a : Act} {w : World} (hm : P.follows .mixedOrders = true)
    (h : wpL P .any ops Q T st ops.size (Array.replicate ops.size false) a w.drew) : (Code.region id ops true).wp P Q a w :=
  wp_region_any hm (wpAny_of_L _ _ _ _ h)
theorem Ω (T : World → Prop) (st : List Nat) {id : Nat} {a : Act} {w : World} (h : wpL P .any ops (NoPanic Q) T st ops.size (Array.replicate ops.size false) a w.drew) (hm : P.follows .mixedOrders = true := by kernel_rfl) : (Code.region id ops true).wp P Q a w := wp_region_noPanic (wp_region_L hm h)
theorem Δ {k : Nat} {up : Array Bool} {a : Act} {w : World} (h : Q .normal a w) (hr : Region.ready md ops up = [] := by kernel_rfl) : wpL P md ops (NoPanic Q) T st k up a w := wpL_done (Q := NoPanic Q) (T := T) (st := st) hr (NoPanic.normal h) k
end
end Lat
namespace Lax
open Lat
structure Ix (n : Nat) : Prop where
  ok : True
section
variable {P : Program} {ops : Array Oper} {Q : Exit → Act → World → Prop} {md : Region.Mode} {T : World → Prop} {st : List Nat} {i k : Nat} {oi : Oper} {v : Value} {up : Array Bool} {a : Act} {w : World}
theorem iLd (_x : Ix i) (hT : T w) (hy : ∀ w', T w' → (execOp a.eval oi).run P w' = .ok (.value v) w') (hg : wpL P md ops Q T st k (up.setIfInBounds i true) (a.put oi.dst v) w) (hi : ops[i]? = some oi := by rfl) (hw : Region.wanted oi (yielded ops a.tmps) = true := by rfl) (hs : Region.noSelect ops = true := by kernel_rfl) (hQ : ∀ c a w, Q (.panic c) (a.put oi.dst v) w → Q (.panic c) a w := by exact fun _ _ _ h => h) (hns : st.contains i = false := by kernel_rfl) (hlt : waits md ops st i = true := by kernel_rfl) (hf : Region.free md ops up i = true := by kernel_rfl) (hr : (Region.ready md ops up).contains i = true := by kernel_rfl) (hc : clean st up = true := by kernel_rfl) :
    wpL P md ops Q T st (k + 1) up a w := wpL_load hi hs hQ hns hlt _ _ _ _ hf hr (.inl ⟨hw, hy⟩) hc hT hg
theorem iWd (_x : Ix i) (hT : clean st up = true → T w) (hy : ∀ w', True → (execOp a.eval oi).run P w' = .ok (.value v) w') (hg : wpL P md ops Q T st k (up.setIfInBounds i true) (a.put oi.dst v) w) (hi : ops[i]? = some oi := by rfl) (hw : Region.wanted oi (yielded ops a.tmps) = true := by rfl) (hs : Region.noSelect ops = true := by kernel_rfl) (hQ : ∀ c a w, Q (.panic c) (a.put oi.dst v) w → Q (.panic c) a w := by exact fun _ _ _ h => h) (hns : st.contains i = false := by kernel_rfl) (hf : Region.free md ops up i = true := by kernel_rfl) (hr : (Region.ready md ops up).contains i = true := by kernel_rfl) :
    wpL P md ops Q T st (k + 1) up a w := wpL_word hi hs hQ hns _ _ _ _ hf hr (.inl ⟨hw, hy⟩) hT hg
end
theorem jA (i : Nat) {R X Z : Prop} (hz : Z) (kk : R) (h : Ix i → Z → R → X := by
  intro hi hZ hk
  refine iWd hi (v := ?_) (fun _ => hZ) ?_ ?_
  rotate_left
  · intro w' _
    go_simp
    try with_reducible rfl
  (try simp only [Act.put, List.getElem_toArray, List.getElem_cons_succ, List.getElem_cons_zero, List.setIfInBounds_toArray, List.set_cons_zero, List.set_cons_succ])
  exact hk) : X := h ⟨trivial⟩ hz kk
theorem jB (i : Nat) {R X Z : Prop} (hz : Z) (kk : R) (h : Ix i → Z → R → X := by
  intro hi hZ hk
  refine iLd hi (v := ?_) hZ ?_ ?_
  rotate_left
  · intro w' hS
    (try dsimp only at hS)
    (repeat obtain ⟨x, hS⟩ := hS)
    go_simp
    try with_reducible rfl
  (try simp only [Act.put, List.getElem_toArray, List.getElem_cons_succ, List.getElem_cons_zero, List.setIfInBounds_toArray, List.set_cons_zero, List.set_cons_succ])
  exact hk) : X := h ⟨trivial⟩ hz kk
theorem jZ (i : Nat) {R X : Prop} (kk : R) (h : Ix i → R → X := by
  intro hi hk
  refine iWd hi (v := ?_) (fun h => absurd h (by decide +kernel)) ?_ ?_
  rotate_left
  · intro w' _
    go_simp
    try with_reducible rfl
  (try simp only [Act.put, List.getElem_toArray, List.getElem_cons_succ, List.getElem_cons_zero, List.setIfInBounds_toArray, List.set_cons_zero, List.set_cons_succ])
  exact hk) : X := h ⟨trivial⟩ kk
theorem jP {R X : Prop} (kk : R) (h : R → X := by
  intro hk
  (try simp only [Act.put, List.getElem_toArray, List.getElem_cons_succ, List.getElem_cons_zero, List.setIfInBounds_toArray, List.set_cons_zero, List.set_cons_succ])
  exact hk) : X := h kk
section
variable {P : Program} {ops : Array Oper} {Q : Exit → Act → World → Prop} {md : Region.Mode} {T : World → Prop} {st : List Nat} {n k : Nat} {o : Oper} {up : Array Bool} {a : Act} {w : World}
theorem jN (n : Nat) (h : ∀ K : Act → World → Prop, Shut (∀ a w, T w → wpL P md ops Q T st k (up.setIfInBounds n true) a w → K a w) → if Region.wanted o (yielded ops a.tmps) = true then Oper.wp P o a w K Q else K (a.put o.dst undef) w) (hr : Region.ready md ops up = [n] := by kernel_rfl) (ho : ops[n]? = some o := by rfl) :
    wpL P md ops Q T st (k + 1) up a w := wpL_next hr ho h
theorem jV (n : Nat) (h : ∀ K : Act → World → Prop, Shut (∀ a w, wpL P md ops Q T st k (up.setIfInBounds n true) a w → K a w) → if Region.wanted o (yielded ops a.tmps) = true then Oper.wp P o a w K Q else K (a.put o.dst undef) w) (hr : Region.ready md ops up = [n] := by kernel_rfl) (ho : ops[n]? = some o := by rfl) (hk : clean st (up.setIfInBounds n true) = false := by kernel_rfl) :
    wpL P md ops Q T st (k + 1) up a w := wpL_late hr ho hk h
end
section
variable {P : Program} {ops : Array Oper} {Q : Exit → Act → World → Prop} {md : Region.Mode} {S : World → Prop} {i k : Nat} {oi : Oper} {v : Value} {up : Array Bool} {a : Act} {w : World}
theorem tTk (_x : Ix i) (hS : S w) (hy : ∀ w', S w' → (execOp a.eval oi).run P w' = .ok (.value v) w') (h : wpAnyH P md ops Q S k (up.setIfInBounds i true) (a.put oi.dst v) w) (hi : ops[i]? = some oi := by rfl) (hw : Region.wanted oi (yielded ops a.tmps) = true := by rfl) (hs : Region.noSelect ops = true := by kernel_rfl) (hf : Region.free md ops up i = true := by kernel_rfl) (hr : (Region.ready md ops up).contains i = true := by kernel_rfl) (hQ : ∀ c a w, Q (.panic c) (a.put oi.dst v) w → Q (.panic c) a w := by exact fun _ _ _ h => h) :
    wpAnyH P md ops Q S (k + 1) up a w := wpAnyH_take hi hs hf hr hQ (.inl ⟨hw, hy⟩) hS h
theorem tSk (_x : Ix i) (hS : S w) (h : wpAnyH P md ops Q S k (up.setIfInBounds i true) (a.put oi.dst undef) w) (hi : ops[i]? = some oi := by rfl) (hw : Region.wanted oi (yielded ops a.tmps) = false := by rfl) (hs : Region.noSelect ops = true := by kernel_rfl) (hf : Region.free md ops up i = true := by kernel_rfl) (hr : (Region.ready md ops up).contains i = true := by kernel_rfl) (hQ : ∀ c a w, Q (.panic c) (a.put oi.dst undef) w → Q (.panic c) a w := by exact fun _ _ _ h => h) :
    wpAnyH P md ops Q S (k + 1) up a w := wpAnyH_take hi hs hf hr hQ (.inr ⟨hw, rfl⟩) hS h
end
theorem jT (i : Nat) {R X : Prop} (kk : R) (h : Ix i → R → X := by
  intro hi hk
  refine tTk hi (by clear hk; assumption) (v := ?_) ?_ ?_
  rotate_left
  · intro w' hSw
    (try dsimp only at hSw)
    go_simp
    try with_reducible rfl
  (try simp only [Act.put, List.getElem_toArray, List.getElem_cons_succ, List.getElem_cons_zero, List.setIfInBounds_toArray, List.set_cons_zero, List.set_cons_succ])
  exact hk) : X := h ⟨trivial⟩ kk
theorem jS (i : Nat) {R X : Prop} (kk : R) (h : Ix i → R → X := by
  intro hi hk
  refine tSk hi (by clear hk; assumption) ?_
  (try simp only [Act.put, List.getElem_toArray, List.getElem_cons_succ, List.getElem_cons_zero, List.setIfInBounds_toArray, List.set_cons_zero, List.set_cons_succ])
  exact hk) : X := h ⟨trivial⟩ kk
end Lax
end Go.Proofs.YtcccdikhfgpamaaGreat
