/- Texts side by side. -/
import Derived.Deep.RegionHeld3
import Derived.Outline
import Derived.LoopTactic
import Derived.RegionTactic
import Derived.Deep.RegionLaw
import Derived.Laws.FloatArith
import Derived.WalkLawsBesides
import Derived.Laws.Externs
import Derived.ChangeSlices
import Derived.Lib.SmallJoins
import Derived.Deep.DeepCutAuto
import Derived.WalkSpells
import Derived.Deep.RegionWith
import Derived.Lib.LazyBuf
import Derived.Laws.StructEq
import Derived.Test.YteclenloimbaeaaGreatDoorSliaa
set_option linter.unusedVariables false
set_option linter.unusedSimpArgs false
set_option maxRecDepth 100000
set_option maxHeartbeats 16000000
namespace Go.Proofs.YteclenloimbaeaaGreatDoor
namespace Lat
open Go
section
variable {P : Program} {ops : Array Oper} {Q : Exit → Act → World → Prop} {md : Region.Mode} {T : World → Prop} {st : List Nat}
def clean (st : List Nat) (up : Array Bool) : Bool := st.all fun s => !(up.getD s false)
theorem clean_back {up : Array Bool} {i : Nat} (h : clean st (up.setIfInBounds i true) = true) : clean st up = true := by
  unfold clean at *
  rw [List.all_eq_true] at *
  intro s hs
  have h1 := h s hs
  by_cases e : i = s
  · subst e
    by_cases hl : i < up.size
    · simp [hl] at h1
    · simp [hl]
  · rw [getD_set_ne false e] at h1; exact h1
theorem clean_on {up : Array Bool} {i : Nat} (hi : st.contains i = false) (h : clean st up = true) : clean st (up.setIfInBounds i true) = true := by
  unfold clean at *
  rw [List.all_eq_true] at *
  intro s hs
  have e : i ≠ s := by rintro rfl; have : st.contains i = true := by simpa using hs
                       rw [hi] at this; cases this
  rw [getD_set_ne false e]; exact h s hs
def wpL (P : Program) (md : Region.Mode) (ops : Array Oper) (Q : Exit → Act → World → Prop) (T : World → Prop) (st : List Nat) : Nat → Array Bool → Act → World → Prop
  | 0, up, a, w => Region.ready md ops up = [] ∧ Q .normal a w
  | k + 1, up, a, w => (Region.ready md ops up = [] → Q .normal a w) ∧
      ∀ i ∈ Region.ready md ops up, wpOp P ops Q i (fun a' w' => (clean st (up.setIfInBounds i true) = true → T w') ∧ wpL P md ops Q T st k (up.setIfInBounds i true) a' w') a w
theorem wpAny_of_L : ∀ (k : Nat) (up : Array Bool) (a : Act) (w : World), wpL P md ops Q T st k up a w → wpAny P md ops Q k up a w
  | 0, _, _, _, h => h
  | k + 1, up, _, _, h => ⟨h.1, fun i hi => wpOp_mono (fun a' w' h' => wpAny_of_L k (up.setIfInBounds i true) a' w' h'.2) (h.2 i hi)⟩
def waits (md : Region.Mode) (ops : Array Oper) (st : List Nat) (i : Nat) : Bool :=
  st.all fun j => match ops[j]? with
    | some o => o.after.any fun e => Region.binds md e && e.on == i
    | none => true
theorem waits_spec {i j : Nat} {o : Oper} (h : waits md ops st i = true) (hj : st.contains j = true) (ho : ops[j]? = some o) : ∃ e ∈ o.after, Region.binds md e = true ∧ e.on = i := by
  unfold waits at h
  rw [List.all_eq_true] at h
  have h1 := h j (by simpa using hj)
  rw [ho] at h1
  simp only [Array.any_eq_true, Bool.and_eq_true, beq_iff_eq] at h1
  obtain ⟨n, hn, h2, h3⟩ := h1
  exact ⟨_, Array.getElem_mem hn, h2, h3⟩
theorem wpL_load {i : Nat} {oi : Oper} {v : Value} (hi : ops[i]? = some oi) (hs : Region.noSelect ops = true) (hQ : ∀ c a w, Q (.panic c) (a.put oi.dst v) w → Q (.panic c) a w) (hns : st.contains i = false) (hlt : waits md ops st i = true) :
    ∀ (k : Nat) (up : Array Bool) (a : Act) (w : World), Region.free md ops up i = true → (Region.ready md ops up).contains i = true → YieldsIf P ops T oi v a → clean st up = true → T w →
      wpL P md ops Q T st k (up.setIfInBounds i true) (a.put oi.dst v) w → wpL P md ops Q T st (k + 1) up a w := by
  suffices H0 : ∀ (k : Nat) (up : Array Bool) (a : Act) (w : World),
      (∀ j oj, ops[j]? = some oj → j ≠ i → up.getD j true = false → (∀ e ∈ oj.after, Region.binds md e = true → e.on ≠ i) → oi.apart ops oj = true) →
      i ∈ Region.ready md ops up → YieldsIf P ops T oi v a → clean st up = true → T w →
      wpL P md ops Q T st k (up.setIfInBounds i true) (a.put oi.dst v) w → wpL P md ops Q T st (k + 1) up a w by
    intro k up a w hf hr
    exact H0 k up a w (Region.free_spec hi hf) (by simpa using hr)
  intro k
  induction k with
  | zero =>
    intro up a w _ hr hy hc hT H
    refine ⟨fun h => (by rw [h] at hr; cases hr), fun j hj => ?_⟩
    by_cases hji : j = i
    · subst hji; exact hy.wpOp hi hT ⟨fun _ => hT, H⟩
    · have := ready_mono hj hji
      rw [H.1] at this
      cases this
  | succ k ih =>
    intro up a w hfree hr hy hc hT H
    refine ⟨fun h => (by rw [h] at hr; cases hr), fun j hj => ?_⟩
    by_cases hji : j = i
    · subst hji; exact hy.wpOp hi hT ⟨fun _ => hT, H⟩
    · have h1 := H.2 j (ready_mono hj hji)
      obtain ⟨hjun, oj, hoj, hall⟩ := mem_ready.1 hj
      have hno : ∀ e ∈ oj.after, Region.binds md e = true → e.on ≠ i := fun e he hb heq => by
        have a1 := hall e he hb
        have a0 := (mem_ready.1 hr).1
        rw [heq] at a1
        rcases Nat.lt_or_ge i up.size with h' | h'
        · simp [h'] at a0 a1; rw [a0] at a1; cases a1
        · simp [Array.getElem?_eq_none h'] at a1
      have hjl : st.contains j = false := by
        cases hcj : st.contains j with
        | false => rfl
        | true =>
          obtain ⟨e, he, hb, heq⟩ := waits_spec hlt hcj hoj
          exact absurd heq (hno e he hb)
      have hcj := clean_on hjl hc
      have hsel := Region.noSelect_spec hs
      have h2 := wpOp_putIf hoj (hfree j oj hoj hji hjun hno) (fun cs b => hsel i oi cs b hi) (fun cs b => hsel j oj cs b hoj) hQ hy h1
      have hfree' : ∀ n on_, ops[n]? = some on_ → n ≠ i → (up.setIfInBounds j true).getD n true = false →
          (∀ e ∈ on_.after, Region.binds md e = true → e.on ≠ i) → oi.apart ops on_ = true := fun n on_ hn hni hun hnw => by
        refine hfree n on_ hn hni ?_ hnw
        by_cases hjn : j = n
        · subst hjn; exact hjun
        · rw [getD_set_ne true hjn] at hun; exact hun
      have hsw : (up.setIfInBounds i true).setIfInBounds j true = (up.setIfInBounds j true).setIfInBounds i true := Array.setIfInBounds_comm _ _ (Ne.symm hji)
      refine wpOp_mono (fun a' w' h3 => ⟨fun _ => h3.2.1 (by rw [hsw]; exact clean_on hns hcj), ih (up.setIfInBounds j true) a' w' hfree' (ready_mono hr (Ne.symm hji)) h3.1 hcj (h3.2.1 (by rw [hsw]; exact clean_on hns hcj)) ?_⟩) h2
      rw [← hsw]
      exact h3.2.2
theorem wpL_word {i : Nat} {oi : Oper} {v : Value} (hi : ops[i]? = some oi) (hs : Region.noSelect ops = true) (hQ : ∀ c a w, Q (.panic c) (a.put oi.dst v) w → Q (.panic c) a w) (hns : st.contains i = false) :
    ∀ (k : Nat) (up : Array Bool) (a : Act) (w : World), Region.free md ops up i = true → (Region.ready md ops up).contains i = true → YieldsIf P ops (fun _ => True) oi v a → (clean st up = true → T w) →
      wpL P md ops Q T st k (up.setIfInBounds i true) (a.put oi.dst v) w → wpL P md ops Q T st (k + 1) up a w := by
  suffices H0 : ∀ (k : Nat) (up : Array Bool) (a : Act) (w : World),
      (∀ j oj, ops[j]? = some oj → j ≠ i → up.getD j true = false → (∀ e ∈ oj.after, Region.binds md e = true → e.on ≠ i) → oi.apart ops oj = true) →
      i ∈ Region.ready md ops up → YieldsIf P ops (fun _ => True) oi v a → (clean st up = true → T w) →
      wpL P md ops Q T st k (up.setIfInBounds i true) (a.put oi.dst v) w → wpL P md ops Q T st (k + 1) up a w by
    intro k up a w hf hr
    exact H0 k up a w (Region.free_spec hi hf) (by simpa using hr)
  intro k
  induction k with
  | zero =>
    intro up a w _ hr hy hT H
    refine ⟨fun h => (by rw [h] at hr; cases hr), fun j hj => ?_⟩
    by_cases hji : j = i
    · subst hji; exact hy.wpOp hi trivial ⟨fun h => hT (clean_back h), H⟩
    · have := ready_mono hj hji
      rw [H.1] at this
      cases this
  | succ k ih =>
    intro up a w hfree hr hy hT H
    refine ⟨fun h => (by rw [h] at hr; cases hr), fun j hj => ?_⟩
    by_cases hji : j = i
    · subst hji; exact hy.wpOp hi trivial ⟨fun h => hT (clean_back h), H⟩
    · have h1 := H.2 j (ready_mono hj hji)
      obtain ⟨hjun, oj, hoj, hall⟩ := mem_ready.1 hj
      have hno : ∀ e ∈ oj.after, Region.binds md e = true → e.on ≠ i := fun e he hb heq => by
        have a1 := hall e he hb
        have a0 := (mem_ready.1 hr).1
        rw [heq] at a1
        rcases Nat.lt_or_ge i up.size with h' | h'
        · simp [h'] at a0 a1; rw [a0] at a1; cases a1
        · simp [Array.getElem?_eq_none h'] at a1
      have hsel := Region.noSelect_spec hs
      have h2 := wpOp_putIf hoj (hfree j oj hoj hji hjun hno) (fun cs b => hsel i oi cs b hi) (fun cs b => hsel j oj cs b hoj) hQ hy h1
      have hfree' : ∀ n on_, ops[n]? = some on_ → n ≠ i → (up.setIfInBounds j true).getD n true = false →
          (∀ e ∈ on_.after, Region.binds md e = true → e.on ≠ i) → oi.apart ops on_ = true := fun n on_ hn hni hun hnw => by
        refine hfree n on_ hn hni ?_ hnw
        by_cases hjn : j = n
        · subst hjn; exact hjun
        · rw [getD_set_ne true hjn] at hun; exact hun
      have hsw : (up.setIfInBounds i true).setIfInBounds j true = (up.setIfInBounds j true).setIfInBounds i true := Array.setIfInBounds_comm _ _ (Ne.symm hji)
      refine wpOp_mono (fun a' w' h3 => ⟨fun hcj => h3.2.1 (by rw [hsw]; exact clean_on hns hcj), ih (up.setIfInBounds j true) a' w' hfree' (ready_mono hr (Ne.symm hji)) h3.1 (fun hcj => h3.2.1 (by rw [hsw]; exact clean_on hns hcj)) ?_⟩) h2
      rw [← hsw]
      exact h3.2.2
theorem wpL_done {up : Array Bool} {a : Act} {w : World} (hr : Region.ready md ops up = []) (h : Q .normal a w) : ∀ k, wpL P md ops Q T st k up a w
  | 0 => ⟨hr, h⟩
  | _ + 1 => ⟨fun _ => h, by rw [hr]; simp⟩
theorem wpL_late {n k : Nat} {o : Oper} {up : Array Bool} {a : Act} {w : World} (hr : Region.ready md ops up = [n]) (ho : ops[n]? = some o) (hk : clean st (up.setIfInBounds n true) = false)
    (h : ∀ K : Act → World → Prop, Shut (∀ a w, wpL P md ops Q T st k (up.setIfInBounds n true) a w → K a w) → if Region.wanted o (yielded ops a.tmps) = true then Oper.wp P o a w K Q else K (a.put o.dst undef) w) :
    wpL P md ops Q T st (k + 1) up a w := by
  refine ⟨fun h0 => (by rw [hr] at h0; cases h0), ?_⟩
  rw [hr]
  intro j hj
  simp only [List.mem_cons, List.not_mem_nil, or_false] at hj
  subst hj
  exact wpOp_step ho (fun K hK => h K (fun a w hW => hK a w ⟨fun e => (by rw [hk] at e; cases e), hW⟩))
theorem wpL_next {n k : Nat} {o : Oper} {up : Array Bool} {a : Act} {w : World} (hr : Region.ready md ops up = [n]) (ho : ops[n]? = some o)
    (h : ∀ K : Act → World → Prop, Shut (∀ a w, T w → wpL P md ops Q T st k (up.setIfInBounds n true) a w → K a w) → if Region.wanted o (yielded ops a.tmps) = true then Oper.wp P o a w K Q else K (a.put o.dst undef) w) :
    wpL P md ops Q T st (k + 1) up a w := by
  refine ⟨fun h0 => (by rw [hr] at h0; cases h0), ?_⟩
  rw [hr]
  intro j hj
  simp only [List.mem_cons, List.not_mem_nil, or_false] at hj
  subst hj
  exact wpOp_step ho (fun K hK => h K (fun a w hT hW => hK a w ⟨fun _ => hT, hW⟩))
theorem wp_region_L {id : Nat} {a : Act} {w : World} (hm : P.follows .mixedOrders = true)
    (h : wpL P .any ops Q T st ops.size (Array.replicate ops.size false) a w.drew) : (Code.region id ops true).wp P Q a w :=
  wp_region_any hm (wpAny_of_L _ _ _ _ h)
end
end Lat
namespace Lax
open Go Lat
structure Ix (n : Nat) : Prop where
  ok : True
section
variable {P : Program} {ops : Array Oper} {Q : Exit → Act → World → Prop} {md : Region.Mode} {T : World → Prop} {st : List Nat} {i k : Nat} {oi : Oper} {v : Value} {up : Array Bool} {a : Act} {w : World}
end
theorem jP {R X : Prop} (kk : R) (h : R → X := by
  intro hk
  (try simp only [Act.put, List.getElem_toArray, List.getElem_cons_succ, List.getElem_cons_zero, List.setIfInBounds_toArray, List.set_cons_zero, List.set_cons_succ])
  exact hk) : X := h kk
section
variable {P : Program} {ops : Array Oper} {Q : Exit → Act → World → Prop} {md : Region.Mode} {T : World → Prop} {st : List Nat} {n k : Nat} {o : Oper} {up : Array Bool} {a : Act} {w : World}
end
section
variable {P : Program} {ops : Array Oper} {Q : Exit → Act → World → Prop} {md : Region.Mode} {S : World → Prop} {i k : Nat} {oi : Oper} {v : Value} {up : Array Bool} {a : Act} {w : World}
theorem tTk (_x : Ix i) (hS : S w) (hy : ∀ w', S w' → (execOp a.eval oi).run P w' = .ok (.value v) w') (h : wpAnyH P md ops Q S k (up.setIfInBounds i true) (a.put oi.dst v) w) (hi : ops[i]? = some oi := by rfl) (hw : Region.wanted oi (yielded ops a.tmps) = true := by rfl) (hs : Region.noSelect ops = true := by kernel_rfl) (hf : Region.free md ops up i = true := by kernel_rfl) (hr : (Region.ready md ops up).contains i = true := by kernel_rfl) (hQ : ∀ c a w, Q (.panic c) (a.put oi.dst v) w → Q (.panic c) a w := by exact fun _ _ _ h => h) :
    wpAnyH P md ops Q S (k + 1) up a w := wpAnyH_take hi hs hf hr hQ (.inl ⟨hw, hy⟩) hS h
theorem tSk (_x : Ix i) (hS : S w) (h : wpAnyH P md ops Q S k (up.setIfInBounds i true) (a.put oi.dst undef) w) (hi : ops[i]? = some oi := by rfl) (hw : Region.wanted oi (yielded ops a.tmps) = false := by rfl) (hs : Region.noSelect ops = true := by kernel_rfl) (hf : Region.free md ops up i = true := by kernel_rfl) (hr : (Region.ready md ops up).contains i = true := by kernel_rfl) (hQ : ∀ c a w, Q (.panic c) (a.put oi.dst undef) w → Q (.panic c) a w := by exact fun _ _ _ h => h) :
    wpAnyH P md ops Q S (k + 1) up a w := wpAnyH_take hi hs hf hr hQ (.inr ⟨hw, rfl⟩) hS h
end
theorem jT (i : Nat) {R X : Prop} (kk : R) (h : Ix i → R → X := by
  intro hi hk
  refine tTk hi (by clear hk; assumption) (v := ?_) ?_ ?_
  rotate_left
  · intro w' hSw
    (try dsimp only at hSw)
    go_simp
    try with_reducible rfl
  (try simp only [Act.put, List.getElem_toArray, List.getElem_cons_succ, List.getElem_cons_zero, List.setIfInBounds_toArray, List.set_cons_zero, List.set_cons_succ])
  exact hk) : X := h ⟨trivial⟩ kk
theorem jS (i : Nat) {R X : Prop} (kk : R) (h : Ix i → R → X := by
  intro hi hk
  refine tSk hi (by clear hk; assumption) ?_
  (try simp only [Act.put, List.getElem_toArray, List.getElem_cons_succ, List.getElem_cons_zero, List.setIfInBounds_toArray, List.set_cons_zero, List.set_cons_succ])
  exact hk) : X := h ⟨trivial⟩ kk
end Lax
namespace Tre
open Go.ChangeShapes Go.WideShapes Go.ChangeAt Go.RowKit Mem
def inR (n : Nat) (k : Int) : Bool := decide (0 ≤ k) && decide (k < n)
theorem inR_t {n : Nat} {k : Int} (h : 0 ≤ k) (h' : k < n) : inR n k = true := by unfold inR; simp [h, h']
theorem inR_f {n : Nat} {k : Int} (h : k < 0 ∨ n ≤ k) : inR n k = false := by unfold inR; simp; omega
theorem inR_of {n : Nat} {k : Int} (h : inR n k = true) : 0 ≤ k ∧ k < n := by unfold inR at h; simpa using h
def top (l : List (Int × Int)) : Nat → Nat → Bool
  | 0, _ => false
  | d + 1, a => nP l a == -1 || top l d (nP l a).toNat
def Par (l : List (Int × Int)) : Prop := ∀ i, i < l.length → -1 ≤ nP l i ∧ nP l i < l.length
def climbF (l : List (Int × Int)) : Nat → Nat → Int × Int
  | 0, _ => (0, -1)
  | g + 1, k => if top l 3 k then climbF l g (k + 1) else (16, k)
def scanF (l : List (Int × Int)) : Nat → Nat → Int × Int
  | 0, _ => climbF l l.length 0
  | g + 1, k => if nP l k = -1 ∨ inR l.length (nP l k) = true then (if 0 ≤ nC l k ∧ nC l k ≤ 4611686018427387904 then scanF l g (k + 1) else (1, k)) else (18, k)
def chk (l : List (Int × Int)) : Int × Int :=
  if 32 < l.length then (11, 0) else if l.length = 0 then (1, 0) else scanF l l.length 0
theorem top_m1 {l : List (Int × Int)} {g a : Nat} (h : nP l a = -1) : top l (g + 1) a = true := by unfold top; simp [h]
theorem top_up {l : List (Int × Int)} {g a : Nat} (h : (nP l a == -1) = false) : top l (g + 1) a = top l g (nP l a).toNat := by
  rw [top, h]; simp
def ToldB (b : Bool) (w : World) (e : Ending) (w' : World) : Prop := e = .returned (.bool b) ∧ w = w'
def Told2 (p : Int × Int) (w : World) (e : Ending) (w' : World) : Prop := e = .returned (.tuple #[.int .i64 p.1, .int .i64 p.2]) ∧ w = w'
def Made2 (p : Int × Int) (w : World) (e : Ending) (w' : World) : Prop := e = .returned (.tuple #[.int .i64 p.1, .int .i64 p.2]) ∧ Below w.heap.size w w'
theorem told2 {p : Int × Int} {a b : Int} {w : World} (h : p = (a, b)) : Told2 p w (.returned (.tuple #[.int .i64 a, .int .i64 b])) w := by subst h; exact ⟨rfl, rfl⟩
theorem made2 {p : Int × Int} {a b : Int} {w w' : World} (h : p = (a, b)) (hb : Below w.heap.size w w') : Made2 p w (.returned (.tuple #[.int .i64 a, .int .i64 b])) w' := by subst h; exact ⟨rfl, hb⟩
theorem has_any (A : Option Addr) (n c : Nat) (k : Int) (w : World) :
    Calls Tryz.prog 44 #[.slice A n c, .int .i64 k] w (ToldB (inR n k) w) := by
  by_cases h0 : 0 ≤ k
  · by_cases h1 : k < n
    · go_enter Tryz.func44, Tryz.ntmps44
      go_wp2
      go_ret
      exact ⟨by rw [inR_t h0 h1]; rfl, rfl⟩
    · go_enter Tryz.func44, Tryz.ntmps44
      go_wp2
      go_ret
      exact ⟨by rw [inR_f (by omega)]; rfl, rfl⟩
  · go_enter Tryz.func44, Tryz.ntmps44
    go_wp2
    go_ret
    exact ⟨by rw [inR_f (by omega)]; rfl, rfl⟩
theorem climb_any (b o c : Nat) (l : List (Int × Int)) (w : World) (hn : l.length ≤ 32) (hpar : Hid (Par l))
    (hp : Hid (∀ i, i < l.length → w.cell? ⟨b, o + i * 2, none⟩ = some (.int .i64 (nP l i)))) :
    Calls Tryz.prog 45 #[.slice (some ⟨b, o, none⟩) l.length c] w (Told2 (climbF l l.length 0) w) := by
  go_enter Tryz.func45, Tryz.ntmps45
  go_wp2
  go_step3
  go_wp2
  go_step3
  go_wp2
  go_loopg [8] l.length (fun g s8 w' => ∃ k : Nat, k + g = l.length ∧ s8 = .int .i64 k ∧ Hid (climbF l g k = climbF l l.length 0) ∧ w = w')
  case atStart => exact ⟨0, by omega, rfl, rfl, rfl⟩
  case round =>
    obtain ⟨k, hk, rfl, hall, rfl⟩ := hrel
    obtain ⟨g0, rfl⟩ : ∃ g : Nat, g = gk := ⟨_, rfl⟩
    by_cases hlt : (k : Int) < (l.length : Int)
    · go_wp2
      go_loopg [5, 12] 3 (fun g s5 s12 w' => ∃ a : Nat, a < l.length ∧ s5 = .int .i64 a ∧ s12 = .int .i64 ((3 : Int) - g) ∧ g ≤ 3 ∧ Hid (top l g a = top l 3 k) ∧ w = w')
      case atStart => exact ⟨k, by omega, rfl, rfl, by omega, rfl, rfl⟩
      case round =>
        obtain ⟨a, ha, rfl, rfl, hg, ht, rfl⟩ := hrel
        have hc := hp.out a ha
        have hb := hpar.out a ha
        by_cases hz : gk = 0
        · subst hz
          have ht' : Hid (climbF l l.length 0 = (16, (k : Int))) := by
            show _ = _
            rw [← hall.out, show g0 = (g0 - 1) + 1 by omega, climbF, ← ht.out]; rfl
          go_wp2
          rw [Exit.noGoto_ret]
          go_ret2
          exact told2 ht'.out
        · obtain ⟨g, rfl⟩ : ∃ g, gk = g + 1 := ⟨gk - 1, by omega⟩
          by_cases hm : nP l a = -1
          · have ht' : top l 3 k = true := by rw [← ht.out]; exact top_m1 hm
            have hall' : Hid (climbF l (g0 - 1) (k + 1) = climbF l l.length 0) := by
              show _ = _
              rw [← hall.out, show g0 = (g0 - 1) + 1 by omega, climbF, ht']; rfl
            have hm' : (nP l a == -1) = true := by simp [hm]
            have HM := Lib.hid hm
            clear hm ht' ht
            go_wp2
            go_roundg (g0 - 1)
            case measure => omega
            case rel => exact ⟨k + 1, by omega, by go_num, hall', rfl⟩
          · have hm' : (nP l a == -1) = false := by simp [hm]
            have ht' : Hid (top l g (nP l a).toNat = top l 3 k) := by
              show _ = _; rw [← ht.out]; exact (top_up hm').symm
            go_wp2
            go_roundg g
            case measure => omega
            case rel => exact ⟨(nP l a).toNat, by omega, by congr 1; omega, by congr 1; omega, by omega, ht', rfl⟩
    · have hall' : Hid (climbF l l.length 0 = (0, -1)) := by
        show _ = _
        rw [← hall.out, show g0 = 0 by omega]; rfl
      go_wp2
      try rw [Exit.noGoto_ret]
      go_ret2
      exact told2 hall'.out
theorem scan_18 {l : List (Int × Int)} {g k : Nat} (h : (nP l k != -1) = true) (h' : inR l.length (nP l k) = false) : scanF l (g + 1) k = (18, (k : Int)) := by
  rw [scanF, if_neg]; simp at h; simp [h, h']
theorem scan_1 {l : List (Int × Int)} {g k : Nat} (h : nP l k = -1 ∨ inR l.length (nP l k) = true) (h' : nC l k < 0 ∨ 4611686018427387904 < nC l k) : scanF l (g + 1) k = (1, (k : Int)) := by
  rw [scanF, if_pos h, if_neg (by omega)]
theorem scan_go {l : List (Int × Int)} {g k : Nat} (h : nP l k = -1 ∨ inR l.length (nP l k) = true) (h' : 0 ≤ nC l k) (h'' : nC l k ≤ 4611686018427387904) : scanF l (g + 1) k = scanF l g (k + 1) := by
  rw [scanF, if_pos h, if_pos ⟨h', h''⟩]
theorem check_any (A : Option Addr) (c : Nat) (l : List (Int × Int)) (w : World) (hl : Nds w w.heap.size A l) (hw : Hid (WfN l)) (hmax : (l.length : Int) ≤ 9223372036854775807) :
    Calls Tryz.prog 25 #[.slice A l.length c] w (Made2 (chk l) w) := by
  by_cases h32 : 32 < l.length
  · go_enter Tryz.func25, Tryz.ntmps25
    go_wp2
    go_ret2
    exact made2 (by rw [chk, if_pos h32]) (Below.refl _ _)
  by_cases h0 : l.length = 0
  · have h0' : l = [] := List.eq_nil_of_length_eq_zero h0
    subst h0'
    go_enter Tryz.func25, Tryz.ntmps25
    go_wp2
    go_ret2
    exact made2 rfl (Below.refl _ _)
  obtain ⟨b, o, rfl, hb, hc⟩ := hl.at (by omega)
  have HC := Lib.hid hc
  have H0 : ((l.length : Int) == 0) = false := beq_eq_false_iff_ne.2 (by omega)
  have hchk : Hid (chk l = scanF l l.length 0) := by show _ = _; rw [chk, if_neg h32, if_neg h0]
  clear hc hl h0
  go_enter Tryz.func25, Tryz.ntmps25
  go_wp2
  go_loopg [14] l.length (fun g s14 w' => ∃ k : Nat, k + g = l.length ∧ s14 = .int .i64 k ∧ Hid (scanF l g k = scanF l l.length 0) ∧ Hid (∀ j, j < k → nP l j = -1 ∨ inR l.length (nP l j) = true) ∧ Below w.heap.size w w')
  case atStart => exact ⟨0, by omega, rfl, rfl, fun j hj => absurd hj (Nat.not_lt_zero j), Below.refl _ _⟩
  case round =>
    obtain ⟨k, hk, rfl, hall, hpar, hbel⟩ := hrel
    by_cases hlt : (k : Int) < (l.length : Int)
    · obtain ⟨g, rfl⟩ : ∃ g, gk = g + 1 := ⟨gk - 1, by omega⟩
      have hc0 : wr.cell? ⟨b, o + k * 2, none⟩ = some (.int .i64 (nP l k)) := (hbel.cell (p := ⟨b, o + k * 2, none⟩) hb).trans (HC.out k (by omega)).1
      have hc1 : wr.cell? ⟨b, o + k * 2 + 1, none⟩ = some (.int .i64 (nC l k)) := (hbel.cell (p := ⟨b, o + k * 2 + 1, none⟩) hb).trans (HC.out k (by omega)).2
      have hbel2 : Below w.heap.size w (wr.alloc (.cells #[.int .i64 (nP l k), .int .i64 (nC l k)] 67)) := hbel.alloc hbel.size _
      by_cases hP : nP l k = -1 ∨ inR l.length (nP l k) = true
      · by_cases hC : 0 ≤ nC l k ∧ nC l k ≤ 4611686018427387904
        · have hall' : Hid (scanF l g (k + 1) = scanF l l.length 0) := (scan_go hP hC.1 hC.2).symm.trans hall.out
          have hpar' : Hid (∀ j, j < k + 1 → nP l j = -1 ∨ inR l.length (nP l j) = true) := fun j hj => by
            by_cases e : j = k
            · subst e; exact hP
            · exact hpar.out j (by omega)
          obtain ⟨hC0, hC1⟩ := hC
          by_cases hm : nP l k = -1
          · have h1 : (nP l k != -1) = false := by simp [hm]
            have h1' : (nP l k == -1) = true := by simp [hm]
            clear hm hP
            go_wp2_with fail
            go_roundg g
            case measure => omega
            case rel => exact ⟨k + 1, by omega, by go_num, hall', hpar', hbel2⟩
          · have h1 : (nP l k != -1) = true := by simp [hm]
            have h1' : (nP l k == -1) = false := by simp [hm]
            have h2 : inR l.length (nP l k) = true := hP.resolve_left hm
            clear hm hP
            go_wp2_with (go_at_call 44; refine (has_any _ _ _ _ _).mono ?_; rintro e w' ⟨rfl, rfl⟩)
            go_roundg g
            case measure => omega
            case rel => exact ⟨k + 1, by omega, by go_num, hall', hpar', hbel2⟩
        · have hres : Hid (scanF l l.length 0 = (1, (k : Int))) := by
            show _ = _
            rw [← hall.out]; exact scan_1 hP (by omega)
          by_cases hm : nP l k = -1
          · have h1 : (nP l k != -1) = false := by simp [hm]
            have h1' : (nP l k == -1) = true := by simp [hm]
            clear hm hP
            by_cases hC0 : nC l k < 0
            · go_wp2_with fail
              go_ret2
              exact made2 (hchk.out.trans hres.out) hbel2
            · have hC1 : 4611686018427387904 < nC l k := by omega
              clear hC
              go_wp2_with fail
              go_ret2
              exact made2 (hchk.out.trans hres.out) hbel2
          · have h1 : (nP l k != -1) = true := by simp [hm]
            have h1' : (nP l k == -1) = false := by simp [hm]
            have h2 : inR l.length (nP l k) = true := hP.resolve_left hm
            clear hm hP
            by_cases hC0 : nC l k < 0
            · go_wp2_with (go_at_call 44; refine (has_any _ _ _ _ _).mono ?_; rintro e w' ⟨rfl, rfl⟩)
              go_ret2
              exact made2 (hchk.out.trans hres.out) hbel2
            · have hC1 : 4611686018427387904 < nC l k := by omega
              clear hC
              go_wp2_with (go_at_call 44; refine (has_any _ _ _ _ _).mono ?_; rintro e w' ⟨rfl, rfl⟩)
              go_ret2
              exact made2 (hchk.out.trans hres.out) hbel2
      · have hm : ¬ nP l k = -1 := fun e => hP (.inl e)
        have h1 : (nP l k != -1) = true := by simp [hm]
        have h1' : (nP l k == -1) = false := by simp [hm]
        have h2 : inR l.length (nP l k) = false := by
          cases h : inR l.length (nP l k)
          · rfl
          · exact absurd (.inr h) hP
        have hres : Hid (scanF l l.length 0 = (18, (k : Int))) := by
          show _ = _
          rw [← hall.out]; exact scan_18 h1 h2
        clear hm hP
        go_wp2_with (go_at_call 44; refine (has_any _ _ _ _ _).mono ?_; rintro e w' ⟨rfl, rfl⟩)
        go_ret2
        exact made2 (hchk.out.trans hres.out) hbel2
    · have hres : Hid (scanF l l.length 0 = climbF l l.length 0) := by
        show _ = _
        rw [← hall.out, show gk = 0 by omega]; rfl
      have hpar' : Hid (Par l) := by
        intro i hi
        rcases hpar.out i (by omega) with h | h
        · omega
        · have := inR_of h; omega
      have hp' : Hid (∀ i, i < l.length → wr.cell? ⟨b, o + i * 2, none⟩ = some (.int .i64 (nP l i))) := fun i hi =>
        (hbel.cell (p := ⟨b, o + i * 2, none⟩) hb).trans (HC.out i hi).1
      go_wp2_with (go_at_call 45; refine (climb_any b o c l _ (by omega) hpar' hp').mono ?_; rintro e w' ⟨rfl, rfl⟩)
      go_ret2
      exact made2 (hchk.out.trans hres.out) hbel
def MadeN (x : Int) (w : World) (e : Ending) (w' : World) : Prop := e = .returned (.int .i64 x) ∧ Below w.heap.size w w'
end Tre
namespace Law3
open Go.ChangeShapes Go.WideShapes Go.ChangeAt Go.RowKit Mem Tre Ref3
def MadeB (b : Bool) (w : World) (e : Ending) (w' : World) : Prop := e = .returned (.bool b) ∧ Below w.heap.size w w'
theorem madeB_mk {b b' : Bool} {w w' : World} (h : b' = b) (hb : Below w.heap.size w w') : MadeB b' w (.returned (.bool b)) w' := by subst h; exact ⟨rfl, hb⟩
end Law3
namespace Fix3
open Go.ChangeShapes Go.WideShapes Go.ChangeAt Go.RowKit Mem Tre Ref3 Law3
def Okt (l : List (Int × Int)) : Prop := ∀ i, i < l.length → -1 ≤ nP l i ∧ nP l i < i ∧ 0 ≤ nC l i ∧ nC l i ≤ 4611686018427387904 ∧ top l 3 i = true
theorem okt_wf {l : List (Int × Int)} (h : Okt l) (hl : l.length ≤ 32) : WfN l := fun i hi => by
  have := h i hi
  exact ⟨⟨by omega, by omega⟩, ⟨by omega, by omega⟩⟩
theorem wrap_u64 (x : Int) : IntKind.u64.wrap x = x % 18446744073709551616 := by simp [IntKind.wrap, IntKind.bits, IntKind.signed]
end Fix3
namespace Flo
open Ieee
def B : Nat := 4503599627370496
def mag (R : Nat) : Nat := if R < B then R else B + R % B
def lift (R : Nat) : Nat := if R < B then 0 else R / B - 1
def N (R : Nat) : Nat := mag R * 2 ^ lift R
def up (q r g : Nat) : Bool := decide (g < 2 * r) || (decide (g = 2 * r) && decide (q % 2 = 1))
theorem beq_dec (a b : Nat) : (a == b) = decide (a = b) := rfl
def D (R : Nat) : Nat := N R / 2 ^ 1074
def rightB (b : Nat) : Bool := FloatKind.f64.format.order b 0 == some .gt || FloatKind.f64.format.order b 0 == some .eq
end Flo
namespace Bnd
open Go.ChangeShapes Go.WideShapes Go.ChangeAt Go.RowKit Flo
theorem right_any (b : Nat) (w : Go.World) :
    Calls Tryz.prog 47 #[.float .f64 b] w fun e w' => e = .returned (.bool (rightB b)) ∧ w = w' := by
  go_enter Tryz.func47, Tryz.ntmps47
  go_wp2
  go_ret
  exact ⟨rfl, rfl⟩
end Bnd
namespace Cfg
open Go.ChangeShapes Go.WideShapes Go.RowKit Mem Tre Ref3 Law3 Fix3 Opn Bnd Flo
theorem run_store_float {P : Program} {w : World} {a : Addr} {m : Mode} (k : FloatKind) (n : Nat) : (store a (.float k n) m).run P w = stored P w a (.float k n) m := run_store P w a _ m rfl
def sP (l : List (Int × Int × Int × Nat)) (i : Nat) : Int := (l.getD i (0, 0, 0, 0)).1
def sQ (l : List (Int × Int × Int × Nat)) (i : Nat) : Int := (l.getD i (0, 0, 0, 0)).2.1
def sW (l : List (Int × Int × Int × Nat)) (i : Nat) : Int := (l.getD i (0, 0, 0, 0)).2.2.1
def sB (l : List (Int × Int × Int × Nat)) (i : Nat) : Nat := (l.getD i (0, 0, 0, 0)).2.2.2
def syV (p : Int × Int × Int × Nat) : List Value := [.int .i64 p.1, .int .i64 p.2.1, .int .i64 p.2.2.1, .float .f64 p.2.2.2]
def btV (p : Int × Int × Int × Nat) : List Value := [.int .i64 p.1, .int .i64 p.2.1, .int .i64 p.2.2.1, .int .u64 (p.2.2.2 : Int)]
def smbs (l : List (Int × Int × Int × Nat)) : List Value := l.flatMap syV
def btbs (l : List (Int × Int × Int × Nat)) : List Value := l.flatMap btV
theorem smbs_len (l : List (Int × Int × Int × Nat)) : (smbs l).length = l.length * 4 := by
  induction l with
  | nil => rfl
  | cons p l ih => simp [smbs, syV] at ih ⊢; omega
theorem btbs_len (l : List (Int × Int × Int × Nat)) : (btbs l).length = l.length * 4 := by
  induction l with
  | nil => rfl
  | cons p l ih => simp [btbs, btV] at ih ⊢; omega
theorem smbs_get (l : List (Int × Int × Int × Nat)) (i : Nat) (hi : i < l.length) :
    (smbs l)[i * 4]? = some (.int .i64 (sP l i)) ∧ (smbs l)[i * 4 + 1]? = some (.int .i64 (sQ l i)) ∧ (smbs l)[i * 4 + 2]? = some (.int .i64 (sW l i)) ∧ (smbs l)[i * 4 + 3]? = some (.float .f64 (sB l i)) := by
  induction l generalizing i with
  | nil => simp at hi
  | cons p l ih =>
    cases i with
    | zero => simp [smbs, syV, sP, sQ, sW, sB]
    | succ i =>
      have := ih i (by simpa using hi)
      rw [show (i + 1) * 4 = i * 4 + 4 by omega, show i * 4 + 4 + 1 = (i * 4 + 1) + 4 by omega, show i * 4 + 4 + 2 = (i * 4 + 2) + 4 by omega, show i * 4 + 4 + 3 = (i * 4 + 3) + 4 by omega]
      simpa [smbs, syV, sP, sQ, sW, sB] using this
theorem btbs_get (l : List (Int × Int × Int × Nat)) (i : Nat) (hi : i < l.length) :
    (btbs l)[i * 4]? = some (.int .i64 (sP l i)) ∧ (btbs l)[i * 4 + 1]? = some (.int .i64 (sQ l i)) ∧ (btbs l)[i * 4 + 2]? = some (.int .i64 (sW l i)) ∧ (btbs l)[i * 4 + 3]? = some (.int .u64 (sB l i : Int)) := by
  induction l generalizing i with
  | nil => simp at hi
  | cons p l ih =>
    cases i with
    | zero => simp [btbs, btV, sP, sQ, sW, sB]
    | succ i =>
      have := ih i (by simpa using hi)
      rw [show (i + 1) * 4 = i * 4 + 4 by omega, show i * 4 + 4 + 1 = (i * 4 + 1) + 4 by omega, show i * 4 + 4 + 2 = (i * 4 + 2) + 4 by omega, show i * 4 + 4 + 3 = (i * 4 + 3) + 4 by omega]
      simpa [btbs, btV, sP, sQ, sW, sB] using this
def Smb (w : World) (B : Nat) (A : Option Addr) (l : List (Int × Int × Int × Nat)) : Prop := Rd w B A (smbs l)
def Btb (w : World) (B : Nat) (A : Option Addr) (l : List (Int × Int × Int × Nat)) : Prop := Rd w B A (btbs l)
theorem Smb.at {w : World} {B : Nat} {A : Option Addr} {l : List (Int × Int × Int × Nat)} (h : Smb w B A l) {i : Nat} (hi : i < l.length) :
    ∃ b o, A = some ⟨b, o, none⟩ ∧ b < B ∧ ∀ j, j < l.length → w.cell? ⟨b, o + j * 4, none⟩ = some (.int .i64 (sP l j)) ∧ w.cell? ⟨b, o + j * 4 + 1, none⟩ = some (.int .i64 (sQ l j)) ∧ w.cell? ⟨b, o + j * 4 + 2, none⟩ = some (.int .i64 (sW l j)) ∧ w.cell? ⟨b, o + j * 4 + 3, none⟩ = some (.float .f64 (sB l j)) := by
  obtain ⟨b, o, hA, hb, hc⟩ := Rd.at h (by intro e; have := smbs_len l; rw [e] at this; simp at this; omega)
  refine ⟨b, o, hA, hb, fun j hj => ?_⟩
  obtain ⟨g0, g1, g2, g3⟩ := smbs_get l j hj
  exact ⟨hc _ _ g0, by rw [Nat.add_assoc]; exact hc _ _ g1, by rw [Nat.add_assoc]; exact hc _ _ g2, by rw [Nat.add_assoc]; exact hc _ _ g3⟩
theorem Btb.at {w : World} {B : Nat} {A : Option Addr} {l : List (Int × Int × Int × Nat)} (h : Btb w B A l) {i : Nat} (hi : i < l.length) :
    ∃ b o, A = some ⟨b, o, none⟩ ∧ b < B ∧ ∀ j, j < l.length → w.cell? ⟨b, o + j * 4, none⟩ = some (.int .i64 (sP l j)) ∧ w.cell? ⟨b, o + j * 4 + 1, none⟩ = some (.int .i64 (sQ l j)) ∧ w.cell? ⟨b, o + j * 4 + 2, none⟩ = some (.int .i64 (sW l j)) ∧ w.cell? ⟨b, o + j * 4 + 3, none⟩ = some (.int .u64 (sB l j : Int)) := by
  obtain ⟨b, o, hA, hb, hc⟩ := Rd.at h (by intro e; have := btbs_len l; rw [e] at this; simp at this; omega)
  refine ⟨b, o, hA, hb, fun j hj => ?_⟩
  obtain ⟨g0, g1, g2, g3⟩ := btbs_get l j hj
  exact ⟨hc _ _ g0, by rw [Nat.add_assoc]; exact hc _ _ g1, by rw [Nat.add_assoc]; exact hc _ _ g2, by rw [Nat.add_assoc]; exact hc _ _ g3⟩
def btwB (a n b : Int) : Bool := decide (a ≤ n) && decide (n ≤ b)
def symB (p q wo : Int) (b : Nat) : Bool := btwB 1 p 1099511627776 && btwB 1 q 1099511627776 && decide (0 ≤ wo) && rightB b
def sizB (sh wi ra ta : Int) : Bool := btwB 1 sh 4 && btwB 0 wi 16 && btwB 1 ra 1000 && btwB 1 ta 64
def accB (n : Nat) (ac : List Int) : Bool := decide (∀ i, i < ac.length → inR n (gI ac i) = true)
def tabB (sy : List (Int × Int × Int × Nat)) : Bool := decide (∀ i, i < sy.length → symB (sP sy i) (sQ sy i) (sW sy i) (sB sy i) = true)
def cfgF (sh wi ra ta : Int) (nd : List (Int × Int)) (ac : List Int) (sy : List (Int × Int × Int × Nat)) : Int :=
  if sizB sh wi ra ta = false then 1
  else if ¬ (chk nd).1 = 0 then (chk nd).1
  else if ac.length = 0 ∨ 32 < ac.length then 3
  else if accB nd.length ac = false then 18
  else if sy.length = 0 ∨ 16 < sy.length then 4
  else if tabB sy = false then 1 else 0
theorem btw_t {a n b : Int} (h : a ≤ n) (h' : n ≤ b) : btwB a n b = true := by simp [btwB, h, h']
theorem btw_l {a n b : Int} (h : n < a) : btwB a n b = false := by simp [btwB]; omega
theorem btw_g {a n b : Int} (h : b < n) : btwB a n b = false := by simp [btwB]; omega
theorem accB_f {n : Nat} {ac : List Int} {i : Nat} (h : i < ac.length) (h' : inR n (gI ac i) = false) : accB n ac = false := by
  unfold accB
  simp only [decide_eq_false_iff_not]
  intro e
  rw [e i h] at h'
  exact absurd h' (by decide)
theorem accB_t {n : Nat} {ac : List Int} (h : ∀ i, i < ac.length → inR n (gI ac i) = true) : accB n ac = true := by
  unfold accB; simpa using h
theorem tabB_f {sy : List (Int × Int × Int × Nat)} {i : Nat} (h : i < sy.length) (h' : symB (sP sy i) (sQ sy i) (sW sy i) (sB sy i) = false) : tabB sy = false := by
  unfold tabB
  simp only [decide_eq_false_iff_not]
  intro e
  rw [e i h] at h'
  exact absurd h' (by decide)
theorem tabB_t {sy : List (Int × Int × Int × Nat)} (h : ∀ i, i < sy.length → symB (sP sy i) (sQ sy i) (sW sy i) (sB sy i) = true) : tabB sy = true := by
  unfold tabB; simpa using h
section
variable {sh wi ra ta : Int} {nd : List (Int × Int)} {ac : List Int} {sy : List (Int × Int × Int × Nat)}
theorem cfgF_1 (h : sizB sh wi ra ta = false) : cfgF sh wi ra ta nd ac sy = 1 := by unfold cfgF; rw [if_pos h]
theorem cfgF_2 (h : sizB sh wi ra ta = true) (h2 : ¬ (chk nd).1 = 0) : cfgF sh wi ra ta nd ac sy = (chk nd).1 := by
  unfold cfgF; rw [if_neg (by rw [h]; decide), if_pos h2]
theorem cfgF_3 (h : sizB sh wi ra ta = true) (h2 : (chk nd).1 = 0) (h3 : ac.length = 0 ∨ 32 < ac.length) : cfgF sh wi ra ta nd ac sy = 3 := by
  unfold cfgF; rw [if_neg (by rw [h]; decide), if_neg (by simp [h2]), if_pos h3]
theorem cfgF_4 (h : sizB sh wi ra ta = true) (h2 : (chk nd).1 = 0) (h3 : ¬ (ac.length = 0 ∨ 32 < ac.length)) (h4 : accB nd.length ac = false) : cfgF sh wi ra ta nd ac sy = 18 := by
  unfold cfgF; rw [if_neg (by rw [h]; decide), if_neg (by simp [h2]), if_neg h3, if_pos h4]
theorem cfgF_5 (h : sizB sh wi ra ta = true) (h2 : (chk nd).1 = 0) (h3 : ¬ (ac.length = 0 ∨ 32 < ac.length)) (h4 : accB nd.length ac = true) (h5 : sy.length = 0 ∨ 16 < sy.length) : cfgF sh wi ra ta nd ac sy = 4 := by
  unfold cfgF; rw [if_neg (by rw [h]; decide), if_neg (by simp [h2]), if_neg h3, if_neg (by rw [h4]; decide), if_pos h5]
theorem cfgF_6 (h : sizB sh wi ra ta = true) (h2 : (chk nd).1 = 0) (h3 : ¬ (ac.length = 0 ∨ 32 < ac.length)) (h4 : accB nd.length ac = true) (h5 : ¬ (sy.length = 0 ∨ 16 < sy.length)) (h6 : tabB sy = false) : cfgF sh wi ra ta nd ac sy = 1 := by
  unfold cfgF; rw [if_neg (by rw [h]; decide), if_neg (by simp [h2]), if_neg h3, if_neg (by rw [h4]; decide), if_neg h5, if_pos h6]
theorem cfgF_7 (h : sizB sh wi ra ta = true) (h2 : (chk nd).1 = 0) (h3 : ¬ (ac.length = 0 ∨ 32 < ac.length)) (h4 : accB nd.length ac = true) (h5 : ¬ (sy.length = 0 ∨ 16 < sy.length)) (h6 : tabB sy = true) : cfgF sh wi ra ta nd ac sy = 0 := by
  unfold cfgF; rw [if_neg (by rw [h]; decide), if_neg (by simp [h2]), if_neg h3, if_neg (by rw [h4]; decide), if_neg h5, if_neg (by rw [h6]; decide)]
end
end Cfg
namespace Rul1
open Go.ChangeShapes Go.WideShapes Go.ChangeAt Go.RowKit Mem Tre Ref3 Law3 Fix3 Opn Bnd Flo Cfg
attribute [local go_sem] run_store_float
def MadeX (x : Int) (w : World) (e : Ending) (w' : World) : Prop := e = .returned (.int .i64 x) ∧ Below w.heap.size w w'
theorem madeX_mk {x y : Int} {w w' : World} (h : x = y) (hb : Below w.heap.size w w') : MadeX x w (.returned (.int .i64 y)) w' := by subst h; exact ⟨rfl, hb⟩
theorem below_step {a b c : World} (h : Below a.heap.size a b) (k : Below b.heap.size b c) : Below a.heap.size a c := h.trans (k.mono h.size)
theorem btwI_any (a n b : Int) (w : World) : Calls Tryz.prog 43 #[.int .i64 a, .int .i64 n, .int .i64 b] w (ToldB (btwB a n b) w) := by
  by_cases h0 : a ≤ n
  · by_cases h1 : n ≤ b
    · have e := Lib.hid (btw_t h0 h1)
      go_enter Tryz.func43, Tryz.ntmps43
      go_wp2
      go_ret
      exact ⟨by rw [e.out]; rfl, rfl⟩
    · have e := Lib.hid (btw_g (a := a) (n := n) (b := b) (by omega))
      go_enter Tryz.func43, Tryz.ntmps43
      go_wp2
      go_ret
      exact ⟨by rw [e.out]; rfl, rfl⟩
  · have e := Lib.hid (btw_l (a := a) (n := n) (b := b) (by omega))
    go_enter Tryz.func43, Tryz.ntmps43
    go_wp2
    go_ret
    exact ⟨by rw [e.out]; rfl, rfl⟩
theorem btwL_any (a n b : Int) (w : World) : Calls Tryz.prog 46 #[.int .i64 a, .int .i64 n, .int .i64 b] w (ToldB (btwB a n b) w) := by
  by_cases h0 : a ≤ n
  · by_cases h1 : n ≤ b
    · have e := Lib.hid (btw_t h0 h1)
      go_enter Tryz.func46, Tryz.ntmps46
      go_wp2
      go_ret
      exact ⟨by rw [e.out]; rfl, rfl⟩
    · have e := Lib.hid (btw_g (a := a) (n := n) (b := b) (by omega))
      go_enter Tryz.func46, Tryz.ntmps46
      go_wp2
      go_ret
      exact ⟨by rw [e.out]; rfl, rfl⟩
  · have e := Lib.hid (btw_l (a := a) (n := n) (b := b) (by omega))
    go_enter Tryz.func46, Tryz.ntmps46
    go_wp2
    go_ret
    exact ⟨by rw [e.out]; rfl, rfl⟩
theorem hasN_any (A : Option Addr) (n c : Nat) (k : Int) (w : World) :
    Calls Tryz.prog 26 #[.slice A n c, .int .i64 k] w (ToldB (inR n k) w) := by
  by_cases h0 : 0 ≤ k
  · by_cases h1 : k < n
    · go_enter Tryz.func26, Tryz.ntmps26
      go_wp2
      go_ret
      exact ⟨by rw [inR_t h0 h1]; rfl, rfl⟩
    · go_enter Tryz.func26, Tryz.ntmps26
      go_wp2
      go_ret
      exact ⟨by rw [inR_f (by omega)]; rfl, rfl⟩
  · go_enter Tryz.func26, Tryz.ntmps26
    go_wp2
    go_ret
    exact ⟨by rw [inR_f (by omega)]; rfl, rfl⟩
theorem sized_any (sh wi ra ta : Int) (A B C : Option Addr) (n m k c d f : Nat) (w : World) :
    Calls Tryz.prog 24 #[.agg #[.int .i64 sh, .int .i64 wi, .int .i64 ra, .int .i64 ta, .slice A n c, .slice B m d, .slice C k f]] w (MadeB (sizB sh wi ra ta) w) := by
  have E : Hid (sizB sh wi ra ta = (btwB 1 sh 4 && btwB 0 wi 16 && btwB 1 ra 1000 && btwB 1 ta 64)) := rfl
  cases h1 : btwB 1 sh 4
  · have E1 : Hid (sizB sh wi ra ta = false) := by have := E.out; rw [h1] at this; exact this
    go_enter Tryz.func24, Tryz.ntmps24
    go_wp2_with (go_at_call 43; refine (btwI_any _ _ _ _).mono ?_; rintro e w1 ⟨rfl, rfl⟩)
    go_ret
    exact madeB_mk E1.out ((Below.refl _ _).alloc (Nat.le_refl _) _)
  cases h2 : btwB 0 wi 16
  · have E1 : Hid (sizB sh wi ra ta = false) := by have := E.out; rw [h1, h2] at this; exact this
    go_enter Tryz.func24, Tryz.ntmps24
    go_wp2_with (go_at_call 43; refine (btwI_any _ _ _ _).mono ?_; rintro e w1 ⟨rfl, rfl⟩)
    go_ret
    exact madeB_mk E1.out ((Below.refl _ _).alloc (Nat.le_refl _) _)
  cases h3 : btwB 1 ra 1000
  · have E1 : Hid (sizB sh wi ra ta = false) := by have := E.out; rw [h1, h2, h3] at this; exact this
    go_enter Tryz.func24, Tryz.ntmps24
    go_wp2_with (go_at_call 43; refine (btwI_any _ _ _ _).mono ?_; rintro e w1 ⟨rfl, rfl⟩)
    go_ret
    exact madeB_mk E1.out ((Below.refl _ _).alloc (Nat.le_refl _) _)
  cases h4 : btwB 1 ta 64
  · have E1 : Hid (sizB sh wi ra ta = false) := by have := E.out; rw [h1, h2, h3, h4] at this; exact this
    go_enter Tryz.func24, Tryz.ntmps24
    go_wp2_with (go_at_call 43; refine (btwI_any _ _ _ _).mono ?_; rintro e w1 ⟨rfl, rfl⟩)
    go_ret
    exact madeB_mk E1.out ((Below.refl _ _).alloc (Nat.le_refl _) _)
  · have E1 : Hid (sizB sh wi ra ta = true) := by have := E.out; rw [h1, h2, h3, h4] at this; exact this
    go_enter Tryz.func24, Tryz.ntmps24
    go_wp2_with (go_at_call 43; refine (btwI_any _ _ _ _).mono ?_; rintro e w1 ⟨rfl, rfl⟩)
    go_ret
    exact madeB_mk E1.out ((Below.refl _ _).alloc (Nat.le_refl _) _)
theorem tradable_any (p q wo : Int) (b : Nat) (w : World) :
    Calls Tryz.prog 27 #[.agg #[.int .i64 p, .int .i64 q, .int .i64 wo, .float .f64 b]] w (MadeB (symB p q wo b) w) := by
  have E : Hid (symB p q wo b = (btwB 1 p 1099511627776 && btwB 1 q 1099511627776 && decide (0 ≤ wo) && rightB b)) := rfl
  cases h1 : btwB 1 p 1099511627776
  · have E1 : Hid (symB p q wo b = false) := by have := E.out; rw [h1] at this; exact this
    go_enter Tryz.func27, Tryz.ntmps27
    go_wp2_with (first | (go_at_call 46; refine (btwL_any _ _ _ _).mono ?_; rintro e w1 ⟨rfl, rfl⟩) | (go_at_call 47; refine (Bnd.right_any _ _).mono ?_; rintro e w1 ⟨rfl, rfl⟩))
    go_ret
    exact madeB_mk E1.out ((Below.refl _ _).alloc (Nat.le_refl _) _)
  cases h2 : btwB 1 q 1099511627776
  · have E1 : Hid (symB p q wo b = false) := by have := E.out; rw [h1, h2] at this; exact this
    go_enter Tryz.func27, Tryz.ntmps27
    go_wp2_with (first | (go_at_call 46; refine (btwL_any _ _ _ _).mono ?_; rintro e w1 ⟨rfl, rfl⟩) | (go_at_call 47; refine (Bnd.right_any _ _).mono ?_; rintro e w1 ⟨rfl, rfl⟩))
    go_ret
    exact madeB_mk E1.out ((Below.refl _ _).alloc (Nat.le_refl _) _)
  by_cases h3 : 0 ≤ wo
  · cases h4 : rightB b
    · have E1 : Hid (symB p q wo b = false) := by have := E.out; rw [h1, h2, h4, decide_eq_true h3] at this; exact this
      go_enter Tryz.func27, Tryz.ntmps27
      go_wp2_with (first | (go_at_call 46; refine (btwL_any _ _ _ _).mono ?_; rintro e w1 ⟨rfl, rfl⟩) | (go_at_call 47; refine (Bnd.right_any _ _).mono ?_; rintro e w1 ⟨rfl, rfl⟩))
      go_ret
      exact madeB_mk E1.out ((Below.refl _ _).alloc (Nat.le_refl _) _)
    · have E1 : Hid (symB p q wo b = true) := by have := E.out; rw [h1, h2, h4, decide_eq_true h3] at this; exact this
      go_enter Tryz.func27, Tryz.ntmps27
      go_wp2_with (first | (go_at_call 46; refine (btwL_any _ _ _ _).mono ?_; rintro e w1 ⟨rfl, rfl⟩) | (go_at_call 47; refine (Bnd.right_any _ _).mono ?_; rintro e w1 ⟨rfl, rfl⟩))
      go_ret
      exact madeB_mk E1.out ((Below.refl _ _).alloc (Nat.le_refl _) _)
  · have E1 : Hid (symB p q wo b = false) := by have := E.out; rw [h1, h2, decide_eq_false h3] at this; exact this
    have h4 : decide (0 ≤ wo) = false := decide_eq_false h3
    go_enter Tryz.func27, Tryz.ntmps27
    go_wp2_with (first | (go_at_call 46; refine (btwL_any _ _ _ _).mono ?_; rintro e w1 ⟨rfl, rfl⟩) | (go_at_call 47; refine (Bnd.right_any _ _).mono ?_; rintro e w1 ⟨rfl, rfl⟩))
    go_ret
    exact madeB_mk E1.out ((Below.refl _ _).alloc (Nat.le_refl _) _)
theorem check5_any (sh wi ra ta : Int) (A B C : Option Addr) (c d f : Nat) (nd : List (Int × Int)) (ac : List Int) (sy : List (Int × Int × Int × Nat)) (w : World)
    (hl : Hid (Nds w w.heap.size A nd)) (hu : Hid (Ris w w.heap.size B ac)) (hs : Hid (Smb w w.heap.size C sy)) (hw : Hid (WfN nd)) (hmax : (nd.length : Int) ≤ 1000000) (hmay : (ac.length : Int) ≤ 1000000) (hmaz : (sy.length : Int) ≤ 1000000) :
    Calls Tryz.prog 12 #[.agg #[.int .i64 sh, .int .i64 wi, .int .i64 ra, .int .i64 ta, .slice A nd.length c, .slice B ac.length d, .slice C sy.length f]] w (MadeX (cfgF sh wi ra ta nd ac sy) w) := by
  have b0 : Below w.heap.size w (w.alloc (.cells #[.int .i64 sh, .int .i64 wi, .int .i64 ra, .int .i64 ta, .slice A nd.length c, .slice B ac.length d, .slice C sy.length f] 46)) := (Below.refl _ _).alloc (Nat.le_refl _) _
  have l0 : Hid (Nds (w.alloc (.cells #[.int .i64 sh, .int .i64 wi, .int .i64 ra, .int .i64 ta, .slice A nd.length c, .slice B ac.length d, .slice C sy.length f] 46)) (w.alloc (.cells #[.int .i64 sh, .int .i64 wi, .int .i64 ra, .int .i64 ta, .slice A nd.length c, .slice B ac.length d, .slice C sy.length f] 46)).heap.size A nd) := Rd.below' hl.out b0 b0.size
  have ua0 : Hid (Ris (w.alloc (.cells #[.int .i64 sh, .int .i64 wi, .int .i64 ra, .int .i64 ta, .slice A nd.length c, .slice B ac.length d, .slice C sy.length f] 46)) (w.alloc (.cells #[.int .i64 sh, .int .i64 wi, .int .i64 ra, .int .i64 ta, .slice A nd.length c, .slice B ac.length d, .slice C sy.length f] 46)).heap.size B ac) := Rd.below' hu.out b0 b0.size
  have s0 : Hid (Smb (w.alloc (.cells #[.int .i64 sh, .int .i64 wi, .int .i64 ra, .int .i64 ta, .slice A nd.length c, .slice B ac.length d, .slice C sy.length f] 46)) (w.alloc (.cells #[.int .i64 sh, .int .i64 wi, .int .i64 ra, .int .i64 ta, .slice A nd.length c, .slice B ac.length d, .slice C sy.length f] 46)).heap.size C sy) := Rd.below' hs.out b0 b0.size
  have k0 : Hid (Blk (w.alloc (.cells #[.int .i64 sh, .int .i64 wi, .int .i64 ra, .int .i64 ta, .slice A nd.length c, .slice B ac.length d, .slice C sy.length f] 46)) w.heap.size 46 #[.int .i64 sh, .int .i64 wi, .int .i64 ra, .int .i64 ta, .slice A nd.length c, .slice B ac.length d, .slice C sy.length f]) := Blk.fresh _ _ _
  go_enter Tryz.func12, Tryz.ntmps12
  go_wp2_with fail
  generalize (w.alloc (.cells #[.int .i64 sh, .int .i64 wi, .int .i64 ra, .int .i64 ta, .slice A nd.length c, .slice B ac.length d, .slice C sy.length f] 46)) = W0 at b0 l0 ua0 s0 k0 ⊢
  refine (sized_any sh wi ra ta A B C nd.length ac.length sy.length c d f _).mono ?_
  rintro e w1 ⟨rfl, hb1⟩
  have b1 := below_step b0 hb1
  have k1 := Lib.hid (Blk.below' k0.out hb1)
  have l1 : Hid (Nds w1 w1.heap.size A nd) := Rd.below' l0.out hb1 hb1.size
  have ua1 : Hid (Ris w1 w1.heap.size B ac) := Rd.below' ua0.out hb1 hb1.size
  have s1 : Hid (Smb w1 w1.heap.size C sy) := Rd.below' s0.out hb1 hb1.size
  have f4 : w1.cell? ⟨w.heap.size, 4, none⟩ = some (.slice A nd.length c) := k1.out.cell 4
  clear b0 l0 ua0 s0 k0 hb1
  cases hsz : sizB sh wi ra ta
  · have E : Hid (cfgF sh wi ra ta nd ac sy = 1) := cfgF_1 hsz
    go_wp2_with fail
    go_ret
    exact madeX_mk E.out b1
  have HSZ := Lib.hid hsz
  go_wp2_with fail
  refine (check_any A c nd w1 l1.out hw (by omega)).mono ?_
  rintro e w2 ⟨rfl, hb2⟩
  have b2 := below_step b1 hb2
  have k2 := Lib.hid (Blk.below' k1.out hb2)
  have ua2 : Hid (Ris w2 w2.heap.size B ac) := Rd.below' ua1.out hb2 hb2.size
  have s2 : Hid (Smb w2 w2.heap.size C sy) := Rd.below' s1.out hb2 hb2.size
  have g4 : w2.cell? ⟨w.heap.size, 4, none⟩ = some (.slice A nd.length c) := k2.out.cell 4
  have g5 : w2.cell? ⟨w.heap.size, 5, none⟩ = some (.slice B ac.length d) := k2.out.cell 5
  have g6 : w2.cell? ⟨w.heap.size, 6, none⟩ = some (.slice C sy.length f) := k2.out.cell 6
  clear b1 k1 l1 ua1 s1 hb2 f4 hsz
  by_cases hc : (chk nd).1 = 0
  case neg =>
    have c1 : ((chk nd).1 != 0) = true := by simp [hc]
    have c2 : ((chk nd).1 == 0) = false := by simp [hc]
    have E : Hid (cfgF sh wi ra ta nd ac sy = (chk nd).1) := cfgF_2 HSZ.out hc
    clear hc
    go_wp2_with fail
    go_ret
    exact madeX_mk E.out b2
  have c1 : ((chk nd).1 != 0) = false := by simp [hc]
  have c2 : ((chk nd).1 == 0) = true := by simp [hc]
  have HC := Lib.hid hc
  clear hc
  by_cases ha0 : ac.length = 0
  · have q1 : ((ac.length : Int) == 0) = true := beq_iff_eq.2 (by omega)
    have E : Hid (cfgF sh wi ra ta nd ac sy = 3) := cfgF_3 HSZ.out HC.out (.inl ha0)
    clear ha0
    go_wp2_with fail
    go_ret
    exact madeX_mk E.out b2
  have q1 : ((ac.length : Int) == 0) = false := beq_eq_false_iff_ne.2 (by omega)
  by_cases ha1 : 32 < ac.length
  · have E : Hid (cfgF sh wi ra ta nd ac sy = 3) := cfgF_3 HSZ.out HC.out (.inr ha1)
    go_wp2_with fail
    go_ret
    exact madeX_mk E.out b2
  have HA : Hid (¬ (ac.length = 0 ∨ 32 < ac.length)) := by show ¬ _; omega
  clear ha0
  go_wp2_with fail
  go_loopg [34] ac.length (fun g s34 w' => ∃ (k : Nat), k + g = ac.length ∧ s34 = .int .i64 k ∧ Hid (∀ i, i < k → inR nd.length (gI ac i) = true) ∧ w2 = w')
  case atStart => exact ⟨0, by omega, rfl, fun i hi => absurd hi (Nat.not_lt_zero i), rfl⟩
  case round =>
    obtain ⟨k, hk, rfl, hall, rfl⟩ := hrel
    by_cases hlt : (k : Int) < (ac.length : Int)
    · obtain ⟨g, rfl⟩ : ∃ g, gk = g + 1 := ⟨gk - 1, by omega⟩
      obtain ⟨b, o, rfl, hb, hcc⟩ := Ris.at (i := k) ua2.out (by omega)
      have d0 := hcc k (by omega)
      clear hcc
      cases hin : inR nd.length (gI ac k)
      · have E : Hid (cfgF sh wi ra ta nd ac sy = 18) := cfgF_4 HSZ.out HC.out HA.out (accB_f (by omega) hin)
        go_wp2_with (go_at_call 26; refine (hasN_any _ _ _ _ _).mono ?_; rintro e w3 ⟨rfl, rfl⟩)
        go_ret
        exact madeX_mk E.out b2
      · have hall' : Hid (∀ i, i < k + 1 → inR nd.length (gI ac i) = true) := fun i hi => by
          by_cases e : i = k
          · subst e; exact hin
          · exact hall.out i (by omega)
        go_wp2_with (go_at_call 26; refine (hasN_any _ _ _ _ _).mono ?_; rintro e w3 ⟨rfl, rfl⟩)
        go_roundg g
        case measure => omega
        case rel => exact ⟨k + 1, by omega, by go_num, hall', rfl⟩
    · have HB : Hid (accB nd.length ac = true) := accB_t fun i hi => hall.out i (by omega)
      clear hk
      by_cases ha0 : sy.length = 0
      · have q2 : ((sy.length : Int) == 0) = true := beq_iff_eq.2 (by omega)
        have E : Hid (cfgF sh wi ra ta nd ac sy = 4) := cfgF_5 HSZ.out HC.out HA.out HB.out (.inl ha0)
        clear ha0
        go_wp2_with fail
        go_ret
        exact madeX_mk E.out b2
      have q2 : ((sy.length : Int) == 0) = false := beq_eq_false_iff_ne.2 (by omega)
      by_cases ha2 : 16 < sy.length
      · have E : Hid (cfgF sh wi ra ta nd ac sy = 4) := cfgF_5 HSZ.out HC.out HA.out HB.out (.inr ha2)
        go_wp2_with fail
        go_ret
        exact madeX_mk E.out b2
      have HD : Hid (¬ (sy.length = 0 ∨ 16 < sy.length)) := by show ¬ _; omega
      clear ha0
      go_wp2_with fail
      go_loopg [57] sy.length (fun g s57 w' => ∃ (j : Nat), j + g = sy.length ∧ s57 = .int .i64 j ∧ Hid (∀ i, i < j → symB (sP sy i) (sQ sy i) (sW sy i) (sB sy i) = true) ∧ Below w2.heap.size w2 w')
      case atStart => exact ⟨0, by omega, rfl, fun i hi => absurd hi (Nat.not_lt_zero i), Below.refl _ _⟩
      case round =>
        obtain ⟨j, hj, rfl, hall2, hbel⟩ := hrel
        have bE := below_step b2 hbel
        by_cases hlt2 : (j : Int) < (sy.length : Int)
        · obtain ⟨g, rfl⟩ : ∃ g, gk = g + 1 := ⟨gk - 1, by omega⟩
          obtain ⟨b, o, rfl, hb, hcc⟩ := Smb.at (i := j) s2.out (by omega)
          obtain ⟨r0, r1, r2, r3⟩ := hcc j (by omega)
          have d0 := (hbel.cell (p := ⟨b, o + j * 4, none⟩) hb).trans r0
          have d1 := (hbel.cell (p := ⟨b, o + j * 4 + 1, none⟩) hb).trans r1
          have d2 := (hbel.cell (p := ⟨b, o + j * 4 + 2, none⟩) hb).trans r2
          have d3 := (hbel.cell (p := ⟨b, o + j * 4 + 3, none⟩) hb).trans r3
          clear hcc r0 r1 r2 r3
          cases hin : symB (sP sy j) (sQ sy j) (sW sy j) (sB sy j)
          · have E : Hid (cfgF sh wi ra ta nd ac sy = 1) := cfgF_6 HSZ.out HC.out HA.out HB.out HD.out (tabB_f (by omega) hin)
            go_wp2_with fail
            refine (tradable_any _ _ _ _ _).mono ?_
            rintro e w3 ⟨rfl, hb3⟩
            have b3 := below_step (bE.alloc bE.size _) hb3
            go_wp2_with fail
            go_ret
            exact madeX_mk E.out b3
          · have hall' : Hid (∀ i, i < j + 1 → symB (sP sy i) (sQ sy i) (sW sy i) (sB sy i) = true) := fun i hi => by
              by_cases e : i = j
              · subst e; exact hin
              · exact hall2.out i (by omega)
            go_wp2_with fail
            refine (tradable_any _ _ _ _ _).mono ?_
            rintro e w3 ⟨rfl, hb3⟩
            have b3 := below_step (hbel.alloc hbel.size _) hb3
            go_wp2_with fail
            go_roundg g
            case measure => omega
            case rel => exact ⟨j + 1, by omega, by go_num, hall', b3⟩
        · have E : Hid (cfgF sh wi ra ta nd ac sy = 0) := cfgF_7 HSZ.out HC.out HA.out HB.out HD.out (tabB_t fun i hi => hall2.out i (by omega))
          go_wp2_with fail
          go_ret
          exact madeX_mk E.out bE
end Rul1
namespace Rul3
open Go.ChangeShapes Go.WideShapes Go.ChangeAt Go.RowKit Mem Tre Ref3 Law3 Fix3 Opn Bnd Flo Cfg Rul1
attribute [local go_sem] run_store_float
section
variable {ac : List Int} {sy : List (Int × Int × Int × Nat)} {a s p q n t : Int}
end
def MadeO (a s : Int) (x : Bool) (p q n t : Int) (w : World) (e : Ending) (w' : World) : Prop := e = .returned (.agg #[.int .i64 a, .int .i64 s, .bool x, .int .i64 p, .int .i64 q, .int .i64 n, .int .i64 t]) ∧ Below w.heap.size w w'
theorem order_any (a s : Int) (x : Bool) (p q n t : Int) (w : World) :
    Calls Tryz.prog 11 #[.agg #[.int .i64 a, .int .i64 s, .bool x, .int .i64 p, .int .i64 q, .int .i64 n, .int .i64 t]] w (MadeO a s x p q n t w) := by
  go_enter Tryz.func11, Tryz.ntmps11
  go_wp2_with fail
  exact bodyPost_ret (v := .agg #[.int .i64 a, .int .i64 s, .bool x, .int .i64 p, .int .i64 q, .int .i64 n, .int .i64 t]) (by simp [results, Tryz.results11, go_sem]) rfl ⟨rfl, ((Below.refl _ _).alloc (Nat.le_refl _) _).alloc (by simp) _⟩
end Rul3
namespace CrdB
open Go.ChangeShapes Go.WideShapes Go.ChangeAt Go.RowKit Mem Tre Ref3 Law3 Crd
theorem below_step {a b c : World} (h : Below a.heap.size a b) (k : Below b.heap.size b c) : Below a.heap.size a c := h.trans (k.mono h.size)
theorem blk_set {w : World} {g : Nat} {te : TypeId} {cs : Array Value} (h : Blk w g te cs) (i : Nat) (u : Value) : Blk (w.setCell ⟨g, i, none⟩ u) g te (cs.setIfInBounds i u) := by
  unfold Blk at h ⊢
  simp [World.setCell, Array.getElem?_modify, h]
end CrdB
namespace Wmr
open Go.ChangeShapes Go.WideShapes Go.ChangeAt Go.RowKit Mem Tre Ref3 Law3 Fix3 CrdB Wpl
theorem eqP (w : World) (m n : M) : (binOp .eql 29 (mvl m) (mvl n)).run Tryz.prog w = .ok (.bool (eqM m n)) w := by
  have p1 : Tryz.prog.stoodInHeld 29 = false := by kernel_rfl
  have p2 : Tryz.prog.stoodInHeld 27 = false := by kernel_rfl
  have u1 : Tryz.prog.underlying 29 = some (.struct (Tryz.prog.fieldsOf 29)) := by kernel_rfl
  have u2 : Tryz.prog.underlying 27 = some (.struct (Tryz.prog.fieldsOf 27)) := by kernel_rfl
  unfold mvl
  rw [run_eql_struct, run_equalIn_agg _ _ _ _ _ u1 p1]
  simp only [Program.fieldsOf, Tryz.underlying29]
  simp [Op.eqFields, go_sem, Program.fieldsOf, Tryz.underlying29, Tryz.underlying27, Tryz.underlying3, Tryz.underlying2, Tryz.underlying4, part]
  by_cases e0 : m.k = n.k
  case neg => rw [if_neg e0]; simp [eqM, e0]
  rw [if_pos e0]
  by_cases e1 : m.a = n.a
  case neg => rw [if_neg e1]; simp [eqM, e1]
  rw [if_pos e1]
  by_cases e2 : m.s = n.s
  case neg => rw [if_neg e2]; simp [eqM, e2]
  rw [if_pos e2]
  by_cases e3 : m.x = n.x
  case neg => rw [if_neg e3]; simp [eqM, e3]
  rw [if_pos e3]
  by_cases e4 : m.p = n.p
  case neg => rw [if_neg e4]; simp [eqM, e4]
  rw [if_pos e4]
  by_cases e5 : m.q = n.q
  case neg => rw [if_neg e5]; simp [eqM, e5]
  rw [if_pos e5]
  by_cases e6 : m.n = n.n
  case neg => rw [if_neg e6]; simp [eqM, e6]
  rw [if_pos e6]
  by_cases e7 : m.t = n.t
  case neg => rw [if_neg e7]; simp [eqM, e7]
  rw [if_pos e7]
  by_cases e8 : m.i = n.i
  case neg => rw [if_neg e8]; simp [eqM, e8]
  rw [if_pos e8]
  by_cases e9 : m.y = n.y
  case neg => rw [if_neg e9]; simp [eqM, e9]
  rw [if_pos e9]
  by_cases e10 : m.z = n.z
  case neg => rw [if_neg e10]; simp [eqM, e10]
  rw [if_pos e10]
  by_cases e11 : m.v = n.v
  case neg => rw [if_neg e11]; simp [eqM, e11]
  rw [if_pos e11]
  simp [eqM, e0, e1, e2, e3, e4, e5, e6, e7, e8, e9, e10, e11]
theorem eqP12 (k1 a1 s1 p1 q1 n1 t1 i1 y1 z1 v1 k2 a2 s2 p2 q2 n2 t2 i2 y2 z2 v2 : Int) (x1 x2 : Bool) (w : World) : (binOp .eql 29 (.agg #[.int .i64 k1, .int .i64 a1, .int .i64 s1, .bool x1, .int .i64 p1, .int .i64 q1, .int .i64 n1, .int .i64 t1, .int .i64 i1, .int .i64 y1, .int .i64 z1, .int .i64 v1]) (.agg #[.int .i64 k2, .int .i64 a2, .int .i64 s2, .bool x2, .int .i64 p2, .int .i64 q2, .int .i64 n2, .int .i64 t2, .int .i64 i2, .int .i64 y2, .int .i64 z2, .int .i64 v2])).run Tryz.prog w = .ok (.bool (eqM ⟨k1, a1, s1, x1, p1, q1, n1, t1, i1, y1, z1, v1⟩ ⟨k2, a2, s2, x2, p2, q2, n2, t2, i2, y2, z2, v2⟩)) w :=
  eqP w ⟨k1, a1, s1, x1, p1, q1, n1, t1, i1, y1, z1, v1⟩ ⟨k2, a2, s2, x2, p2, q2, n2, t2, i2, y2, z2, v2⟩
theorem neP (w : World) (m n : M) : (binOp .neq 29 (mvl m) (mvl n)).run Tryz.prog w = .ok (.bool (!eqM m n)) w := by
  have p1 : Tryz.prog.stoodInHeld 29 = false := by kernel_rfl
  have p2 : Tryz.prog.stoodInHeld 27 = false := by kernel_rfl
  have u1 : Tryz.prog.underlying 29 = some (.struct (Tryz.prog.fieldsOf 29)) := by kernel_rfl
  have u2 : Tryz.prog.underlying 27 = some (.struct (Tryz.prog.fieldsOf 27)) := by kernel_rfl
  unfold mvl
  rw [run_neq_struct, run_equalIn_agg _ _ _ _ _ u1 p1]
  simp only [Program.fieldsOf, Tryz.underlying29]
  simp [Op.eqFields, go_sem, Program.fieldsOf, Tryz.underlying29, Tryz.underlying27, Tryz.underlying3, Tryz.underlying2, Tryz.underlying4, part]
  by_cases e0 : m.k = n.k
  case neg => rw [if_neg e0]; simp [eqM, e0]
  rw [if_pos e0]
  by_cases e1 : m.a = n.a
  case neg => rw [if_neg e1]; simp [eqM, e1]
  rw [if_pos e1]
  by_cases e2 : m.s = n.s
  case neg => rw [if_neg e2]; simp [eqM, e2]
  rw [if_pos e2]
  by_cases e3 : m.x = n.x
  case neg => rw [if_neg e3]; simp [eqM, e3]
  rw [if_pos e3]
  by_cases e4 : m.p = n.p
  case neg => rw [if_neg e4]; simp [eqM, e4]
  rw [if_pos e4]
  by_cases e5 : m.q = n.q
  case neg => rw [if_neg e5]; simp [eqM, e5]
  rw [if_pos e5]
  by_cases e6 : m.n = n.n
  case neg => rw [if_neg e6]; simp [eqM, e6]
  rw [if_pos e6]
  by_cases e7 : m.t = n.t
  case neg => rw [if_neg e7]; simp [eqM, e7]
  rw [if_pos e7]
  by_cases e8 : m.i = n.i
  case neg => rw [if_neg e8]; simp [eqM, e8]
  rw [if_pos e8]
  by_cases e9 : m.y = n.y
  case neg => rw [if_neg e9]; simp [eqM, e9]
  rw [if_pos e9]
  by_cases e10 : m.z = n.z
  case neg => rw [if_neg e10]; simp [eqM, e10]
  rw [if_pos e10]
  by_cases e11 : m.v = n.v
  case neg => rw [if_neg e11]; simp [eqM, e11]
  rw [if_pos e11]
  simp [eqM, e0, e1, e2, e3, e4, e5, e6, e7, e8, e9, e10, e11]
theorem neP12 (k1 a1 s1 p1 q1 n1 t1 i1 y1 z1 v1 k2 a2 s2 p2 q2 n2 t2 i2 y2 z2 v2 : Int) (x1 x2 : Bool) (w : World) : (binOp .neq 29 (.agg #[.int .i64 k1, .int .i64 a1, .int .i64 s1, .bool x1, .int .i64 p1, .int .i64 q1, .int .i64 n1, .int .i64 t1, .int .i64 i1, .int .i64 y1, .int .i64 z1, .int .i64 v1]) (.agg #[.int .i64 k2, .int .i64 a2, .int .i64 s2, .bool x2, .int .i64 p2, .int .i64 q2, .int .i64 n2, .int .i64 t2, .int .i64 i2, .int .i64 y2, .int .i64 z2, .int .i64 v2])).run Tryz.prog w = .ok (.bool (!eqM ⟨k1, a1, s1, x1, p1, q1, n1, t1, i1, y1, z1, v1⟩ ⟨k2, a2, s2, x2, p2, q2, n2, t2, i2, y2, z2, v2⟩)) w :=
  neP w ⟨k1, a1, s1, x1, p1, q1, n1, t1, i1, y1, z1, v1⟩ ⟨k2, a2, s2, x2, p2, q2, n2, t2, i2, y2, z2, v2⟩
theorem eqQ (w : World) (m n : M) : (binOp .eql 25 (mvl m) (mvl n)).run Tryz.prog w = .ok (.bool (eqM m n)) w := by
  have p1 : Tryz.prog.stoodInHeld 25 = false := by kernel_rfl
  have p2 : Tryz.prog.stoodInHeld 23 = false := by kernel_rfl
  have u1 : Tryz.prog.underlying 25 = some (.struct (Tryz.prog.fieldsOf 25)) := by kernel_rfl
  have u2 : Tryz.prog.underlying 23 = some (.struct (Tryz.prog.fieldsOf 23)) := by kernel_rfl
  unfold mvl
  rw [run_eql_struct, run_equalIn_agg _ _ _ _ _ u1 p1]
  simp only [Program.fieldsOf, Tryz.underlying25]
  simp [Op.eqFields, go_sem, Program.fieldsOf, Tryz.underlying25, Tryz.underlying23, Tryz.underlying3, Tryz.underlying2, Tryz.underlying4, part]
  by_cases e0 : m.k = n.k
  case neg => rw [if_neg e0]; simp [eqM, e0]
  rw [if_pos e0]
  by_cases e1 : m.a = n.a
  case neg => rw [if_neg e1]; simp [eqM, e1]
  rw [if_pos e1]
  by_cases e2 : m.s = n.s
  case neg => rw [if_neg e2]; simp [eqM, e2]
  rw [if_pos e2]
  by_cases e3 : m.x = n.x
  case neg => rw [if_neg e3]; simp [eqM, e3]
  rw [if_pos e3]
  by_cases e4 : m.p = n.p
  case neg => rw [if_neg e4]; simp [eqM, e4]
  rw [if_pos e4]
  by_cases e5 : m.q = n.q
  case neg => rw [if_neg e5]; simp [eqM, e5]
  rw [if_pos e5]
  by_cases e6 : m.n = n.n
  case neg => rw [if_neg e6]; simp [eqM, e6]
  rw [if_pos e6]
  by_cases e7 : m.t = n.t
  case neg => rw [if_neg e7]; simp [eqM, e7]
  rw [if_pos e7]
  by_cases e8 : m.i = n.i
  case neg => rw [if_neg e8]; simp [eqM, e8]
  rw [if_pos e8]
  by_cases e9 : m.y = n.y
  case neg => rw [if_neg e9]; simp [eqM, e9]
  rw [if_pos e9]
  by_cases e10 : m.z = n.z
  case neg => rw [if_neg e10]; simp [eqM, e10]
  rw [if_pos e10]
  by_cases e11 : m.v = n.v
  case neg => rw [if_neg e11]; simp [eqM, e11]
  rw [if_pos e11]
  simp [eqM, e0, e1, e2, e3, e4, e5, e6, e7, e8, e9, e10, e11]
theorem eqQ12 (k1 a1 s1 p1 q1 n1 t1 i1 y1 z1 v1 k2 a2 s2 p2 q2 n2 t2 i2 y2 z2 v2 : Int) (x1 x2 : Bool) (w : World) : (binOp .eql 25 (.agg #[.int .i64 k1, .int .i64 a1, .int .i64 s1, .bool x1, .int .i64 p1, .int .i64 q1, .int .i64 n1, .int .i64 t1, .int .i64 i1, .int .i64 y1, .int .i64 z1, .int .i64 v1]) (.agg #[.int .i64 k2, .int .i64 a2, .int .i64 s2, .bool x2, .int .i64 p2, .int .i64 q2, .int .i64 n2, .int .i64 t2, .int .i64 i2, .int .i64 y2, .int .i64 z2, .int .i64 v2])).run Tryz.prog w = .ok (.bool (eqM ⟨k1, a1, s1, x1, p1, q1, n1, t1, i1, y1, z1, v1⟩ ⟨k2, a2, s2, x2, p2, q2, n2, t2, i2, y2, z2, v2⟩)) w :=
  eqQ w ⟨k1, a1, s1, x1, p1, q1, n1, t1, i1, y1, z1, v1⟩ ⟨k2, a2, s2, x2, p2, q2, n2, t2, i2, y2, z2, v2⟩
theorem neQ (w : World) (m n : M) : (binOp .neq 25 (mvl m) (mvl n)).run Tryz.prog w = .ok (.bool (!eqM m n)) w := by
  have p1 : Tryz.prog.stoodInHeld 25 = false := by kernel_rfl
  have p2 : Tryz.prog.stoodInHeld 23 = false := by kernel_rfl
  have u1 : Tryz.prog.underlying 25 = some (.struct (Tryz.prog.fieldsOf 25)) := by kernel_rfl
  have u2 : Tryz.prog.underlying 23 = some (.struct (Tryz.prog.fieldsOf 23)) := by kernel_rfl
  unfold mvl
  rw [run_neq_struct, run_equalIn_agg _ _ _ _ _ u1 p1]
  simp only [Program.fieldsOf, Tryz.underlying25]
  simp [Op.eqFields, go_sem, Program.fieldsOf, Tryz.underlying25, Tryz.underlying23, Tryz.underlying3, Tryz.underlying2, Tryz.underlying4, part]
  by_cases e0 : m.k = n.k
  case neg => rw [if_neg e0]; simp [eqM, e0]
  rw [if_pos e0]
  by_cases e1 : m.a = n.a
  case neg => rw [if_neg e1]; simp [eqM, e1]
  rw [if_pos e1]
  by_cases e2 : m.s = n.s
  case neg => rw [if_neg e2]; simp [eqM, e2]
  rw [if_pos e2]
  by_cases e3 : m.x = n.x
  case neg => rw [if_neg e3]; simp [eqM, e3]
  rw [if_pos e3]
  by_cases e4 : m.p = n.p
  case neg => rw [if_neg e4]; simp [eqM, e4]
  rw [if_pos e4]
  by_cases e5 : m.q = n.q
  case neg => rw [if_neg e5]; simp [eqM, e5]
  rw [if_pos e5]
  by_cases e6 : m.n = n.n
  case neg => rw [if_neg e6]; simp [eqM, e6]
  rw [if_pos e6]
  by_cases e7 : m.t = n.t
  case neg => rw [if_neg e7]; simp [eqM, e7]
  rw [if_pos e7]
  by_cases e8 : m.i = n.i
  case neg => rw [if_neg e8]; simp [eqM, e8]
  rw [if_pos e8]
  by_cases e9 : m.y = n.y
  case neg => rw [if_neg e9]; simp [eqM, e9]
  rw [if_pos e9]
  by_cases e10 : m.z = n.z
  case neg => rw [if_neg e10]; simp [eqM, e10]
  rw [if_pos e10]
  by_cases e11 : m.v = n.v
  case neg => rw [if_neg e11]; simp [eqM, e11]
  rw [if_pos e11]
  simp [eqM, e0, e1, e2, e3, e4, e5, e6, e7, e8, e9, e10, e11]
theorem neQ12 (k1 a1 s1 p1 q1 n1 t1 i1 y1 z1 v1 k2 a2 s2 p2 q2 n2 t2 i2 y2 z2 v2 : Int) (x1 x2 : Bool) (w : World) : (binOp .neq 25 (.agg #[.int .i64 k1, .int .i64 a1, .int .i64 s1, .bool x1, .int .i64 p1, .int .i64 q1, .int .i64 n1, .int .i64 t1, .int .i64 i1, .int .i64 y1, .int .i64 z1, .int .i64 v1]) (.agg #[.int .i64 k2, .int .i64 a2, .int .i64 s2, .bool x2, .int .i64 p2, .int .i64 q2, .int .i64 n2, .int .i64 t2, .int .i64 i2, .int .i64 y2, .int .i64 z2, .int .i64 v2])).run Tryz.prog w = .ok (.bool (!eqM ⟨k1, a1, s1, x1, p1, q1, n1, t1, i1, y1, z1, v1⟩ ⟨k2, a2, s2, x2, p2, q2, n2, t2, i2, y2, z2, v2⟩)) w :=
  neQ w ⟨k1, a1, s1, x1, p1, q1, n1, t1, i1, y1, z1, v1⟩ ⟨k2, a2, s2, x2, p2, q2, n2, t2, i2, y2, z2, v2⟩
def MadeM (m : M) (w : World) (e : Ending) (w' : World) : Prop := e = .returned (mvl m) ∧ Below w.heap.size w w'
theorem alone_any (m : M) (w : World) : Calls Tryz.prog 36 #[mvl m] w (MadeM (alM m) w) := by
  obtain ⟨k, a, s, x, p, q, n, t, i, y, z, v⟩ := m
  show Calls Tryz.prog 36 #[.agg #[.int .i64 k, .int .i64 a, .int .i64 s, .bool x, .int .i64 p, .int .i64 q, .int .i64 n, .int .i64 t, .int .i64 i, .int .i64 y, .int .i64 z, .int .i64 v]] w (MadeM (alM ⟨k, a, s, x, p, q, n, t, i, y, z, v⟩) w)
  by_cases k0 : k = 0
  · have q0 : (k == 0) = true := beq_iff_eq.2 k0
    have hal : alM ⟨k, a, s, x, p, q, n, t, i, y, z, v⟩ = ⟨k, a, s, x, p, q, n, t, 0, 0, 0, 0⟩ := by unfold alM; rw [if_pos k0]; rfl
    rw [hal]
    go_enter Tryz.func36, Tryz.ntmps36
    go_wp2_with fail
    exact bodyPost_ret (v := .agg #[.int .i64 k, .int .i64 a, .int .i64 s, .bool x, .int .i64 p, .int .i64 q, .int .i64 n, .int .i64 t, .int .i64 0, .int .i64 0, .int .i64 0, .int .i64 0]) (by simp [results, Tryz.results36, go_sem, k0]) rfl ⟨rfl, ((Below.refl _ _).alloc (Nat.le_refl _) _).alloc (by simp) _⟩
  · have q0 : (k == 0) = false := beq_eq_false_iff_ne.2 k0
    by_cases k1 : k = 1
    · have q1 : (k == 1) = true := beq_iff_eq.2 k1
      have hal : alM ⟨k, a, s, x, p, q, n, t, i, y, z, v⟩ = ⟨k, 0, 0, false, 0, 0, 0, 0, i, 0, 0, 0⟩ := by unfold alM; rw [if_neg k0, if_pos (.inl k1)]; rfl
      rw [hal]
      go_enter Tryz.func36, Tryz.ntmps36
      go_wp2_with fail
      exact bodyPost_ret (v := .agg #[.int .i64 k, .int .i64 0, .int .i64 0, .bool false, .int .i64 0, .int .i64 0, .int .i64 0, .int .i64 0, .int .i64 i, .int .i64 0, .int .i64 0, .int .i64 0]) (by simp [results, Tryz.results36, go_sem, k1]) rfl ⟨rfl, ((Below.refl _ _).alloc (Nat.le_refl _) _).alloc (by simp) _⟩
    · have q1 : (k == 1) = false := beq_eq_false_iff_ne.2 k1
      by_cases k3 : k = 3
      · have q3 : (k == 3) = true := beq_iff_eq.2 k3
        have hal : alM ⟨k, a, s, x, p, q, n, t, i, y, z, v⟩ = ⟨k, 0, 0, false, 0, 0, 0, 0, i, 0, 0, 0⟩ := by unfold alM; rw [if_neg k0, if_pos (.inr k3)]; rfl
        rw [hal]
        go_enter Tryz.func36, Tryz.ntmps36
        go_wp2_with fail
        exact bodyPost_ret (v := .agg #[.int .i64 k, .int .i64 0, .int .i64 0, .bool false, .int .i64 0, .int .i64 0, .int .i64 0, .int .i64 0, .int .i64 i, .int .i64 0, .int .i64 0, .int .i64 0]) (by simp [results, Tryz.results36, go_sem, k3]) rfl ⟨rfl, ((Below.refl _ _).alloc (Nat.le_refl _) _).alloc (by simp) _⟩
      · have q3 : (k == 3) = false := beq_eq_false_iff_ne.2 k3
        have k13 : ¬ (k = 1 ∨ k = 3) := by omega
        by_cases k2 : k = 2
        · have q2 : (k == 2) = true := beq_iff_eq.2 k2
          have hal : alM ⟨k, a, s, x, p, q, n, t, i, y, z, v⟩ = ⟨k, 0, 0, false, 0, 0, 0, 0, i, y, 0, 0⟩ := by unfold alM; rw [if_neg k0, if_neg k13, if_pos k2]; rfl
          rw [hal]
          go_enter Tryz.func36, Tryz.ntmps36
          go_wp2_with fail
          exact bodyPost_ret (v := .agg #[.int .i64 k, .int .i64 0, .int .i64 0, .bool false, .int .i64 0, .int .i64 0, .int .i64 0, .int .i64 0, .int .i64 i, .int .i64 y, .int .i64 0, .int .i64 0]) (by simp [results, Tryz.results36, go_sem, k2]) rfl ⟨rfl, ((Below.refl _ _).alloc (Nat.le_refl _) _).alloc (by simp) _⟩
        · have q2 : (k == 2) = false := beq_eq_false_iff_ne.2 k2
          by_cases k6 : k = 6
          · have q6 : (k == 6) = true := beq_iff_eq.2 k6
            have hal : alM ⟨k, a, s, x, p, q, n, t, i, y, z, v⟩ = ⟨k, 0, 0, false, 0, 0, 0, 0, 0, 0, z, v⟩ := by unfold alM; rw [if_neg k0, if_neg k13, if_neg k2, if_pos k6]; rfl
            rw [hal]
            go_enter Tryz.func36, Tryz.ntmps36
            go_wp2_with fail
            exact bodyPost_ret (v := .agg #[.int .i64 k, .int .i64 0, .int .i64 0, .bool false, .int .i64 0, .int .i64 0, .int .i64 0, .int .i64 0, .int .i64 0, .int .i64 0, .int .i64 z, .int .i64 v]) (by simp [results, Tryz.results36, go_sem, k6]) rfl ⟨rfl, ((Below.refl _ _).alloc (Nat.le_refl _) _).alloc (by simp) _⟩
          · have q6 : (k == 6) = false := beq_eq_false_iff_ne.2 k6
            have hal : alM ⟨k, a, s, x, p, q, n, t, i, y, z, v⟩ = ⟨k, 0, 0, false, 0, 0, 0, 0, 0, 0, 0, 0⟩ := by unfold alM; rw [if_neg k0, if_neg k13, if_neg k2, if_neg k6]; rfl
            rw [hal]
            go_enter Tryz.func36, Tryz.ntmps36
            go_wp2_with fail
            exact bodyPost_ret (v := .agg #[.int .i64 k, .int .i64 0, .int .i64 0, .bool false, .int .i64 0, .int .i64 0, .int .i64 0, .int .i64 0, .int .i64 0, .int .i64 0, .int .i64 0, .int .i64 0]) (by simp [results, Tryz.results36, go_sem, k0]) rfl ⟨rfl, ((Below.refl _ _).alloc (Nat.le_refl _) _).alloc (by simp) _⟩
theorem bare_any (m : M) (w : World) : Calls Tryz.prog 40 #[mvl m] w (MadeM (alM m) w) := by
  obtain ⟨k, a, s, x, p, q, n, t, i, y, z, v⟩ := m
  show Calls Tryz.prog 40 #[.agg #[.int .i64 k, .int .i64 a, .int .i64 s, .bool x, .int .i64 p, .int .i64 q, .int .i64 n, .int .i64 t, .int .i64 i, .int .i64 y, .int .i64 z, .int .i64 v]] w (MadeM (alM ⟨k, a, s, x, p, q, n, t, i, y, z, v⟩) w)
  by_cases k0 : k = 0
  · have q0 : (k == 0) = true := beq_iff_eq.2 k0
    have hal : alM ⟨k, a, s, x, p, q, n, t, i, y, z, v⟩ = ⟨k, a, s, x, p, q, n, t, 0, 0, 0, 0⟩ := by unfold alM; rw [if_pos k0]; rfl
    rw [hal]
    go_enter Tryz.func40, Tryz.ntmps40
    go_wp2_with fail
    exact bodyPost_ret (v := .agg #[.int .i64 k, .int .i64 a, .int .i64 s, .bool x, .int .i64 p, .int .i64 q, .int .i64 n, .int .i64 t, .int .i64 0, .int .i64 0, .int .i64 0, .int .i64 0]) (by simp [results, Tryz.results40, go_sem, k0]) rfl ⟨rfl, by first | exact (((Below.refl _ _).alloc (Nat.le_refl _) _).alloc (by simp) _).alloc (by simp <;> omega) _ | exact ((((Below.refl _ _).alloc (Nat.le_refl _) _).alloc (by simp) _).alloc (by simp <;> omega) _).drew⟩
  · have q0 : (k == 0) = false := beq_eq_false_iff_ne.2 k0
    by_cases k1 : k = 1
    · have q1 : (k == 1) = true := beq_iff_eq.2 k1
      have hal : alM ⟨k, a, s, x, p, q, n, t, i, y, z, v⟩ = ⟨k, 0, 0, false, 0, 0, 0, 0, i, 0, 0, 0⟩ := by unfold alM; rw [if_neg k0, if_pos (.inl k1)]; rfl
      rw [hal]
      go_enter Tryz.func40, Tryz.ntmps40
      go_wp2_with fail
      exact bodyPost_ret (v := .agg #[.int .i64 k, .int .i64 0, .int .i64 0, .bool false, .int .i64 0, .int .i64 0, .int .i64 0, .int .i64 0, .int .i64 i, .int .i64 0, .int .i64 0, .int .i64 0]) (by simp [results, Tryz.results40, go_sem, k1]) rfl ⟨rfl, by first | exact (((Below.refl _ _).alloc (Nat.le_refl _) _).alloc (by simp) _).alloc (by simp <;> omega) _ | exact ((((Below.refl _ _).alloc (Nat.le_refl _) _).alloc (by simp) _).alloc (by simp <;> omega) _).drew⟩
    · have q1 : (k == 1) = false := beq_eq_false_iff_ne.2 k1
      by_cases k3 : k = 3
      · have q3 : (k == 3) = true := beq_iff_eq.2 k3
        have hal : alM ⟨k, a, s, x, p, q, n, t, i, y, z, v⟩ = ⟨k, 0, 0, false, 0, 0, 0, 0, i, 0, 0, 0⟩ := by unfold alM; rw [if_neg k0, if_pos (.inr k3)]; rfl
        rw [hal]
        go_enter Tryz.func40, Tryz.ntmps40
        go_wp2_with fail
        exact bodyPost_ret (v := .agg #[.int .i64 k, .int .i64 0, .int .i64 0, .bool false, .int .i64 0, .int .i64 0, .int .i64 0, .int .i64 0, .int .i64 i, .int .i64 0, .int .i64 0, .int .i64 0]) (by simp [results, Tryz.results40, go_sem, k3]) rfl ⟨rfl, by first | exact (((Below.refl _ _).alloc (Nat.le_refl _) _).alloc (by simp) _).alloc (by simp <;> omega) _ | exact ((((Below.refl _ _).alloc (Nat.le_refl _) _).alloc (by simp) _).alloc (by simp <;> omega) _).drew⟩
      · have q3 : (k == 3) = false := beq_eq_false_iff_ne.2 k3
        have k13 : ¬ (k = 1 ∨ k = 3) := by omega
        by_cases k2 : k = 2
        · have q2 : (k == 2) = true := beq_iff_eq.2 k2
          have hal : alM ⟨k, a, s, x, p, q, n, t, i, y, z, v⟩ = ⟨k, 0, 0, false, 0, 0, 0, 0, i, y, 0, 0⟩ := by unfold alM; rw [if_neg k0, if_neg k13, if_pos k2]; rfl
          rw [hal]
          go_enter Tryz.func40, Tryz.ntmps40
          go_wp2_with fail
          go_region
          all_goals go_wp2_with fail
          exact bodyPost_ret (v := .agg #[.int .i64 k, .int .i64 0, .int .i64 0, .bool false, .int .i64 0, .int .i64 0, .int .i64 0, .int .i64 0, .int .i64 i, .int .i64 y, .int .i64 0, .int .i64 0]) (by simp [results, Tryz.results40, go_sem, k2]) rfl ⟨rfl, by first | exact (((Below.refl _ _).alloc (Nat.le_refl _) _).alloc (by simp) _).alloc (by simp <;> omega) _ | exact ((((Below.refl _ _).alloc (Nat.le_refl _) _).alloc (by simp) _).alloc (by simp <;> omega) _).drew⟩
        · have q2 : (k == 2) = false := beq_eq_false_iff_ne.2 k2
          by_cases k6 : k = 6
          · have q6 : (k == 6) = true := beq_iff_eq.2 k6
            have hal : alM ⟨k, a, s, x, p, q, n, t, i, y, z, v⟩ = ⟨k, 0, 0, false, 0, 0, 0, 0, 0, 0, z, v⟩ := by unfold alM; rw [if_neg k0, if_neg k13, if_neg k2, if_pos k6]; rfl
            rw [hal]
            go_enter Tryz.func40, Tryz.ntmps40
            go_wp2_with fail
            go_region
            all_goals go_wp2_with fail
            exact bodyPost_ret (v := .agg #[.int .i64 k, .int .i64 0, .int .i64 0, .bool false, .int .i64 0, .int .i64 0, .int .i64 0, .int .i64 0, .int .i64 0, .int .i64 0, .int .i64 z, .int .i64 v]) (by simp [results, Tryz.results40, go_sem, k6]) rfl ⟨rfl, by first | exact (((Below.refl _ _).alloc (Nat.le_refl _) _).alloc (by simp) _).alloc (by simp <;> omega) _ | exact ((((Below.refl _ _).alloc (Nat.le_refl _) _).alloc (by simp) _).alloc (by simp <;> omega) _).drew⟩
          · have q6 : (k == 6) = false := beq_eq_false_iff_ne.2 k6
            have hal : alM ⟨k, a, s, x, p, q, n, t, i, y, z, v⟩ = ⟨k, 0, 0, false, 0, 0, 0, 0, 0, 0, 0, 0⟩ := by unfold alM; rw [if_neg k0, if_neg k13, if_neg k2, if_neg k6]; rfl
            rw [hal]
            go_enter Tryz.func40, Tryz.ntmps40
            go_wp2_with fail
            exact bodyPost_ret (v := .agg #[.int .i64 k, .int .i64 0, .int .i64 0, .bool false, .int .i64 0, .int .i64 0, .int .i64 0, .int .i64 0, .int .i64 0, .int .i64 0, .int .i64 0, .int .i64 0]) (by simp [results, Tryz.results40, go_sem, k0]) rfl ⟨rfl, by first | exact (((Below.refl _ _).alloc (Nat.le_refl _) _).alloc (by simp) _).alloc (by simp <;> omega) _ | exact ((((Below.refl _ _).alloc (Nat.le_refl _) _).alloc (by simp) _).alloc (by simp <;> omega) _).drew⟩
end Wmr
namespace Wrt
open Go.ChangeShapes Go.WideShapes Go.ChangeAt Go.RowKit Mem Tre Ref3 Law3 Fix3 CrdB Wpl Wmr
theorem wbtw_any (a n b : Int) (w : World) : Calls Tryz.prog 35 #[.int .i64 a, .int .i64 n, .int .i64 b] w fun e w' => e = .returned (.bool (decide (a ≤ n) && decide (n ≤ b))) ∧ w = w' := by
  by_cases h0 : a ≤ n
  · have t0 : decide (a ≤ n) = true := by simp; exact h0
    by_cases h1 : n ≤ b
    · have t1 : decide (n ≤ b) = true := by simp; exact h1
      go_enter Tryz.func35, Tryz.ntmps35
      go_wp2
      go_ret
      exact ⟨by first | rfl | (rw [t0, t1]; rfl), rfl⟩
    · have t1 : decide (n ≤ b) = false := by simp; omega
      go_enter Tryz.func35, Tryz.ntmps35
      go_wp2
      go_ret
      exact ⟨by first | rfl | (rw [t0, t1]; rfl), rfl⟩
  · have t0 : decide (a ≤ n) = false := by simp; omega
    go_enter Tryz.func35, Tryz.ntmps35
    go_wp2
    go_ret
    exact ⟨by first | rfl | (rw [t0]; rfl), rfl⟩
theorem short_any (n : Int) (w : World) : Calls Tryz.prog 41 #[.int .i64 n] w fun e w' => e = .returned (.bool (decide (0 ≤ n) && decide (n ≤ 65535))) ∧ w = w' := by
  by_cases h0 : 0 ≤ n
  · have t0 : decide (0 ≤ n) = true := by simp; exact h0
    by_cases h1 : n ≤ 65535
    · have t1 : decide (n ≤ 65535) = true := by simp; exact h1
      go_enter Tryz.func41, Tryz.ntmps41
      go_wp2
      go_ret
      exact ⟨by first | rfl | (rw [t0, t1]; rfl), rfl⟩
    · have t1 : decide (n ≤ 65535) = false := by simp; omega
      go_enter Tryz.func41, Tryz.ntmps41
      go_wp2
      go_ret
      exact ⟨by first | rfl | (rw [t0, t1]; rfl), rfl⟩
  · have t0 : decide (0 ≤ n) = false := by simp; omega
    go_enter Tryz.func41, Tryz.ntmps41
    go_wp2
    go_ret
    exact ⟨by first | rfl | (rw [t0]; rfl), rfl⟩
def mn (x y : Int) : Int := if y < x then y else x
theorem mn_ge {x y : Int} : 0 ≤ mn x y ↔ 0 ≤ x ∧ 0 ≤ y := by unfold mn; split <;> omega
theorem run_min6 {P : Program} {w : World} (ats : Array TypeId) (ty : TypeId) (p q n t y v : Int) :
    (Builtin.min_ ats ty #[.int .i64 p, .int .i64 q, .int .i64 n, .int .i64 t, .int .i64 y, .int .i64 v]).run P w = .ok (.int .i64 (mn (mn (mn (mn (mn p q) n) t) y) v)) w := by
  simp [Builtin.min_, Builtin.min2, List.foldlM, Sem.run_bind, Sem.run_pure, Result.andThen, mn] <;> rfl
attribute [local go_sem] run_min6
def MadeBl (b : Bool) (w : World) (e : Ending) (w' : World) : Prop := e = .returned (.bool b) ∧ Below w.heap.size w w'
theorem fits_any (m : M) (w : World) : Calls Tryz.prog 37 #[mvl m] w (MadeBl (fitM m) w) := by
  obtain ⟨k, a, s, x, p, q, n, t, i, y, z, v⟩ := m
  show Calls Tryz.prog 37 #[.agg #[.int .i64 k, .int .i64 a, .int .i64 s, .bool x, .int .i64 p, .int .i64 q, .int .i64 n, .int .i64 t, .int .i64 i, .int .i64 y, .int .i64 z, .int .i64 v]] w (MadeBl (fitM ⟨k, a, s, x, p, q, n, t, i, y, z, v⟩) w)
  by_cases ha : 0 ≤ a ∧ a ≤ 65535
  case neg =>
    have e : fitM ⟨k, a, s, x, p, q, n, t, i, y, z, v⟩ = false := by unfold fitM; simp only [decide_eq_false_iff_not]; intro h; exact ha (by omega)
    rw [e]
    have ta : (decide (0 ≤ a) && decide (a ≤ 65535)) = false := by simp; omega
    go_enter Tryz.func37, Tryz.ntmps37
    go_wp2_with (go_at_call 35; refine (wbtw_any _ _ _ _).mono ?_; rintro e w' ⟨rfl, rfl⟩)
    go_ret
    exact ⟨rfl, ((Below.refl _ _).alloc (Nat.le_refl _) _).alloc (by simp) _⟩
  have ta : (decide (0 ≤ a) && decide (a ≤ 65535)) = true := by simp; omega
  by_cases hs : 0 ≤ s ∧ s ≤ 65535
  case neg =>
    have e : fitM ⟨k, a, s, x, p, q, n, t, i, y, z, v⟩ = false := by unfold fitM; simp only [decide_eq_false_iff_not]; intro h; exact hs (by omega)
    rw [e]
    have ts : (decide (0 ≤ s) && decide (s ≤ 65535)) = false := by simp; omega
    go_enter Tryz.func37, Tryz.ntmps37
    go_wp2_with (go_at_call 35; refine (wbtw_any _ _ _ _).mono ?_; rintro e w' ⟨rfl, rfl⟩)
    go_ret
    exact ⟨rfl, ((Below.refl _ _).alloc (Nat.le_refl _) _).alloc (by simp) _⟩
  have ts : (decide (0 ≤ s) && decide (s ≤ 65535)) = true := by simp; omega
  by_cases hz : 0 ≤ z ∧ z ≤ 65535
  case neg =>
    have e : fitM ⟨k, a, s, x, p, q, n, t, i, y, z, v⟩ = false := by unfold fitM; simp only [decide_eq_false_iff_not]; intro h; exact hz (by omega)
    rw [e]
    have tz : (decide (0 ≤ z) && decide (z ≤ 65535)) = false := by simp; omega
    go_enter Tryz.func37, Tryz.ntmps37
    go_wp2_with (go_at_call 35; refine (wbtw_any _ _ _ _).mono ?_; rintro e w' ⟨rfl, rfl⟩)
    go_ret
    exact ⟨rfl, ((Below.refl _ _).alloc (Nat.le_refl _) _).alloc (by simp) _⟩
  have tz : (decide (0 ≤ z) && decide (z ≤ 65535)) = true := by simp; omega
  by_cases hi : 0 ≤ i ∧ i ≤ 4294967295
  case neg =>
    have e : fitM ⟨k, a, s, x, p, q, n, t, i, y, z, v⟩ = false := by unfold fitM; simp only [decide_eq_false_iff_not]; intro h; exact hi (by omega)
    rw [e]
    have ti : (decide (0 ≤ i) && decide (i ≤ 4294967295)) = false := by simp; omega
    go_enter Tryz.func37, Tryz.ntmps37
    go_wp2_with (go_at_call 35; refine (wbtw_any _ _ _ _).mono ?_; rintro e w' ⟨rfl, rfl⟩)
    go_ret
    exact ⟨rfl, ((Below.refl _ _).alloc (Nat.le_refl _) _).alloc (by simp) _⟩
  have ti : (decide (0 ≤ i) && decide (i ≤ 4294967295)) = true := by simp; omega
  by_cases hm : 0 ≤ p ∧ 0 ≤ q ∧ 0 ≤ n ∧ 0 ≤ t ∧ 0 ≤ y ∧ 0 ≤ v
  case neg =>
    have e : fitM ⟨k, a, s, x, p, q, n, t, i, y, z, v⟩ = false := by unfold fitM; simp only [decide_eq_false_iff_not]; intro h; exact hm (by omega)
    rw [e]
    have tm : decide (0 ≤ mn (mn (mn (mn (mn p q) n) t) y) v) = false := by rw [decide_eq_false_iff_not]; simp only [mn_ge]; omega
    go_enter Tryz.func37, Tryz.ntmps37
    go_wp2_with (go_at_call 35; refine (wbtw_any _ _ _ _).mono ?_; rintro e w' ⟨rfl, rfl⟩)
    go_ret
    exact ⟨rfl, ((Below.refl _ _).alloc (Nat.le_refl _) _).alloc (by simp) _⟩
  have tm : decide (0 ≤ mn (mn (mn (mn (mn p q) n) t) y) v) = true := by rw [decide_eq_true_eq]; simp only [mn_ge]; omega
  have e : fitM ⟨k, a, s, x, p, q, n, t, i, y, z, v⟩ = true := by unfold fitM; simp only [decide_eq_true_eq]; omega
  rw [e]
  go_enter Tryz.func37, Tryz.ntmps37
  go_wp2_with (go_at_call 35; refine (wbtw_any _ _ _ _).mono ?_; rintro e w' ⟨rfl, rfl⟩)
  go_ret
  exact ⟨rfl, ((Below.refl _ _).alloc (Nat.le_refl _) _).alloc (by simp) _⟩
theorem c12_of {W : World} {g : Nat} {te : TypeId} {v0 v1 v2 v3 v4 v5 v6 v7 v8 v9 v10 v11 : Value} (h : Blk W g te #[v0, v1, v2, v3, v4, v5, v6, v7, v8, v9, v10, v11]) : W.cell? ⟨g, 0, none⟩ = some v0 ∧ W.cell? ⟨g, 1, none⟩ = some v1 ∧ W.cell? ⟨g, 2, none⟩ = some v2 ∧ W.cell? ⟨g, 3, none⟩ = some v3 ∧ W.cell? ⟨g, 4, none⟩ = some v4 ∧ W.cell? ⟨g, 5, none⟩ = some v5 ∧ W.cell? ⟨g, 6, none⟩ = some v6 ∧ W.cell? ⟨g, 7, none⟩ = some v7 ∧ W.cell? ⟨g, 8, none⟩ = some v8 ∧ W.cell? ⟨g, 9, none⟩ = some v9 ∧ W.cell? ⟨g, 10, none⟩ = some v10 ∧ W.cell? ⟨g, 11, none⟩ = some v11 :=
  ⟨h.cell 0, h.cell 1, h.cell 2, h.cell 3, h.cell 4, h.cell 5, h.cell 6, h.cell 7, h.cell 8, h.cell 9, h.cell 10, h.cell 11⟩
attribute [local go_sem high] eqP12
theorem mvl_mk (m : M) : mvl m = .agg #[.int .i64 m.k, .int .i64 m.a, .int .i64 m.s, .bool m.x, .int .i64 m.p, .int .i64 m.q, .int .i64 m.n, .int .i64 m.t, .int .i64 m.i, .int .i64 m.y, .int .i64 m.z, .int .i64 m.v] := rfl
theorem right_eq (m n : M) (h : alM m = n) : rightM m = ((decide (0 ≤ m.k) && decide (m.k ≤ 6)) && (eqM m n && fitM m)) := by unfold rightM; rw [h]
theorem right_any (m : M) (w : World) : Calls Tryz.prog 17 #[mvl m] w (MadeBl (rightM m) w) := by
  obtain ⟨k, a, s, x, p, q, n, t, i, y, z, v⟩ := m
  show Calls Tryz.prog 17 #[.agg #[.int .i64 k, .int .i64 a, .int .i64 s, .bool x, .int .i64 p, .int .i64 q, .int .i64 n, .int .i64 t, .int .i64 i, .int .i64 y, .int .i64 z, .int .i64 v]] w (MadeBl (rightM ⟨k, a, s, x, p, q, n, t, i, y, z, v⟩) w)
  generalize hA : alM ⟨k, a, s, x, p, q, n, t, i, y, z, v⟩ = A
  obtain ⟨k2, a2, s2, x2, p2, q2, n2, t2, i2, y2, z2, v2⟩ := A
  have hr : rightM ⟨k, a, s, x, p, q, n, t, i, y, z, v⟩ = ((decide (0 ≤ k) && decide (k ≤ 6)) && (eqM ⟨k, a, s, x, p, q, n, t, i, y, z, v⟩ ⟨k2, a2, s2, x2, p2, q2, n2, t2, i2, y2, z2, v2⟩ && fitM ⟨k, a, s, x, p, q, n, t, i, y, z, v⟩)) := right_eq _ _ hA
  generalize h0 : (decide ((0 : Int) ≤ k) && decide (k ≤ 6)) = c0 at hr
  generalize h1 : eqM ⟨k, a, s, x, p, q, n, t, i, y, z, v⟩ ⟨k2, a2, s2, x2, p2, q2, n2, t2, i2, y2, z2, v2⟩ = c1 at hr
  generalize h2 : fitM ⟨k, a, s, x, p, q, n, t, i, y, z, v⟩ = c2 at hr
  rw [hr]
  clear hr
  have b0 : Hid (Below w.heap.size w (w.alloc (.cells #[.int .i64 k, .int .i64 a, .int .i64 s, .bool x, .int .i64 p, .int .i64 q, .int .i64 n, .int .i64 t, .int .i64 i, .int .i64 y, .int .i64 z, .int .i64 v] 29)).drew) := ((Below.refl _ _).alloc (Nat.le_refl _) _).drew
  have K0 : Hid (Blk (w.alloc (.cells #[.int .i64 k, .int .i64 a, .int .i64 s, .bool x, .int .i64 p, .int .i64 q, .int .i64 n, .int .i64 t, .int .i64 i, .int .i64 y, .int .i64 z, .int .i64 v] 29)).drew w.heap.size 29 #[.int .i64 k, .int .i64 a, .int .i64 s, .bool x, .int .i64 p, .int .i64 q, .int .i64 n, .int .i64 t, .int .i64 i, .int .i64 y, .int .i64 z, .int .i64 v]) := Blk.fresh w _ _
  go_enter Tryz.func17, Tryz.ntmps17
  go_upto_region 1 with fail
  have s0 : (w.alloc (.cells #[.int .i64 k, .int .i64 a, .int .i64 s, .bool x, .int .i64 p, .int .i64 q, .int .i64 n, .int .i64 t, .int .i64 i, .int .i64 y, .int .i64 z, .int .i64 v] 29)).cell? ⟨w.heap.size, 0, none⟩ = some (.int .i64 k) ∧ (w.alloc (.cells #[.int .i64 k, .int .i64 a, .int .i64 s, .bool x, .int .i64 p, .int .i64 q, .int .i64 n, .int .i64 t, .int .i64 i, .int .i64 y, .int .i64 z, .int .i64 v] 29)).cell? ⟨w.heap.size, 1, none⟩ = some (.int .i64 a) ∧ (w.alloc (.cells #[.int .i64 k, .int .i64 a, .int .i64 s, .bool x, .int .i64 p, .int .i64 q, .int .i64 n, .int .i64 t, .int .i64 i, .int .i64 y, .int .i64 z, .int .i64 v] 29)).cell? ⟨w.heap.size, 2, none⟩ = some (.int .i64 s) ∧ (w.alloc (.cells #[.int .i64 k, .int .i64 a, .int .i64 s, .bool x, .int .i64 p, .int .i64 q, .int .i64 n, .int .i64 t, .int .i64 i, .int .i64 y, .int .i64 z, .int .i64 v] 29)).cell? ⟨w.heap.size, 3, none⟩ = some (.bool x) ∧ (w.alloc (.cells #[.int .i64 k, .int .i64 a, .int .i64 s, .bool x, .int .i64 p, .int .i64 q, .int .i64 n, .int .i64 t, .int .i64 i, .int .i64 y, .int .i64 z, .int .i64 v] 29)).cell? ⟨w.heap.size, 4, none⟩ = some (.int .i64 p) ∧ (w.alloc (.cells #[.int .i64 k, .int .i64 a, .int .i64 s, .bool x, .int .i64 p, .int .i64 q, .int .i64 n, .int .i64 t, .int .i64 i, .int .i64 y, .int .i64 z, .int .i64 v] 29)).cell? ⟨w.heap.size, 5, none⟩ = some (.int .i64 q) ∧ (w.alloc (.cells #[.int .i64 k, .int .i64 a, .int .i64 s, .bool x, .int .i64 p, .int .i64 q, .int .i64 n, .int .i64 t, .int .i64 i, .int .i64 y, .int .i64 z, .int .i64 v] 29)).cell? ⟨w.heap.size, 6, none⟩ = some (.int .i64 n) ∧ (w.alloc (.cells #[.int .i64 k, .int .i64 a, .int .i64 s, .bool x, .int .i64 p, .int .i64 q, .int .i64 n, .int .i64 t, .int .i64 i, .int .i64 y, .int .i64 z, .int .i64 v] 29)).cell? ⟨w.heap.size, 7, none⟩ = some (.int .i64 t) ∧ (w.alloc (.cells #[.int .i64 k, .int .i64 a, .int .i64 s, .bool x, .int .i64 p, .int .i64 q, .int .i64 n, .int .i64 t, .int .i64 i, .int .i64 y, .int .i64 z, .int .i64 v] 29)).cell? ⟨w.heap.size, 8, none⟩ = some (.int .i64 i) ∧ (w.alloc (.cells #[.int .i64 k, .int .i64 a, .int .i64 s, .bool x, .int .i64 p, .int .i64 q, .int .i64 n, .int .i64 t, .int .i64 i, .int .i64 y, .int .i64 z, .int .i64 v] 29)).cell? ⟨w.heap.size, 9, none⟩ = some (.int .i64 y) ∧ (w.alloc (.cells #[.int .i64 k, .int .i64 a, .int .i64 s, .bool x, .int .i64 p, .int .i64 q, .int .i64 n, .int .i64 t, .int .i64 i, .int .i64 y, .int .i64 z, .int .i64 v] 29)).cell? ⟨w.heap.size, 10, none⟩ = some (.int .i64 z) ∧ (w.alloc (.cells #[.int .i64 k, .int .i64 a, .int .i64 s, .bool x, .int .i64 p, .int .i64 q, .int .i64 n, .int .i64 t, .int .i64 i, .int .i64 y, .int .i64 z, .int .i64 v] 29)).cell? ⟨w.heap.size, 11, none⟩ = some (.int .i64 v) := c12_of K0.out
  generalize w.alloc (.cells #[.int .i64 k, .int .i64 a, .int .i64 s, .bool x, .int .i64 p, .int .i64 q, .int .i64 n, .int .i64 t, .int .i64 i, .int .i64 y, .int .i64 z, .int .i64 v] 29) = w0 at b0 K0 s0 ⊢
  generalize w.heap.size = g0 at K0 s0 ⊢
  by_cases hc0 : c0 = true
  case neg =>
    obtain rfl : c0 = false := by simpa using hc0
    go_region_with (first
        | (go_at_call 35; refine (wbtw_any _ _ _ _).mono ?_; rintro e w1 ⟨rfl, rfl⟩)
        | (go_at_call 36; refine (alone_any ⟨k, a, s, x, p, q, n, t, i, y, z, v⟩ _).mono ?_; rintro e w2 ⟨rfl, hb2⟩; rw [hA, mvl_mk]; have B2 : Hid (Below w.heap.size w w2) := below_step b0.out hb2; have K2 : Hid (Blk w2 g0 29 #[.int .i64 k, .int .i64 a, .int .i64 s, .bool x, .int .i64 p, .int .i64 q, .int .i64 n, .int .i64 t, .int .i64 i, .int .i64 y, .int .i64 z, .int .i64 v]) := Blk.below' K0.out hb2; have q2 : w2.cell? ⟨g0, 0, none⟩ = some (.int .i64 k) ∧ w2.cell? ⟨g0, 1, none⟩ = some (.int .i64 a) ∧ w2.cell? ⟨g0, 2, none⟩ = some (.int .i64 s) ∧ w2.cell? ⟨g0, 3, none⟩ = some (.bool x) ∧ w2.cell? ⟨g0, 4, none⟩ = some (.int .i64 p) ∧ w2.cell? ⟨g0, 5, none⟩ = some (.int .i64 q) ∧ w2.cell? ⟨g0, 6, none⟩ = some (.int .i64 n) ∧ w2.cell? ⟨g0, 7, none⟩ = some (.int .i64 t) ∧ w2.cell? ⟨g0, 8, none⟩ = some (.int .i64 i) ∧ w2.cell? ⟨g0, 9, none⟩ = some (.int .i64 y) ∧ w2.cell? ⟨g0, 10, none⟩ = some (.int .i64 z) ∧ w2.cell? ⟨g0, 11, none⟩ = some (.int .i64 v) := c12_of K2.out)
        | (go_at_call 37; refine (fits_any ⟨k, a, s, x, p, q, n, t, i, y, z, v⟩ _).mono ?_; rintro e w3 ⟨rfl, hb3⟩; rw [h2]; have B3 : Hid (Below w.heap.size w w3) := below_step B2.out hb3; have K3 : Hid (Blk w3 g0 29 #[.int .i64 k, .int .i64 a, .int .i64 s, .bool x, .int .i64 p, .int .i64 q, .int .i64 n, .int .i64 t, .int .i64 i, .int .i64 y, .int .i64 z, .int .i64 v]) := Blk.below' K2.out hb3; have q3 : w3.cell? ⟨g0, 0, none⟩ = some (.int .i64 k) ∧ w3.cell? ⟨g0, 1, none⟩ = some (.int .i64 a) ∧ w3.cell? ⟨g0, 2, none⟩ = some (.int .i64 s) ∧ w3.cell? ⟨g0, 3, none⟩ = some (.bool x) ∧ w3.cell? ⟨g0, 4, none⟩ = some (.int .i64 p) ∧ w3.cell? ⟨g0, 5, none⟩ = some (.int .i64 q) ∧ w3.cell? ⟨g0, 6, none⟩ = some (.int .i64 n) ∧ w3.cell? ⟨g0, 7, none⟩ = some (.int .i64 t) ∧ w3.cell? ⟨g0, 8, none⟩ = some (.int .i64 i) ∧ w3.cell? ⟨g0, 9, none⟩ = some (.int .i64 y) ∧ w3.cell? ⟨g0, 10, none⟩ = some (.int .i64 z) ∧ w3.cell? ⟨g0, 11, none⟩ = some (.int .i64 v) := c12_of K3.out))
    all_goals
      go_wp2_with fail
      go_ret
      exact ⟨rfl, (Hid.out (by assumption))⟩
  subst hc0
  by_cases hc1 : c1 = true
  case neg =>
    obtain rfl : c1 = false := by simpa using hc1
    go_region_with (first
        | (go_at_call 35; refine (wbtw_any _ _ _ _).mono ?_; rintro e w1 ⟨rfl, rfl⟩)
        | (go_at_call 36; refine (alone_any ⟨k, a, s, x, p, q, n, t, i, y, z, v⟩ _).mono ?_; rintro e w2 ⟨rfl, hb2⟩; rw [hA, mvl_mk]; have B2 : Hid (Below w.heap.size w w2) := below_step b0.out hb2; have K2 : Hid (Blk w2 g0 29 #[.int .i64 k, .int .i64 a, .int .i64 s, .bool x, .int .i64 p, .int .i64 q, .int .i64 n, .int .i64 t, .int .i64 i, .int .i64 y, .int .i64 z, .int .i64 v]) := Blk.below' K0.out hb2; have q2 : w2.cell? ⟨g0, 0, none⟩ = some (.int .i64 k) ∧ w2.cell? ⟨g0, 1, none⟩ = some (.int .i64 a) ∧ w2.cell? ⟨g0, 2, none⟩ = some (.int .i64 s) ∧ w2.cell? ⟨g0, 3, none⟩ = some (.bool x) ∧ w2.cell? ⟨g0, 4, none⟩ = some (.int .i64 p) ∧ w2.cell? ⟨g0, 5, none⟩ = some (.int .i64 q) ∧ w2.cell? ⟨g0, 6, none⟩ = some (.int .i64 n) ∧ w2.cell? ⟨g0, 7, none⟩ = some (.int .i64 t) ∧ w2.cell? ⟨g0, 8, none⟩ = some (.int .i64 i) ∧ w2.cell? ⟨g0, 9, none⟩ = some (.int .i64 y) ∧ w2.cell? ⟨g0, 10, none⟩ = some (.int .i64 z) ∧ w2.cell? ⟨g0, 11, none⟩ = some (.int .i64 v) := c12_of K2.out)
        | (go_at_call 37; refine (fits_any ⟨k, a, s, x, p, q, n, t, i, y, z, v⟩ _).mono ?_; rintro e w3 ⟨rfl, hb3⟩; rw [h2]; have B3 : Hid (Below w.heap.size w w3) := below_step B2.out hb3; have K3 : Hid (Blk w3 g0 29 #[.int .i64 k, .int .i64 a, .int .i64 s, .bool x, .int .i64 p, .int .i64 q, .int .i64 n, .int .i64 t, .int .i64 i, .int .i64 y, .int .i64 z, .int .i64 v]) := Blk.below' K2.out hb3; have q3 : w3.cell? ⟨g0, 0, none⟩ = some (.int .i64 k) ∧ w3.cell? ⟨g0, 1, none⟩ = some (.int .i64 a) ∧ w3.cell? ⟨g0, 2, none⟩ = some (.int .i64 s) ∧ w3.cell? ⟨g0, 3, none⟩ = some (.bool x) ∧ w3.cell? ⟨g0, 4, none⟩ = some (.int .i64 p) ∧ w3.cell? ⟨g0, 5, none⟩ = some (.int .i64 q) ∧ w3.cell? ⟨g0, 6, none⟩ = some (.int .i64 n) ∧ w3.cell? ⟨g0, 7, none⟩ = some (.int .i64 t) ∧ w3.cell? ⟨g0, 8, none⟩ = some (.int .i64 i) ∧ w3.cell? ⟨g0, 9, none⟩ = some (.int .i64 y) ∧ w3.cell? ⟨g0, 10, none⟩ = some (.int .i64 z) ∧ w3.cell? ⟨g0, 11, none⟩ = some (.int .i64 v) := c12_of K3.out))
    all_goals
      go_wp2_with fail
      go_ret
      exact ⟨rfl, (Hid.out (by assumption))⟩
  subst hc1
  cases c2
  all_goals
    go_region_held3 (fun w' => w'.cell? ⟨g0, 0, none⟩ = some (.int .i64 k) ∧ w'.cell? ⟨g0, 1, none⟩ = some (.int .i64 a) ∧ w'.cell? ⟨g0, 2, none⟩ = some (.int .i64 s) ∧ w'.cell? ⟨g0, 3, none⟩ = some (.bool x) ∧ w'.cell? ⟨g0, 4, none⟩ = some (.int .i64 p) ∧ w'.cell? ⟨g0, 5, none⟩ = some (.int .i64 q) ∧ w'.cell? ⟨g0, 6, none⟩ = some (.int .i64 n) ∧ w'.cell? ⟨g0, 7, none⟩ = some (.int .i64 t) ∧ w'.cell? ⟨g0, 8, none⟩ = some (.int .i64 i) ∧ w'.cell? ⟨g0, 9, none⟩ = some (.int .i64 y) ∧ w'.cell? ⟨g0, 10, none⟩ = some (.int .i64 z) ∧ w'.cell? ⟨g0, 11, none⟩ = some (.int .i64 v))
      (first | go_keep | (with_reducible assumption) | (exact q2) | (exact q3))
      (first
        | (go_at_call 35; refine (wbtw_any _ _ _ _).mono ?_; rintro e w1 ⟨rfl, rfl⟩)
        | (go_at_call 36; refine (alone_any ⟨k, a, s, x, p, q, n, t, i, y, z, v⟩ _).mono ?_; rintro e w2 ⟨rfl, hb2⟩; rw [hA, mvl_mk]; have B2 : Hid (Below w.heap.size w w2) := below_step b0.out hb2; have K2 : Hid (Blk w2 g0 29 #[.int .i64 k, .int .i64 a, .int .i64 s, .bool x, .int .i64 p, .int .i64 q, .int .i64 n, .int .i64 t, .int .i64 i, .int .i64 y, .int .i64 z, .int .i64 v]) := Blk.below' K0.out hb2; have q2 : w2.cell? ⟨g0, 0, none⟩ = some (.int .i64 k) ∧ w2.cell? ⟨g0, 1, none⟩ = some (.int .i64 a) ∧ w2.cell? ⟨g0, 2, none⟩ = some (.int .i64 s) ∧ w2.cell? ⟨g0, 3, none⟩ = some (.bool x) ∧ w2.cell? ⟨g0, 4, none⟩ = some (.int .i64 p) ∧ w2.cell? ⟨g0, 5, none⟩ = some (.int .i64 q) ∧ w2.cell? ⟨g0, 6, none⟩ = some (.int .i64 n) ∧ w2.cell? ⟨g0, 7, none⟩ = some (.int .i64 t) ∧ w2.cell? ⟨g0, 8, none⟩ = some (.int .i64 i) ∧ w2.cell? ⟨g0, 9, none⟩ = some (.int .i64 y) ∧ w2.cell? ⟨g0, 10, none⟩ = some (.int .i64 z) ∧ w2.cell? ⟨g0, 11, none⟩ = some (.int .i64 v) := c12_of K2.out)
        | (go_at_call 37; refine (fits_any ⟨k, a, s, x, p, q, n, t, i, y, z, v⟩ _).mono ?_; rintro e w3 ⟨rfl, hb3⟩; rw [h2]; have B3 : Hid (Below w.heap.size w w3) := below_step B2.out hb3; have K3 : Hid (Blk w3 g0 29 #[.int .i64 k, .int .i64 a, .int .i64 s, .bool x, .int .i64 p, .int .i64 q, .int .i64 n, .int .i64 t, .int .i64 i, .int .i64 y, .int .i64 z, .int .i64 v]) := Blk.below' K2.out hb3; have q3 : w3.cell? ⟨g0, 0, none⟩ = some (.int .i64 k) ∧ w3.cell? ⟨g0, 1, none⟩ = some (.int .i64 a) ∧ w3.cell? ⟨g0, 2, none⟩ = some (.int .i64 s) ∧ w3.cell? ⟨g0, 3, none⟩ = some (.bool x) ∧ w3.cell? ⟨g0, 4, none⟩ = some (.int .i64 p) ∧ w3.cell? ⟨g0, 5, none⟩ = some (.int .i64 q) ∧ w3.cell? ⟨g0, 6, none⟩ = some (.int .i64 n) ∧ w3.cell? ⟨g0, 7, none⟩ = some (.int .i64 t) ∧ w3.cell? ⟨g0, 8, none⟩ = some (.int .i64 i) ∧ w3.cell? ⟨g0, 9, none⟩ = some (.int .i64 y) ∧ w3.cell? ⟨g0, 10, none⟩ = some (.int .i64 z) ∧ w3.cell? ⟨g0, 11, none⟩ = some (.int .i64 v) := c12_of K3.out))
    all_goals
      go_wp2_with fail
      go_ret
      exact ⟨rfl, (Hid.out (by assumption))⟩
end Wrt
namespace CrdC
open Go.ChangeShapes Go.WideShapes Go.ChangeAt Go.RowKit Mem Tre Ref3 Law3 Crd CrdB
theorem blk_far {w : World} {g : Nat} {te : TypeId} {cs : Array Value} (h : Blk w g te cs) {p : Addr} (hp : g ≠ p.block) (u : Value) : Blk (w.setCell p u) g te cs := (Below.heap_setCell w p u g hp).trans h
def UOk (u : List Int) : Prop := ∀ i, i < u.length → 0 ≤ gI u i ∧ gI u i ≤ 4611686018427387904
end CrdC
namespace Own
open Go.ChangeShapes Go.WideShapes Go.ChangeAt Go.RowKit Mem Tre Ref3 Law3 Fix3 Crd CrdB CrdC Cpl
def inB (x : Int) : Bool := decide (-9223372036854775808 ≤ x ∧ x ≤ 9223372036854775807)
def numV (x : Int) : Int := if inB x then x else 0
theorem inB_t {x : Int} (h : -9223372036854775808 ≤ x) (h' : x ≤ 9223372036854775807) : inB x = true := by
  unfold inB; simp [h, h']
theorem inB_f {x : Int} (h : x < -9223372036854775808 ∨ 9223372036854775807 < x) : inB x = false := by
  unfold inB; simp; omega
theorem numV_t {x : Int} (h : inB x = true) : numV x = x := by unfold numV; simp [h]
theorem numV_f {x : Int} (h : inB x = false) : numV x = 0 := by unfold numV; simp [h]
def Told (x : Int) (w : Go.World) (e : Ending) (w' : Go.World) : Prop := e = .returned (.tuple #[.int .i64 (numV x), .bool (inB x)]) ∧ w = w'
theorem told_t {x : Int} {w : Go.World} {y : Int} (h : -9223372036854775808 ≤ x) (h' : x ≤ 9223372036854775807) (hy : y = x) : Told x w (.returned (.tuple #[.int .i64 y, .bool true])) w := by
  have := inB_t h h'
  subst hy
  exact ⟨by rw [numV_t this, this], rfl⟩
theorem told_f {x : Int} {w : Go.World} (h : x < -9223372036854775808 ∨ 9223372036854775807 < x) : Told x w (.returned (.tuple #[.int .i64 0, .bool false])) w := by
  have := inB_f h
  exact ⟨by rw [numV_f this, this], rfl⟩
end Own
namespace Res
open Go.ChangeShapes Go.WideShapes Go.ChangeAt Go.RowKit Mem Tre Ref3 Law3 Fix3 Crd CrdB CrdC Cpl Own
structure GoodSt (l : List (Int × Int)) (u : List Int) : Prop where
  okt : Okt l
  one : 1 ≤ l.length
  few : l.length ≤ 32
  len : u.length = l.length
  uok : UOk u
theorem GoodSt.wf {l : List (Int × Int)} {u : List Int} (h : GoodSt l u) : WfN l := okt_wf h.okt h.few
end Res
namespace Rr4
open Go.ChangeShapes Go.WideShapes Go.ChangeAt Go.RowKit Mem Tre Ref3 Law3 Fix3 Crd CrdB CrdC Cpl Own Res Rel Lim
theorem Blk_grown {w w' : World} {g : Nat} {te : TypeId} {cs : Array Value} {row : Option Nat} (h : Blk w g te cs) (hg : w.grownBy w' row) (hne : some g ≠ row) : Blk w' g te cs := (hg.block g h.lt hne).trans h
theorem blk_ne {W : World} {g b j n n' c c' : Nat} {te : TypeId} {a a' : Option Addr} {k : IntKind} {x : Int} (h : Blk W g te #[.slice a n c, .slice a' n' c']) (hc : W.cell? ⟨b, j, none⟩ = some (.int k x)) : b ≠ g := by
  rintro rfl
  rw [h.cell] at hc
  match j, hc with
  | 0, hc => simp at hc
  | 1, hc => simp at hc
  | j + 2, hc => simp at hc
end Rr4
namespace St7
open Go.ChangeShapes Go.WideShapes Go.ChangeAt Go.RowKit Mem Tre Ref3 Law3 Fix3 Opn Bnd Flo Cfg CrdB CrdC Rr4 Fr4
attribute [local go_sem] run_store_float
def st7 (W : World) (g : Nat) (a b c d e f h : Value) : World :=
  ((((((W.setCell ⟨g, 0, none⟩ a).setCell ⟨g, 1, none⟩ b).setCell ⟨g, 2, none⟩ c).setCell ⟨g, 3, none⟩ d).setCell ⟨g, 4, none⟩ e).setCell ⟨g, 5, none⟩ f).setCell ⟨g, 6, none⟩ h
theorem st7_blk {W : World} {g : Nat} {te : TypeId} {v0 v1 v2 v3 v4 v5 v6 a b c d e f h : Value} (hk : Blk W g te #[v0, v1, v2, v3, v4, v5, v6]) : Blk (st7 W g a b c d e f h) g te #[a, b, c, d, e, f, h] := by
  have k0 : Blk (W.setCell ⟨g, 0, none⟩ a) g te #[a, v1, v2, v3, v4, v5, v6] := blk_set hk 0 a
  have k1 : Blk ((W.setCell ⟨g, 0, none⟩ a).setCell ⟨g, 1, none⟩ b) g te #[a, b, v2, v3, v4, v5, v6] := blk_set k0 1 b
  have k2 : Blk (((W.setCell ⟨g, 0, none⟩ a).setCell ⟨g, 1, none⟩ b).setCell ⟨g, 2, none⟩ c) g te #[a, b, c, v3, v4, v5, v6] := blk_set k1 2 c
  have k3 : Blk ((((W.setCell ⟨g, 0, none⟩ a).setCell ⟨g, 1, none⟩ b).setCell ⟨g, 2, none⟩ c).setCell ⟨g, 3, none⟩ d) g te #[a, b, c, d, v4, v5, v6] := blk_set k2 3 d
  have k4 : Blk (((((W.setCell ⟨g, 0, none⟩ a).setCell ⟨g, 1, none⟩ b).setCell ⟨g, 2, none⟩ c).setCell ⟨g, 3, none⟩ d).setCell ⟨g, 4, none⟩ e) g te #[a, b, c, d, e, v5, v6] := blk_set k3 4 e
  have k5 : Blk ((((((W.setCell ⟨g, 0, none⟩ a).setCell ⟨g, 1, none⟩ b).setCell ⟨g, 2, none⟩ c).setCell ⟨g, 3, none⟩ d).setCell ⟨g, 4, none⟩ e).setCell ⟨g, 5, none⟩ f) g te #[a, b, c, d, e, f, v6] := blk_set k4 5 f
  have k6 : Blk (((((((W.setCell ⟨g, 0, none⟩ a).setCell ⟨g, 1, none⟩ b).setCell ⟨g, 2, none⟩ c).setCell ⟨g, 3, none⟩ d).setCell ⟨g, 4, none⟩ e).setCell ⟨g, 5, none⟩ f).setCell ⟨g, 6, none⟩ h) g te #[a, b, c, d, e, f, h] := blk_set k5 6 h
  exact k6
theorem st7_below {B : Nat} {w0 W : World} {g : Nat} {a b c d e f h : Value} (hb : Below B w0 W) (hg : B ≤ g) : Below B w0 (st7 W g a b c d e f h) :=
  ((((((hb.setCell (p := ⟨g, 0, none⟩) hg a).setCell (p := ⟨g, 1, none⟩) hg b).setCell (p := ⟨g, 2, none⟩) hg c).setCell (p := ⟨g, 3, none⟩) hg d).setCell (p := ⟨g, 4, none⟩) hg e).setCell (p := ⟨g, 5, none⟩) hg f).setCell (p := ⟨g, 6, none⟩) hg h
end St7
namespace Rul6
open Go.ChangeShapes Go.WideShapes Go.ChangeAt Go.RowKit Mem Tre Ref3 Law3 Fix3 Opn Bnd Flo Cfg CrdB CrdC Rr4 Fr4 St7
attribute [local go_sem] run_store_float
theorem own_blk_ne {w : World} {base : Nat} {e te : TypeId} {size n g : Nat} {v : Value} {xs : List Value} {cs : Array Value} (h : w.ownsRow base e size v n xs) (hk : Blk w g te cs) (hne : e ≠ te) : v.ownBlock ≠ some g := by
  rcases h.2 with ⟨rfl, _⟩ | ⟨k, cap, cur, rfl, _, hh, _⟩
  · simp [Value.ownBlock]
  · intro he
    have : k = g := by simpa [Value.ownBlock] using he
    subst this
    unfold Blk at hk
    rw [hh] at hk
    injection hk with hk
    injection hk with _ q
    exact hne q
theorem blk_at {w : World} {te : TypeId} {cs : Array Value} {g : Nat} (h : g = w.heap.size) : Blk (w.alloc (.cells cs te)) g te cs := by subst h; exact Blk.fresh _ _ _
theorem st7_far {W : World} {g gZ : Nat} {te : TypeId} {cs : Array Value} {a b c d e f h : Value} (hk : Blk W g te cs) (hne : g ≠ gZ) : Blk (st7 W gZ a b c d e f h) g te cs :=
  blk_far (blk_far (blk_far (blk_far (blk_far (blk_far (blk_far hk hne a) hne b) hne c) hne d) hne e) hne f) hne h
end Rul6
namespace Tl5
open Go.ChangeShapes Go.WideShapes Go.ChangeAt Go.RowKit Mem Tre Ref3 Law3 Fix3 Opn Bnd Flo Cfg CrdB CrdC Rr4 Fr4 Rul1 Rul3 St7 Rul6 Fcf Fown Rul7
attribute [local go_sem] run_store_float
structure CfV (W : World) (g : Nat) (te : TypeId) (A B C : Option Addr) (sh wi ra ta : Int) (n m k c d f : Nat) (nd : List (Int × Int)) (ac : List Int) (sy : List (Int × Int × Int × Nat)) : Prop where
  blk : Blk W g te #[.int .i64 sh, .int .i64 wi, .int .i64 ra, .int .i64 ta, .slice A n c, .slice B m d, .slice C k f]
  nds : Nds W W.heap.size A nd
  ris : Ris W W.heap.size B ac
  smb : Smb W W.heap.size C sy
theorem CfV.below {W : World} {g : Nat} {te : TypeId} {A B C : Option Addr} {sh wi ra ta : Int} {n m k c d f : Nat} {nd : List (Int × Int)} {ac : List Int} {sy : List (Int × Int × Int × Nat)} {W' : World} (h : CfV W g te A B C sh wi ra ta n m k c d f nd ac sy) (hb : Below W.heap.size W W') : CfV W' g te A B C sh wi ra ta n m k c d f nd ac sy :=
  ⟨Blk.below' h.blk hb, Rd.below' h.nds hb hb.size, Rd.below' h.ris hb hb.size, Rd.below' h.smb hb hb.size⟩
theorem CfV.alloc {W : World} {g : Nat} {te : TypeId} {A B C : Option Addr} {sh wi ra ta : Int} {n m k c d f : Nat} {nd : List (Int × Int)} {ac : List Int} {sy : List (Int × Int × Int × Nat)} (h : CfV W g te A B C sh wi ra ta n m k c d f nd ac sy) (o : Obj) : CfV (W.alloc o) g te A B C sh wi ra ta n m k c d f nd ac sy :=
  h.below ((Below.refl _ _).alloc (Nat.le_refl _) _)
end Tl5
end Go.Proofs.YteclenloimbaeaaGreatDoor
