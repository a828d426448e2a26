/- The contract of the law's To: a Config of the reference's as the program has it. Condition: the Config lies in memory. -/
import Derived.Test.YtkobldddiedmdaaSt7
import Derived.Test.YtkobldddiedmdaaRsf
import Derived.Test.YtkobldddiedmdaaTo4
import Derived.Deep.DeepCutAuto
namespace Go.Proofs.Ytkobldddiedmdaa.Rul6
set_option maxRecDepth 100000
open Go.ChangeShapes Go.WideShapes Go.ChangeAt Go.RowKit Mem Tre Ref3 Law3 Fix3 Opn Bnd Flo Cfg CrdB CrdC Rr4 Fr4 St7
set_option linter.unusedVariables false
set_option linter.unusedSimpArgs false
attribute [local go_sem] run_store_float

theorem own_blk_ne {w : World} {base : Nat} {e te : TypeId} {size n g : Nat} {v : Value} {xs : List Value} {cs : Array Value} (h : w.ownsRow base e size v n xs) (hk : Blk w g te cs) (hne : e ≠ te) : v.ownBlock ≠ some g := by
  rcases h.2 with ⟨rfl, _⟩ | ⟨k, cap, cur, rfl, _, hh, _⟩
  · simp [Value.ownBlock]
  · intro he
    have : k = g := by simpa [Value.ownBlock] using he
    subst this
    unfold Blk at hk
    rw [hh] at hk
    injection hk with hk
    injection hk with _ q
    exact hne q
theorem own_set1 {w : World} {base : Nat} {e te : TypeId} {size n g : Nat} {v : Value} {xs : List Value} {cs : Array Value} (h : w.ownsRow base e size v n xs) (hk : Blk w g te cs) (hne : e ≠ te) (j : Nat) (x : Value) : (w.setCell ⟨g, j, none⟩ x).ownsRow base e size v n xs := by
  have hnb := own_blk_ne h hk hne
  refine ⟨h.1, ?_⟩
  rcases h.2 with h2 | ⟨k, cap, cur, hv, hg, hh, r⟩
  · exact .inl h2
  · refine .inr ⟨k, cap, cur, hv, hg, ?_, r⟩
    have hkg : k ≠ g := by rintro rfl; rw [hv] at hnb; simp [Value.ownBlock] at hnb
    rw [Below.heap_setCell _ _ _ _ (by exact hkg)]
    exact hh
theorem own_st7 {W : World} {g base : Nat} {e te : TypeId} {size n : Nat} {v : Value} {xs : List Value} {v0 v1 v2 v3 v4 v5 v6 qa qb qc qd qe qf qh : Value} (h : W.ownsRow base e size v n xs) (hk : Blk W g te #[v0, v1, v2, v3, v4, v5, v6]) (hne : e ≠ te) : (st7 W g qa qb qc qd qe qf qh).ownsRow base e size v n xs := by
  have o0 := own_set1 h hk hne 0 qa
  have k0 : Blk (W.setCell ⟨g, 0, none⟩ qa) g te _ := blk_set hk 0 qa
  have o1 := own_set1 o0 k0 hne 1 qb
  have k1 := blk_set k0 1 qb
  have o2 := own_set1 o1 k1 hne 2 qc
  have k2 := blk_set k1 2 qc
  have o3 := own_set1 o2 k2 hne 3 qd
  have k3 := blk_set k2 3 qd
  have o4 := own_set1 o3 k3 hne 4 qe
  have k4 := blk_set k3 4 qe
  have o5 := own_set1 o4 k4 hne 5 qf
  have k5 := blk_set k4 5 qf
  exact own_set1 o5 k5 hne 6 qh
theorem own_grown {w w' : World} {base g : Nat} {e te : TypeId} {size n : Nat} {v : Value} {xs : List Value} {cs : Array Value} (h : w.ownsRow base e size v n xs) (hk : Blk w g te cs) (hne : e ≠ te) (hg : w.grownBy w' (some g)) : w'.ownsRow base e size v n xs :=
  World.ownsRow.kept h hg (.inr (own_blk_ne h hk hne))
theorem own_own {w w' : World} {base base2 : Nat} {e e2 : TypeId} {size n size2 n2 : Nat} {v v2 : Value} {xs xs2 : List Value} (h : w.ownsRow base e size v n xs) (h2 : w.ownsRow base2 e2 size2 v2 n2 xs2) (hne : e ≠ e2) (hg : w.grownBy w' v2.ownBlock) : w'.ownsRow base e size v n xs := by
  refine World.ownsRow.kept h hg ?_
  rcases h2.2 with ⟨rfl, _⟩ | ⟨k, cap, cur, rfl, _, hh, _⟩
  · cases hv : v.ownBlock with
    | none => exact .inl rfl
    | some q => exact .inr (by simp [Value.ownBlock])
  · exact .inr (own_blk_ne h (g := k) (cs := cur) hh hne)
theorem int_info6 : (Try.prog.info? 3).map (fun i => (i.zero, i.size, i.bytes)) = some (some (.int .i64 0), 1, 8) := by kernel_rfl
theorem below_al {B : Nat} {w W : World} (h : Below B w W) (hB : B ≤ w.heap.size) (o : Obj) : Below B w (W.alloc o) := h.alloc (by have := h.size; omega) o
theorem below_gr {w0 w w' : World} {g : Nat} (h : Below w0.heap.size w0 w) (hg : w.grownBy w' (some g)) (hl : w0.heap.size ≤ g) : Below w0.heap.size w0 w' := h.grown hg h.size (fun k hk => by injection hk with hk; omega)

theorem below_up {w W : World} (h : Below w.heap.size w W) (o : Obj) : Below w.heap.size w (W.alloc o) := h.alloc h.size o
theorem rd_up {W : World} {A : Option Addr} {xs : List Value} (h : Rd W W.heap.size A xs) (o : Obj) : Rd (W.alloc o) (W.alloc o).heap.size A xs := Rd.below' h ((Below.refl _ _).alloc (Nat.le_refl _) _) (by simp)
theorem blk_at {w : World} {te : TypeId} {cs : Array Value} {g : Nat} (h : g = w.heap.size) : Blk (w.alloc (.cells cs te)) g te cs := by subst h; exact Blk.fresh _ _ _

theorem app_at {P : Program} {ops : Array Oper} {o : Oper} {a : Act} {K : Act → World → Prop} {Q : Exit → Act → World → Prop} {E : Prop} (w : World) (h : if Region.wanted o (yielded ops a.tmps) = true then Oper.wp P o a w K Q else E) : if Region.wanted o (yielded ops a.tmps) = true then Oper.wp P o a w K Q else E := h
theorem st7_far {W : World} {g gZ : Nat} {te : TypeId} {cs : Array Value} {a b c d e f h : Value} (hk : Blk W g te cs) (hne : g ≠ gZ) : Blk (st7 W gZ a b c d e f h) g te cs :=
  blk_far (blk_far (blk_far (blk_far (blk_far (blk_far (blk_far hk hne a) hne b) hne c) hne d) hne e) hne f) hne h
theorem s_of {W : World} {g : Nat} {te : TypeId} {v0 v1 v2 v3 v4 v5 v6 : Value} (hk : Blk W g te #[v0, v1, v2, v3, v4, v5, v6]) :
    W.cell? ⟨g, 0, none⟩ = some v0 ∧ W.cell? ⟨g, 1, none⟩ = some v1 ∧ W.cell? ⟨g, 2, none⟩ = some v2 ∧ W.cell? ⟨g, 3, none⟩ = some v3 ∧ W.cell? ⟨g, 4, none⟩ = some v4 ∧ W.cell? ⟨g, 5, none⟩ = some v5 :=
  ⟨hk.cell 0, hk.cell 1, hk.cell 2, hk.cell 3, hk.cell 4, hk.cell 5⟩
theorem z_of {W : World} {g : Nat} {te : TypeId} {v0 v1 v2 v3 v4 v5 v6 : Value} (hk : Blk W g te #[v0, v1, v2, v3, v4, v5, v6]) :
    W.cell? ⟨g, 0, none⟩ = some v0 ∧ W.cell? ⟨g, 1, none⟩ = some v1 ∧ W.cell? ⟨g, 2, none⟩ = some v2 ∧ W.cell? ⟨g, 3, none⟩ = some v3 ∧ W.cell? ⟨g, 4, none⟩ = some v4 ∧ W.cell? ⟨g, 5, none⟩ = some v5 ∧ W.cell? ⟨g, 6, none⟩ = some v6 ∧
    W.frozen? ⟨g, 0, none⟩ = false ∧ W.frozen? ⟨g, 1, none⟩ = false ∧ W.frozen? ⟨g, 2, none⟩ = false ∧ W.frozen? ⟨g, 3, none⟩ = false ∧ W.frozen? ⟨g, 4, none⟩ = false ∧ W.frozen? ⟨g, 5, none⟩ = false ∧ W.frozen? ⟨g, 6, none⟩ = false :=
  ⟨hk.cell 0, hk.cell 1, hk.cell 2, hk.cell 3, hk.cell 4, hk.cell 5, hk.cell 6, hk.thaw 0, hk.thaw 1, hk.thaw 2, hk.thaw 3, hk.thaw 4, hk.thaw 5, hk.thaw 6⟩
theorem s7_of {W : World} {g gZ : Nat} {te : TypeId} {v0 v1 v2 v3 v4 v5 v6 : Value} (hk : Blk W g te #[v0, v1, v2, v3, v4, v5, v6]) (hne : g ≠ gZ) : ∀ a b c d e f h : Value,
    (((((((W.setCell ⟨gZ, 0, none⟩ a).setCell ⟨gZ, 1, none⟩ b).setCell ⟨gZ, 2, none⟩ c).setCell ⟨gZ, 3, none⟩ d).setCell ⟨gZ, 4, none⟩ e).setCell ⟨gZ, 5, none⟩ f).setCell ⟨gZ, 6, none⟩ h).cell? ⟨g, 0, none⟩ = some v0 ∧ (((((((W.setCell ⟨gZ, 0, none⟩ a).setCell ⟨gZ, 1, none⟩ b).setCell ⟨gZ, 2, none⟩ c).setCell ⟨gZ, 3, none⟩ d).setCell ⟨gZ, 4, none⟩ e).setCell ⟨gZ, 5, none⟩ f).setCell ⟨gZ, 6, none⟩ h).cell? ⟨g, 1, none⟩ = some v1 ∧ (((((((W.setCell ⟨gZ, 0, none⟩ a).setCell ⟨gZ, 1, none⟩ b).setCell ⟨gZ, 2, none⟩ c).setCell ⟨gZ, 3, none⟩ d).setCell ⟨gZ, 4, none⟩ e).setCell ⟨gZ, 5, none⟩ f).setCell ⟨gZ, 6, none⟩ h).cell? ⟨g, 2, none⟩ = some v2 ∧ (((((((W.setCell ⟨gZ, 0, none⟩ a).setCell ⟨gZ, 1, none⟩ b).setCell ⟨gZ, 2, none⟩ c).setCell ⟨gZ, 3, none⟩ d).setCell ⟨gZ, 4, none⟩ e).setCell ⟨gZ, 5, none⟩ f).setCell ⟨gZ, 6, none⟩ h).cell? ⟨g, 3, none⟩ = some v3 ∧ (((((((W.setCell ⟨gZ, 0, none⟩ a).setCell ⟨gZ, 1, none⟩ b).setCell ⟨gZ, 2, none⟩ c).setCell ⟨gZ, 3, none⟩ d).setCell ⟨gZ, 4, none⟩ e).setCell ⟨gZ, 5, none⟩ f).setCell ⟨gZ, 6, none⟩ h).cell? ⟨g, 4, none⟩ = some v4 ∧ (((((((W.setCell ⟨gZ, 0, none⟩ a).setCell ⟨gZ, 1, none⟩ b).setCell ⟨gZ, 2, none⟩ c).setCell ⟨gZ, 3, none⟩ d).setCell ⟨gZ, 4, none⟩ e).setCell ⟨gZ, 5, none⟩ f).setCell ⟨gZ, 6, none⟩ h).cell? ⟨g, 5, none⟩ = some v5 :=
  fun a b c d e f h => s_of (st7_far (a := a) (b := b) (c := c) (d := d) (e := e) (f := f) (h := h) hk hne)

end Go.Proofs.Ytkobldddiedmdaa.Rul6
