/- Structs in memory: a store of a whole struct, told by blocks. Over any program, no condition. -/
import Derived.Test.YtjabfbeioapiaaaMem
namespace Go.Proofs.Ytjabfbeioapiaaa.Stk
set_option maxRecDepth 100000
open Go.ChangeShapes Go.WideShapes Go.RowKit Mem
theorem blk_st {w : World} {g : Nat} {te : TypeId} {cs : Array Value} (h : Blk w g te cs) (i : Nat) (u : Value) : Blk (w.setCell ⟨g, i, none⟩ u) g te (cs.setIfInBounds i u) :=
  heap_setCell_same w g i cs te u h
theorem far_st {w : World} {g g' : Nat} {te : TypeId} {cs : Array Value} (h : Blk w g te cs) (hne : g ≠ g') {i : Nat} (u : Value) : Blk (w.setCell ⟨g', i, none⟩ u) g te cs :=
  (Below.heap_setCell w ⟨g', i, none⟩ u g hne).trans h
/-- a struct of 2 cells is stored -/
def st2 (W : World) (g : Nat) (v0 v1 : Value) : World := ((W.setCell ⟨g, 0, none⟩ v0).setCell ⟨g, 1, none⟩ v1)
theorem st2_blk {W : World} {g : Nat} {te : TypeId} {u0 u1 v0 v1 : Value} (hk : Blk W g te #[u0, u1]) : Blk (st2 W g v0 v1) g te #[v0, v1] := by
  have k0 : Blk (W.setCell ⟨g, 0, none⟩ v0) g te #[v0, u1] := blk_st hk 0 v0
  have k1 : Blk ((W.setCell ⟨g, 0, none⟩ v0).setCell ⟨g, 1, none⟩ v1) g te #[v0, v1] := blk_st k0 1 v1
  exact k1
theorem st2_below {B : Nat} {w0 W : World} {g : Nat} {v0 v1 : Value} (hb : Below B w0 W) (hg : B ≤ g) : Below B w0 (st2 W g v0 v1) := ((hb.setCell (p := ⟨g, 0, none⟩) hg v0).setCell (p := ⟨g, 1, none⟩) hg v1)
theorem st2_far {W : World} {g k : Nat} {te : TypeId} {cs : Array Value} {v0 v1 : Value} (h : Blk W k te cs) (hne : k ≠ g) : Blk (st2 W g v0 v1) k te cs := by
  unfold st2
  exact (far_st (far_st h hne v0) hne v1)
theorem z2_of {W : World} {g : Nat} {te : TypeId} {v0 v1 : Value} (h : Blk W g te #[v0, v1]) : W.cell? ⟨g, 0, none⟩ = some v0 ∧ W.cell? ⟨g, 1, none⟩ = some v1 ∧ W.frozen? ⟨g, 0, none⟩ = false ∧ W.frozen? ⟨g, 1, none⟩ = false := ⟨h.cell 0, h.cell 1, h.thaw 0, h.thaw 1⟩
theorem q2_of {W : World} {g : Nat} {te : TypeId} {v0 v1 : Value} (h : Blk W g te #[v0, v1]) : W.cell? ⟨g, 0, none⟩ = some v0 ∧ W.cell? ⟨g, 1, none⟩ = some v1 := ⟨h.cell 0, h.cell 1⟩
/-- a struct of 3 cells is stored -/
def st3 (W : World) (g : Nat) (v0 v1 v2 : Value) : World := (((W.setCell ⟨g, 0, none⟩ v0).setCell ⟨g, 1, none⟩ v1).setCell ⟨g, 2, none⟩ v2)
theorem st3_blk {W : World} {g : Nat} {te : TypeId} {u0 u1 u2 v0 v1 v2 : Value} (hk : Blk W g te #[u0, u1, u2]) : Blk (st3 W g v0 v1 v2) g te #[v0, v1, v2] := by
  have k0 : Blk (W.setCell ⟨g, 0, none⟩ v0) g te #[v0, u1, u2] := blk_st hk 0 v0
  have k1 : Blk ((W.setCell ⟨g, 0, none⟩ v0).setCell ⟨g, 1, none⟩ v1) g te #[v0, v1, u2] := blk_st k0 1 v1
  have k2 : Blk (((W.setCell ⟨g, 0, none⟩ v0).setCell ⟨g, 1, none⟩ v1).setCell ⟨g, 2, none⟩ v2) g te #[v0, v1, v2] := blk_st k1 2 v2
  exact k2
theorem st3_below {B : Nat} {w0 W : World} {g : Nat} {v0 v1 v2 : Value} (hb : Below B w0 W) (hg : B ≤ g) : Below B w0 (st3 W g v0 v1 v2) := (((hb.setCell (p := ⟨g, 0, none⟩) hg v0).setCell (p := ⟨g, 1, none⟩) hg v1).setCell (p := ⟨g, 2, none⟩) hg v2)
theorem st3_far {W : World} {g k : Nat} {te : TypeId} {cs : Array Value} {v0 v1 v2 : Value} (h : Blk W k te cs) (hne : k ≠ g) : Blk (st3 W g v0 v1 v2) k te cs := by
  unfold st3
  exact (far_st (far_st (far_st h hne v0) hne v1) hne v2)
theorem z3_of {W : World} {g : Nat} {te : TypeId} {v0 v1 v2 : Value} (h : Blk W g te #[v0, v1, v2]) : W.cell? ⟨g, 0, none⟩ = some v0 ∧ W.cell? ⟨g, 1, none⟩ = some v1 ∧ W.cell? ⟨g, 2, none⟩ = some v2 ∧ W.frozen? ⟨g, 0, none⟩ = false ∧ W.frozen? ⟨g, 1, none⟩ = false ∧ W.frozen? ⟨g, 2, none⟩ = false := ⟨h.cell 0, h.cell 1, h.cell 2, h.thaw 0, h.thaw 1, h.thaw 2⟩
theorem q3_of {W : World} {g : Nat} {te : TypeId} {v0 v1 v2 : Value} (h : Blk W g te #[v0, v1, v2]) : W.cell? ⟨g, 0, none⟩ = some v0 ∧ W.cell? ⟨g, 1, none⟩ = some v1 ∧ W.cell? ⟨g, 2, none⟩ = some v2 := ⟨h.cell 0, h.cell 1, h.cell 2⟩
/-- a struct of 4 cells is stored -/
def st4 (W : World) (g : Nat) (v0 v1 v2 v3 : Value) : World := ((((W.setCell ⟨g, 0, none⟩ v0).setCell ⟨g, 1, none⟩ v1).setCell ⟨g, 2, none⟩ v2).setCell ⟨g, 3, none⟩ v3)
theorem st4_blk {W : World} {g : Nat} {te : TypeId} {u0 u1 u2 u3 v0 v1 v2 v3 : Value} (hk : Blk W g te #[u0, u1, u2, u3]) : Blk (st4 W g v0 v1 v2 v3) g te #[v0, v1, v2, v3] := by
  have k0 : Blk (W.setCell ⟨g, 0, none⟩ v0) g te #[v0, u1, u2, u3] := blk_st hk 0 v0
  have k1 : Blk ((W.setCell ⟨g, 0, none⟩ v0).setCell ⟨g, 1, none⟩ v1) g te #[v0, v1, u2, u3] := blk_st k0 1 v1
  have k2 : Blk (((W.setCell ⟨g, 0, none⟩ v0).setCell ⟨g, 1, none⟩ v1).setCell ⟨g, 2, none⟩ v2) g te #[v0, v1, v2, u3] := blk_st k1 2 v2
  have k3 : Blk ((((W.setCell ⟨g, 0, none⟩ v0).setCell ⟨g, 1, none⟩ v1).setCell ⟨g, 2, none⟩ v2).setCell ⟨g, 3, none⟩ v3) g te #[v0, v1, v2, v3] := blk_st k2 3 v3
  exact k3
theorem st4_below {B : Nat} {w0 W : World} {g : Nat} {v0 v1 v2 v3 : Value} (hb : Below B w0 W) (hg : B ≤ g) : Below B w0 (st4 W g v0 v1 v2 v3) := ((((hb.setCell (p := ⟨g, 0, none⟩) hg v0).setCell (p := ⟨g, 1, none⟩) hg v1).setCell (p := ⟨g, 2, none⟩) hg v2).setCell (p := ⟨g, 3, none⟩) hg v3)
theorem st4_far {W : World} {g k : Nat} {te : TypeId} {cs : Array Value} {v0 v1 v2 v3 : Value} (h : Blk W k te cs) (hne : k ≠ g) : Blk (st4 W g v0 v1 v2 v3) k te cs := by
  unfold st4
  exact (far_st (far_st (far_st (far_st h hne v0) hne v1) hne v2) hne v3)
theorem z4_of {W : World} {g : Nat} {te : TypeId} {v0 v1 v2 v3 : Value} (h : Blk W g te #[v0, v1, v2, v3]) : W.cell? ⟨g, 0, none⟩ = some v0 ∧ W.cell? ⟨g, 1, none⟩ = some v1 ∧ W.cell? ⟨g, 2, none⟩ = some v2 ∧ W.cell? ⟨g, 3, none⟩ = some v3 ∧ W.frozen? ⟨g, 0, none⟩ = false ∧ W.frozen? ⟨g, 1, none⟩ = false ∧ W.frozen? ⟨g, 2, none⟩ = false ∧ W.frozen? ⟨g, 3, none⟩ = false := ⟨h.cell 0, h.cell 1, h.cell 2, h.cell 3, h.thaw 0, h.thaw 1, h.thaw 2, h.thaw 3⟩
theorem q4_of {W : World} {g : Nat} {te : TypeId} {v0 v1 v2 v3 : Value} (h : Blk W g te #[v0, v1, v2, v3]) : W.cell? ⟨g, 0, none⟩ = some v0 ∧ W.cell? ⟨g, 1, none⟩ = some v1 ∧ W.cell? ⟨g, 2, none⟩ = some v2 ∧ W.cell? ⟨g, 3, none⟩ = some v3 := ⟨h.cell 0, h.cell 1, h.cell 2, h.cell 3⟩
/-- a struct of 7 cells is stored -/
def st7 (W : World) (g : Nat) (v0 v1 v2 v3 v4 v5 v6 : Value) : World := (((((((W.setCell ⟨g, 0, none⟩ v0).setCell ⟨g, 1, none⟩ v1).setCell ⟨g, 2, none⟩ v2).setCell ⟨g, 3, none⟩ v3).setCell ⟨g, 4, none⟩ v4).setCell ⟨g, 5, none⟩ v5).setCell ⟨g, 6, none⟩ v6)
theorem st7_blk {W : World} {g : Nat} {te : TypeId} {u0 u1 u2 u3 u4 u5 u6 v0 v1 v2 v3 v4 v5 v6 : Value} (hk : Blk W g te #[u0, u1, u2, u3, u4, u5, u6]) : Blk (st7 W g v0 v1 v2 v3 v4 v5 v6) g te #[v0, v1, v2, v3, v4, v5, v6] := by
  have k0 : Blk (W.setCell ⟨g, 0, none⟩ v0) g te #[v0, u1, u2, u3, u4, u5, u6] := blk_st hk 0 v0
  have k1 : Blk ((W.setCell ⟨g, 0, none⟩ v0).setCell ⟨g, 1, none⟩ v1) g te #[v0, v1, u2, u3, u4, u5, u6] := blk_st k0 1 v1
  have k2 : Blk (((W.setCell ⟨g, 0, none⟩ v0).setCell ⟨g, 1, none⟩ v1).setCell ⟨g, 2, none⟩ v2) g te #[v0, v1, v2, u3, u4, u5, u6] := blk_st k1 2 v2
  have k3 : Blk ((((W.setCell ⟨g, 0, none⟩ v0).setCell ⟨g, 1, none⟩ v1).setCell ⟨g, 2, none⟩ v2).setCell ⟨g, 3, none⟩ v3) g te #[v0, v1, v2, v3, u4, u5, u6] := blk_st k2 3 v3
  have k4 : Blk (((((W.setCell ⟨g, 0, none⟩ v0).setCell ⟨g, 1, none⟩ v1).setCell ⟨g, 2, none⟩ v2).setCell ⟨g, 3, none⟩ v3).setCell ⟨g, 4, none⟩ v4) g te #[v0, v1, v2, v3, v4, u5, u6] := blk_st k3 4 v4
  have k5 : Blk ((((((W.setCell ⟨g, 0, none⟩ v0).setCell ⟨g, 1, none⟩ v1).setCell ⟨g, 2, none⟩ v2).setCell ⟨g, 3, none⟩ v3).setCell ⟨g, 4, none⟩ v4).setCell ⟨g, 5, none⟩ v5) g te #[v0, v1, v2, v3, v4, v5, u6] := blk_st k4 5 v5
  have k6 : Blk (((((((W.setCell ⟨g, 0, none⟩ v0).setCell ⟨g, 1, none⟩ v1).setCell ⟨g, 2, none⟩ v2).setCell ⟨g, 3, none⟩ v3).setCell ⟨g, 4, none⟩ v4).setCell ⟨g, 5, none⟩ v5).setCell ⟨g, 6, none⟩ v6) g te #[v0, v1, v2, v3, v4, v5, v6] := blk_st k5 6 v6
  exact k6
theorem st7_below {B : Nat} {w0 W : World} {g : Nat} {v0 v1 v2 v3 v4 v5 v6 : Value} (hb : Below B w0 W) (hg : B ≤ g) : Below B w0 (st7 W g v0 v1 v2 v3 v4 v5 v6) := (((((((hb.setCell (p := ⟨g, 0, none⟩) hg v0).setCell (p := ⟨g, 1, none⟩) hg v1).setCell (p := ⟨g, 2, none⟩) hg v2).setCell (p := ⟨g, 3, none⟩) hg v3).setCell (p := ⟨g, 4, none⟩) hg v4).setCell (p := ⟨g, 5, none⟩) hg v5).setCell (p := ⟨g, 6, none⟩) hg v6)
theorem st7_far {W : World} {g k : Nat} {te : TypeId} {cs : Array Value} {v0 v1 v2 v3 v4 v5 v6 : Value} (h : Blk W k te cs) (hne : k ≠ g) : Blk (st7 W g v0 v1 v2 v3 v4 v5 v6) k te cs := by
  unfold st7
  exact (far_st (far_st (far_st (far_st (far_st (far_st (far_st h hne v0) hne v1) hne v2) hne v3) hne v4) hne v5) hne v6)
theorem z7_of {W : World} {g : Nat} {te : TypeId} {v0 v1 v2 v3 v4 v5 v6 : Value} (h : Blk W g te #[v0, v1, v2, v3, v4, v5, v6]) : W.cell? ⟨g, 0, none⟩ = some v0 ∧ W.cell? ⟨g, 1, none⟩ = some v1 ∧ W.cell? ⟨g, 2, none⟩ = some v2 ∧ W.cell? ⟨g, 3, none⟩ = some v3 ∧ W.cell? ⟨g, 4, none⟩ = some v4 ∧ W.cell? ⟨g, 5, none⟩ = some v5 ∧ W.cell? ⟨g, 6, none⟩ = some v6 ∧ W.frozen? ⟨g, 0, none⟩ = false ∧ W.frozen? ⟨g, 1, none⟩ = false ∧ W.frozen? ⟨g, 2, none⟩ = false ∧ W.frozen? ⟨g, 3, none⟩ = false ∧ W.frozen? ⟨g, 4, none⟩ = false ∧ W.frozen? ⟨g, 5, none⟩ = false ∧ W.frozen? ⟨g, 6, none⟩ = false := ⟨h.cell 0, h.cell 1, h.cell 2, h.cell 3, h.cell 4, h.cell 5, h.cell 6, h.thaw 0, h.thaw 1, h.thaw 2, h.thaw 3, h.thaw 4, h.thaw 5, h.thaw 6⟩
theorem q7_of {W : World} {g : Nat} {te : TypeId} {v0 v1 v2 v3 v4 v5 v6 : Value} (h : Blk W g te #[v0, v1, v2, v3, v4, v5, v6]) : W.cell? ⟨g, 0, none⟩ = some v0 ∧ W.cell? ⟨g, 1, none⟩ = some v1 ∧ W.cell? ⟨g, 2, none⟩ = some v2 ∧ W.cell? ⟨g, 3, none⟩ = some v3 ∧ W.cell? ⟨g, 4, none⟩ = some v4 ∧ W.cell? ⟨g, 5, none⟩ = some v5 ∧ W.cell? ⟨g, 6, none⟩ = some v6 := ⟨h.cell 0, h.cell 1, h.cell 2, h.cell 3, h.cell 4, h.cell 5, h.cell 6⟩
/-- a struct of 11 cells is stored -/
def st11 (W : World) (g : Nat) (v0 v1 v2 v3 v4 v5 v6 v7 v8 v9 v10 : Value) : World := (((((((((((W.setCell ⟨g, 0, none⟩ v0).setCell ⟨g, 1, none⟩ v1).setCell ⟨g, 2, none⟩ v2).setCell ⟨g, 3, none⟩ v3).setCell ⟨g, 4, none⟩ v4).setCell ⟨g, 5, none⟩ v5).setCell ⟨g, 6, none⟩ v6).setCell ⟨g, 7, none⟩ v7).setCell ⟨g, 8, none⟩ v8).setCell ⟨g, 9, none⟩ v9).setCell ⟨g, 10, none⟩ v10)
theorem st11_blk {W : World} {g : Nat} {te : TypeId} {u0 u1 u2 u3 u4 u5 u6 u7 u8 u9 u10 v0 v1 v2 v3 v4 v5 v6 v7 v8 v9 v10 : Value} (hk : Blk W g te #[u0, u1, u2, u3, u4, u5, u6, u7, u8, u9, u10]) : Blk (st11 W g v0 v1 v2 v3 v4 v5 v6 v7 v8 v9 v10) g te #[v0, v1, v2, v3, v4, v5, v6, v7, v8, v9, v10] := by
  have k0 : Blk (W.setCell ⟨g, 0, none⟩ v0) g te #[v0, u1, u2, u3, u4, u5, u6, u7, u8, u9, u10] := blk_st hk 0 v0
  have k1 : Blk ((W.setCell ⟨g, 0, none⟩ v0).setCell ⟨g, 1, none⟩ v1) g te #[v0, v1, u2, u3, u4, u5, u6, u7, u8, u9, u10] := blk_st k0 1 v1
  have k2 : Blk (((W.setCell ⟨g, 0, none⟩ v0).setCell ⟨g, 1, none⟩ v1).setCell ⟨g, 2, none⟩ v2) g te #[v0, v1, v2, u3, u4, u5, u6, u7, u8, u9, u10] := blk_st k1 2 v2
  have k3 : Blk ((((W.setCell ⟨g, 0, none⟩ v0).setCell ⟨g, 1, none⟩ v1).setCell ⟨g, 2, none⟩ v2).setCell ⟨g, 3, none⟩ v3) g te #[v0, v1, v2, v3, u4, u5, u6, u7, u8, u9, u10] := blk_st k2 3 v3
  have k4 : Blk (((((W.setCell ⟨g, 0, none⟩ v0).setCell ⟨g, 1, none⟩ v1).setCell ⟨g, 2, none⟩ v2).setCell ⟨g, 3, none⟩ v3).setCell ⟨g, 4, none⟩ v4) g te #[v0, v1, v2, v3, v4, u5, u6, u7, u8, u9, u10] := blk_st k3 4 v4
  have k5 : Blk ((((((W.setCell ⟨g, 0, none⟩ v0).setCell ⟨g, 1, none⟩ v1).setCell ⟨g, 2, none⟩ v2).setCell ⟨g, 3, none⟩ v3).setCell ⟨g, 4, none⟩ v4).setCell ⟨g, 5, none⟩ v5) g te #[v0, v1, v2, v3, v4, v5, u6, u7, u8, u9, u10] := blk_st k4 5 v5
  have k6 : Blk (((((((W.setCell ⟨g, 0, none⟩ v0).setCell ⟨g, 1, none⟩ v1).setCell ⟨g, 2, none⟩ v2).setCell ⟨g, 3, none⟩ v3).setCell ⟨g, 4, none⟩ v4).setCell ⟨g, 5, none⟩ v5).setCell ⟨g, 6, none⟩ v6) g te #[v0, v1, v2, v3, v4, v5, v6, u7, u8, u9, u10] := blk_st k5 6 v6
  have k7 : Blk ((((((((W.setCell ⟨g, 0, none⟩ v0).setCell ⟨g, 1, none⟩ v1).setCell ⟨g, 2, none⟩ v2).setCell ⟨g, 3, none⟩ v3).setCell ⟨g, 4, none⟩ v4).setCell ⟨g, 5, none⟩ v5).setCell ⟨g, 6, none⟩ v6).setCell ⟨g, 7, none⟩ v7) g te #[v0, v1, v2, v3, v4, v5, v6, v7, u8, u9, u10] := blk_st k6 7 v7
  have k8 : Blk (((((((((W.setCell ⟨g, 0, none⟩ v0).setCell ⟨g, 1, none⟩ v1).setCell ⟨g, 2, none⟩ v2).setCell ⟨g, 3, none⟩ v3).setCell ⟨g, 4, none⟩ v4).setCell ⟨g, 5, none⟩ v5).setCell ⟨g, 6, none⟩ v6).setCell ⟨g, 7, none⟩ v7).setCell ⟨g, 8, none⟩ v8) g te #[v0, v1, v2, v3, v4, v5, v6, v7, v8, u9, u10] := blk_st k7 8 v8
  have k9 : Blk ((((((((((W.setCell ⟨g, 0, none⟩ v0).setCell ⟨g, 1, none⟩ v1).setCell ⟨g, 2, none⟩ v2).setCell ⟨g, 3, none⟩ v3).setCell ⟨g, 4, none⟩ v4).setCell ⟨g, 5, none⟩ v5).setCell ⟨g, 6, none⟩ v6).setCell ⟨g, 7, none⟩ v7).setCell ⟨g, 8, none⟩ v8).setCell ⟨g, 9, none⟩ v9) g te #[v0, v1, v2, v3, v4, v5, v6, v7, v8, v9, u10] := blk_st k8 9 v9
  have k10 : Blk (((((((((((W.setCell ⟨g, 0, none⟩ v0).setCell ⟨g, 1, none⟩ v1).setCell ⟨g, 2, none⟩ v2).setCell ⟨g, 3, none⟩ v3).setCell ⟨g, 4, none⟩ v4).setCell ⟨g, 5, none⟩ v5).setCell ⟨g, 6, none⟩ v6).setCell ⟨g, 7, none⟩ v7).setCell ⟨g, 8, none⟩ v8).setCell ⟨g, 9, none⟩ v9).setCell ⟨g, 10, none⟩ v10) g te #[v0, v1, v2, v3, v4, v5, v6, v7, v8, v9, v10] := blk_st k9 10 v10
  exact k10
theorem st11_below {B : Nat} {w0 W : World} {g : Nat} {v0 v1 v2 v3 v4 v5 v6 v7 v8 v9 v10 : Value} (hb : Below B w0 W) (hg : B ≤ g) : Below B w0 (st11 W g v0 v1 v2 v3 v4 v5 v6 v7 v8 v9 v10) := (((((((((((hb.setCell (p := ⟨g, 0, none⟩) hg v0).setCell (p := ⟨g, 1, none⟩) hg v1).setCell (p := ⟨g, 2, none⟩) hg v2).setCell (p := ⟨g, 3, none⟩) hg v3).setCell (p := ⟨g, 4, none⟩) hg v4).setCell (p := ⟨g, 5, none⟩) hg v5).setCell (p := ⟨g, 6, none⟩) hg v6).setCell (p := ⟨g, 7, none⟩) hg v7).setCell (p := ⟨g, 8, none⟩) hg v8).setCell (p := ⟨g, 9, none⟩) hg v9).setCell (p := ⟨g, 10, none⟩) hg v10)
theorem st11_far {W : World} {g k : Nat} {te : TypeId} {cs : Array Value} {v0 v1 v2 v3 v4 v5 v6 v7 v8 v9 v10 : Value} (h : Blk W k te cs) (hne : k ≠ g) : Blk (st11 W g v0 v1 v2 v3 v4 v5 v6 v7 v8 v9 v10) k te cs := by
  unfold st11
  exact (far_st (far_st (far_st (far_st (far_st (far_st (far_st (far_st (far_st (far_st (far_st h hne v0) hne v1) hne v2) hne v3) hne v4) hne v5) hne v6) hne v7) hne v8) hne v9) hne v10)
theorem z11_of {W : World} {g : Nat} {te : TypeId} {v0 v1 v2 v3 v4 v5 v6 v7 v8 v9 v10 : Value} (h : Blk W g te #[v0, v1, v2, v3, v4, v5, v6, v7, v8, v9, v10]) : W.cell? ⟨g, 0, none⟩ = some v0 ∧ W.cell? ⟨g, 1, none⟩ = some v1 ∧ W.cell? ⟨g, 2, none⟩ = some v2 ∧ W.cell? ⟨g, 3, none⟩ = some v3 ∧ W.cell? ⟨g, 4, none⟩ = some v4 ∧ W.cell? ⟨g, 5, none⟩ = some v5 ∧ W.cell? ⟨g, 6, none⟩ = some v6 ∧ W.cell? ⟨g, 7, none⟩ = some v7 ∧ W.cell? ⟨g, 8, none⟩ = some v8 ∧ W.cell? ⟨g, 9, none⟩ = some v9 ∧ W.cell? ⟨g, 10, none⟩ = some v10 ∧ W.frozen? ⟨g, 0, none⟩ = false ∧ W.frozen? ⟨g, 1, none⟩ = false ∧ W.frozen? ⟨g, 2, none⟩ = false ∧ W.frozen? ⟨g, 3, none⟩ = false ∧ W.frozen? ⟨g, 4, none⟩ = false ∧ W.frozen? ⟨g, 5, none⟩ = false ∧ W.frozen? ⟨g, 6, none⟩ = false ∧ W.frozen? ⟨g, 7, none⟩ = false ∧ W.frozen? ⟨g, 8, none⟩ = false ∧ W.frozen? ⟨g, 9, none⟩ = false ∧ W.frozen? ⟨g, 10, none⟩ = false := ⟨h.cell 0, h.cell 1, h.cell 2, h.cell 3, h.cell 4, h.cell 5, h.cell 6, h.cell 7, h.cell 8, h.cell 9, h.cell 10, h.thaw 0, h.thaw 1, h.thaw 2, h.thaw 3, h.thaw 4, h.thaw 5, h.thaw 6, h.thaw 7, h.thaw 8, h.thaw 9, h.thaw 10⟩
theorem q11_of {W : World} {g : Nat} {te : TypeId} {v0 v1 v2 v3 v4 v5 v6 v7 v8 v9 v10 : Value} (h : Blk W g te #[v0, v1, v2, v3, v4, v5, v6, v7, v8, v9, v10]) : W.cell? ⟨g, 0, none⟩ = some v0 ∧ W.cell? ⟨g, 1, none⟩ = some v1 ∧ W.cell? ⟨g, 2, none⟩ = some v2 ∧ W.cell? ⟨g, 3, none⟩ = some v3 ∧ W.cell? ⟨g, 4, none⟩ = some v4 ∧ W.cell? ⟨g, 5, none⟩ = some v5 ∧ W.cell? ⟨g, 6, none⟩ = some v6 ∧ W.cell? ⟨g, 7, none⟩ = some v7 ∧ W.cell? ⟨g, 8, none⟩ = some v8 ∧ W.cell? ⟨g, 9, none⟩ = some v9 ∧ W.cell? ⟨g, 10, none⟩ = some v10 := ⟨h.cell 0, h.cell 1, h.cell 2, h.cell 3, h.cell 4, h.cell 5, h.cell 6, h.cell 7, h.cell 8, h.cell 9, h.cell 10⟩
end Go.Proofs.Ytjabfbeioapiaaa.Stk
