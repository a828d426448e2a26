/- Contract: the first message of bytes, by wire, as a plain function of the bytes says. Condition: the bytes lie in memory. -/
import Derived.Test.YtkobldddiedmdaaWrd
namespace Go.Proofs.Ytkobldddiedmdaa.Wfi
set_option maxRecDepth 100000
open Go.ChangeShapes Go.WideShapes Go.ChangeAt Go.RowKit Mem Tre Ref3 Law3 Fix3 CrdB CrdC Rr4 Wpl Wmr Wrt St7 Rul6 Wen Wtk Wrd
set_option linter.unusedVariables false
set_option linter.unusedSimpArgs false

/-- a struct of twelve cells is stored -/
def st12 (W : World) (g : Nat) (q0 q1 q2 q3 q4 q5 q6 q7 q8 q9 q10 q11 : Value) : World := ((((((((((((W.setCell ⟨g, 0, none⟩ (q0)).setCell ⟨g, 1, none⟩ (q1)).setCell ⟨g, 2, none⟩ (q2)).setCell ⟨g, 3, none⟩ (q3)).setCell ⟨g, 4, none⟩ (q4)).setCell ⟨g, 5, none⟩ (q5)).setCell ⟨g, 6, none⟩ (q6)).setCell ⟨g, 7, none⟩ (q7)).setCell ⟨g, 8, none⟩ (q8)).setCell ⟨g, 9, none⟩ (q9)).setCell ⟨g, 10, none⟩ (q10)).setCell ⟨g, 11, none⟩ (q11))
theorem st12_blk {W : World} {g : Nat} {te : TypeId} {e0 e1 e2 e3 e4 e5 e6 e7 e8 e9 e10 e11 q0 q1 q2 q3 q4 q5 q6 q7 q8 q9 q10 q11 : Value} (h : Blk W g te #[e0, e1, e2, e3, e4, e5, e6, e7, e8, e9, e10, e11]) : Blk (st12 W g q0 q1 q2 q3 q4 q5 q6 q7 q8 q9 q10 q11) g te #[q0, q1, q2, q3, q4, q5, q6, q7, q8, q9, q10, q11] := by
  have k0 : Blk (W.setCell ⟨g, 0, none⟩ (q0)) g te #[q0, e1, e2, e3, e4, e5, e6, e7, e8, e9, e10, e11] := blk_set h 0 q0
  have k1 : Blk ((W.setCell ⟨g, 0, none⟩ (q0)).setCell ⟨g, 1, none⟩ (q1)) g te #[q0, q1, e2, e3, e4, e5, e6, e7, e8, e9, e10, e11] := blk_set k0 1 q1
  have k2 : Blk (((W.setCell ⟨g, 0, none⟩ (q0)).setCell ⟨g, 1, none⟩ (q1)).setCell ⟨g, 2, none⟩ (q2)) g te #[q0, q1, q2, e3, e4, e5, e6, e7, e8, e9, e10, e11] := blk_set k1 2 q2
  have k3 : Blk ((((W.setCell ⟨g, 0, none⟩ (q0)).setCell ⟨g, 1, none⟩ (q1)).setCell ⟨g, 2, none⟩ (q2)).setCell ⟨g, 3, none⟩ (q3)) g te #[q0, q1, q2, q3, e4, e5, e6, e7, e8, e9, e10, e11] := blk_set k2 3 q3
  have k4 : Blk (((((W.setCell ⟨g, 0, none⟩ (q0)).setCell ⟨g, 1, none⟩ (q1)).setCell ⟨g, 2, none⟩ (q2)).setCell ⟨g, 3, none⟩ (q3)).setCell ⟨g, 4, none⟩ (q4)) g te #[q0, q1, q2, q3, q4, e5, e6, e7, e8, e9, e10, e11] := blk_set k3 4 q4
  have k5 : Blk ((((((W.setCell ⟨g, 0, none⟩ (q0)).setCell ⟨g, 1, none⟩ (q1)).setCell ⟨g, 2, none⟩ (q2)).setCell ⟨g, 3, none⟩ (q3)).setCell ⟨g, 4, none⟩ (q4)).setCell ⟨g, 5, none⟩ (q5)) g te #[q0, q1, q2, q3, q4, q5, e6, e7, e8, e9, e10, e11] := blk_set k4 5 q5
  have k6 : Blk (((((((W.setCell ⟨g, 0, none⟩ (q0)).setCell ⟨g, 1, none⟩ (q1)).setCell ⟨g, 2, none⟩ (q2)).setCell ⟨g, 3, none⟩ (q3)).setCell ⟨g, 4, none⟩ (q4)).setCell ⟨g, 5, none⟩ (q5)).setCell ⟨g, 6, none⟩ (q6)) g te #[q0, q1, q2, q3, q4, q5, q6, e7, e8, e9, e10, e11] := blk_set k5 6 q6
  have k7 : Blk ((((((((W.setCell ⟨g, 0, none⟩ (q0)).setCell ⟨g, 1, none⟩ (q1)).setCell ⟨g, 2, none⟩ (q2)).setCell ⟨g, 3, none⟩ (q3)).setCell ⟨g, 4, none⟩ (q4)).setCell ⟨g, 5, none⟩ (q5)).setCell ⟨g, 6, none⟩ (q6)).setCell ⟨g, 7, none⟩ (q7)) g te #[q0, q1, q2, q3, q4, q5, q6, q7, e8, e9, e10, e11] := blk_set k6 7 q7
  have k8 : Blk (((((((((W.setCell ⟨g, 0, none⟩ (q0)).setCell ⟨g, 1, none⟩ (q1)).setCell ⟨g, 2, none⟩ (q2)).setCell ⟨g, 3, none⟩ (q3)).setCell ⟨g, 4, none⟩ (q4)).setCell ⟨g, 5, none⟩ (q5)).setCell ⟨g, 6, none⟩ (q6)).setCell ⟨g, 7, none⟩ (q7)).setCell ⟨g, 8, none⟩ (q8)) g te #[q0, q1, q2, q3, q4, q5, q6, q7, q8, e9, e10, e11] := blk_set k7 8 q8
  have k9 : Blk ((((((((((W.setCell ⟨g, 0, none⟩ (q0)).setCell ⟨g, 1, none⟩ (q1)).setCell ⟨g, 2, none⟩ (q2)).setCell ⟨g, 3, none⟩ (q3)).setCell ⟨g, 4, none⟩ (q4)).setCell ⟨g, 5, none⟩ (q5)).setCell ⟨g, 6, none⟩ (q6)).setCell ⟨g, 7, none⟩ (q7)).setCell ⟨g, 8, none⟩ (q8)).setCell ⟨g, 9, none⟩ (q9)) g te #[q0, q1, q2, q3, q4, q5, q6, q7, q8, q9, e10, e11] := blk_set k8 9 q9
  have k10 : Blk (((((((((((W.setCell ⟨g, 0, none⟩ (q0)).setCell ⟨g, 1, none⟩ (q1)).setCell ⟨g, 2, none⟩ (q2)).setCell ⟨g, 3, none⟩ (q3)).setCell ⟨g, 4, none⟩ (q4)).setCell ⟨g, 5, none⟩ (q5)).setCell ⟨g, 6, none⟩ (q6)).setCell ⟨g, 7, none⟩ (q7)).setCell ⟨g, 8, none⟩ (q8)).setCell ⟨g, 9, none⟩ (q9)).setCell ⟨g, 10, none⟩ (q10)) g te #[q0, q1, q2, q3, q4, q5, q6, q7, q8, q9, q10, e11] := blk_set k9 10 q10
  have k11 : Blk ((((((((((((W.setCell ⟨g, 0, none⟩ (q0)).setCell ⟨g, 1, none⟩ (q1)).setCell ⟨g, 2, none⟩ (q2)).setCell ⟨g, 3, none⟩ (q3)).setCell ⟨g, 4, none⟩ (q4)).setCell ⟨g, 5, none⟩ (q5)).setCell ⟨g, 6, none⟩ (q6)).setCell ⟨g, 7, none⟩ (q7)).setCell ⟨g, 8, none⟩ (q8)).setCell ⟨g, 9, none⟩ (q9)).setCell ⟨g, 10, none⟩ (q10)).setCell ⟨g, 11, none⟩ (q11)) g te #[q0, q1, q2, q3, q4, q5, q6, q7, q8, q9, q10, q11] := blk_set k10 11 q11
  exact k11
theorem st12_far {W : World} {g gZ : Nat} {te : TypeId} {cs : Array Value} {q0 q1 q2 q3 q4 q5 q6 q7 q8 q9 q10 q11 : Value} (h : Blk W g te cs) (hne : g ≠ gZ) : Blk (st12 W gZ q0 q1 q2 q3 q4 q5 q6 q7 q8 q9 q10 q11) g te cs :=
  blk_far (blk_far (blk_far (blk_far (blk_far (blk_far (blk_far (blk_far (blk_far (blk_far (blk_far (blk_far (h) hne q0) hne q1) hne q2) hne q3) hne q4) hne q5) hne q6) hne q7) hne q8) hne q9) hne q10) hne q11
theorem st12_below {B : Nat} {w0 W : World} {g : Nat} {q0 q1 q2 q3 q4 q5 q6 q7 q8 q9 q10 q11 : Value} (h : Below B w0 W) (hg : B ≤ g) : Below B w0 (st12 W g q0 q1 q2 q3 q4 q5 q6 q7 q8 q9 q10 q11) :=
  Below.setCell (Below.setCell (Below.setCell (Below.setCell (Below.setCell (Below.setCell (Below.setCell (Below.setCell (Below.setCell (Below.setCell (Below.setCell (Below.setCell (h) (p := ⟨g, 0, none⟩) hg q0) (p := ⟨g, 1, none⟩) hg q1) (p := ⟨g, 2, none⟩) hg q2) (p := ⟨g, 3, none⟩) hg q3) (p := ⟨g, 4, none⟩) hg q4) (p := ⟨g, 5, none⟩) hg q5) (p := ⟨g, 6, none⟩) hg q6) (p := ⟨g, 7, none⟩) hg q7) (p := ⟨g, 8, none⟩) hg q8) (p := ⟨g, 9, none⟩) hg q9) (p := ⟨g, 10, none⟩) hg q10) (p := ⟨g, 11, none⟩) hg q11
theorem by_set {W : World} {B g i : Nat} {A : Option Addr} {l : List UInt8} (h : By W B A l) (hB : B ≤ g) (v : Value) : By (W.setCell ⟨g, i, none⟩ v) B A l := by
  rcases h with h | ⟨b, o, hA, hb, hc⟩
  · exact .inl h
  · exact .inr ⟨b, o, hA, hb, fun j u hu => by rw [World.cell?_of_block (w := W) (Below.heap_setCell W _ v b (by show b ≠ g; omega))]; exact hc j u hu⟩
theorem st12_by {W : World} {B g : Nat} {A : Option Addr} {l : List UInt8} {q0 q1 q2 q3 q4 q5 q6 q7 q8 q9 q10 q11 : Value} (h : By W B A l) (hB : B ≤ g) : By (st12 W g q0 q1 q2 q3 q4 q5 q6 q7 q8 q9 q10 q11) B A l :=
  by_set (by_set (by_set (by_set (by_set (by_set (by_set (by_set (by_set (by_set (by_set (by_set (h) hB q0) hB q1) hB q2) hB q3) hB q4) hB q5) hB q6) hB q7) hB q8) hB q9) hB q10) hB q11
theorem st12_size {W : World} {g : Nat} {q0 q1 q2 q3 q4 q5 q6 q7 q8 q9 q10 q11 : Value} : (st12 W g q0 q1 q2 q3 q4 q5 q6 q7 q8 q9 q10 q11).heap.size = W.heap.size := by simp [st12]

theorem z12_of {W : World} {g : Nat} {te : TypeId} {v0 v1 v2 v3 v4 v5 v6 v7 v8 v9 v10 v11 : Value} (h : Blk W g te #[v0, v1, v2, v3, v4, v5, v6, v7, v8, v9, v10, v11]) : W.cell? ⟨g, 0, none⟩ = some v0 ∧ W.cell? ⟨g, 1, none⟩ = some v1 ∧ W.cell? ⟨g, 2, none⟩ = some v2 ∧ W.cell? ⟨g, 3, none⟩ = some v3 ∧ W.cell? ⟨g, 4, none⟩ = some v4 ∧ W.cell? ⟨g, 5, none⟩ = some v5 ∧ W.cell? ⟨g, 6, none⟩ = some v6 ∧ W.cell? ⟨g, 7, none⟩ = some v7 ∧ W.cell? ⟨g, 8, none⟩ = some v8 ∧ W.cell? ⟨g, 9, none⟩ = some v9 ∧ W.cell? ⟨g, 10, none⟩ = some v10 ∧ W.cell? ⟨g, 11, none⟩ = some v11 ∧ W.frozen? ⟨g, 0, none⟩ = false ∧ W.frozen? ⟨g, 1, none⟩ = false ∧ W.frozen? ⟨g, 2, none⟩ = false ∧ W.frozen? ⟨g, 3, none⟩ = false ∧ W.frozen? ⟨g, 4, none⟩ = false ∧ W.frozen? ⟨g, 5, none⟩ = false ∧ W.frozen? ⟨g, 6, none⟩ = false ∧ W.frozen? ⟨g, 7, none⟩ = false ∧ W.frozen? ⟨g, 8, none⟩ = false ∧ W.frozen? ⟨g, 9, none⟩ = false ∧ W.frozen? ⟨g, 10, none⟩ = false ∧ W.frozen? ⟨g, 11, none⟩ = false :=
  ⟨h.cell 0, h.cell 1, h.cell 2, h.cell 3, h.cell 4, h.cell 5, h.cell 6, h.cell 7, h.cell 8, h.cell 9, h.cell 10, h.cell 11, h.thaw 0, h.thaw 1, h.thaw 2, h.thaw 3, h.thaw 4, h.thaw 5, h.thaw 6, h.thaw 7, h.thaw 8, h.thaw 9, h.thaw 10, h.thaw 11⟩
theorem blk_drew {W : World} {g : Nat} {te : TypeId} {cs : Array Value} (h : Blk W g te cs) : Blk W.drew g te cs := h
theorem by_drew {W : World} {B : Nat} {A : Option Addr} {l : List UInt8} (h : By W B A l) : By W.drew B A l := h
/-- the first message of bytes: what a reader takes of them -/
def FirR (l : List UInt8) (m : M) (l' : List UInt8) (bad : Bool) : Prop :=
  ∃ r0 : Int × List UInt8 × Bool, r0 = takS 1 6 l false ∧
  ((r0.1 = 0 ∧ ∃ a s x p q n t, OrdR r0.2.1 r0.2.2 a s x p q n t l' bad ∧ m = ⟨r0.1, a, s, x, p, q, n, t, 0, 0, 0, 0⟩) ∨
   ((r0.1 = 1 ∨ r0.1 = 3) ∧ ∃ r1, r1 = takS 4 4294967295 r0.2.1 r0.2.2 ∧ m = ⟨r0.1, 0, 0, false, 0, 0, 0, 0, r1.1, 0, 0, 0⟩ ∧ l' = r1.2.1 ∧ bad = r1.2.2) ∨
   (r0.1 = 2 ∧ ∃ r1 r2, r1 = takS 4 4294967295 r0.2.1 r0.2.2 ∧ r2 = takS 8 9223372036854775807 r1.2.1 r1.2.2 ∧ m = ⟨r0.1, 0, 0, false, 0, 0, 0, 0, r1.1, r2.1, 0, 0⟩ ∧ l' = r2.2.1 ∧ bad = r2.2.2) ∨
   (r0.1 = 6 ∧ ∃ r1 r2, r1 = takS 2 65535 r0.2.1 r0.2.2 ∧ r2 = takS 8 9223372036854775807 r1.2.1 r1.2.2 ∧ m = ⟨r0.1, 0, 0, false, 0, 0, 0, 0, 0, 0, r1.1, r2.1⟩ ∧ l' = r2.2.1 ∧ bad = r2.2.2) ∨
   ((r0.1 ≠ 0 ∧ r0.1 ≠ 1 ∧ r0.1 ≠ 3 ∧ r0.1 ≠ 2 ∧ r0.1 ≠ 6) ∧ m = ⟨r0.1, 0, 0, false, 0, 0, 0, 0, 0, 0, 0, 0⟩ ∧ l' = r0.2.1 ∧ bad = r0.2.2))
def MadeFi (B : Nat) (l : List UInt8) (w : World) (e : Ending) (w' : World) : Prop :=
  ∃ m l' bad A c, FirR l m l' bad ∧ e = .returned (.tuple #[mvl m, .slice A l'.length c, .bool (!bad)]) ∧ By w' B A l' ∧ l'.length ≤ c ∧ (c : Int) ≤ 9223372036854775807 ∧ l'.length ≤ 1000000 ∧ Below w.heap.size w w'
structure Fst (B : Nat) (w W : World) (gD gR gM : Nat) (cs : Array Value) (l : List UInt8) (bad : Bool) : Prop where
  rdr : Rdr W gD B 54 l bad
  var : Blk W gM 28 cs
  res : Blk W gR 28 #[.int .i64 0, .int .i64 0, .int .i64 0, .bool false, .int .i64 0, .int .i64 0, .int .i64 0, .int .i64 0, .int .i64 0, .int .i64 0, .int .i64 0, .int .i64 0]
  bl : Below w.heap.size w W
  h1 : gR = w.heap.size
  h2 : gR < gD
  h3 : gD < gM
  h4 : B ≤ w.heap.size
theorem Fst.step {B : Nat} {w W W' : World} {gD gR gM : Nat} {cs : Array Value} {l l' : List UInt8} {bad bad' : Bool} (h : Fst B w W gD gR gM cs l bad) (hr : Rdr W' gD B 54 l' bad') (hg : W.grownBy W' (some gD)) : Fst B w W' gD gR gM cs l' bad' :=
  ⟨hr, Blk_grown h.var hg (by have := h.h3; intro e; have := Option.some.inj e; omega), Blk_grown h.res hg (by have := h.h2; intro e; have := Option.some.inj e; omega), h.bl.grown hg h.bl.size (fun k hk => by have := Option.some.inj hk; have := h.h1; have := h.h2; omega), h.h1, h.h2, h.h3, h.h4⟩
theorem Fst.put {B : Nat} {w W : World} {gD gR gM : Nat} {cs : Array Value} {l : List UInt8} {bad : Bool} (h : Fst B w W gD gR gM cs l bad) (i : Nat) (v : Value) : Fst B w (W.setCell ⟨gM, i, none⟩ v) gD gR gM (cs.setIfInBounds i v) l bad :=
  ⟨h.rdr.far h.h3 v, blk_set h.var i v, blk_far h.res (by have := h.h2; have := h.h3; show gR ≠ gM; omega) v, h.bl.setCell (p := ⟨gM, i, none⟩) (by have := h.h1; have := h.h2; have := h.h3; show w.heap.size ≤ gM; omega) v, h.h1, h.h2, h.h3, h.h4⟩
set_option maxHeartbeats 8000000 in
theorem first_any (B : Nat) (A : Option Addr) (c : Nat) (l : List UInt8) (w : World) (hl : l.length ≤ 1000000) (hlc : l.length ≤ c) (hc : (c : Int) ≤ 9223372036854775807) (hB : B ≤ w.heap.size) (hr : Hid (By w B A l)) :
    Calls Try.prog 15 #[.slice A l.length c] w (MadeFi B l w) := by
  have k0 : Hid (Rdr ((w.alloc (.cells #[.int .i64 0, .int .i64 0, .int .i64 0, .bool false, .int .i64 0, .int .i64 0, .int .i64 0, .int .i64 0, .int .i64 0, .int .i64 0, .int .i64 0, .int .i64 0] 28)).alloc (.cells #[.slice A l.length c, .bool false] 54)) (w.heap.size + 1) B 54 l false) := ⟨A, c, blk_at (by simp), by omega, Rd.keep hr.out (fun p hp => by rw [World.cell?_alloc_lt _ _ _ (by simp; omega), World.cell?_alloc_lt _ _ _ (by omega)]), hlc, hc, hl⟩
  have z0 : Hid (Blk ((w.alloc (.cells #[.int .i64 0, .int .i64 0, .int .i64 0, .bool false, .int .i64 0, .int .i64 0, .int .i64 0, .int .i64 0, .int .i64 0, .int .i64 0, .int .i64 0, .int .i64 0] 28)).alloc (.cells #[.slice A l.length c, .bool false] 54)) w.heap.size 28 #[.int .i64 0, .int .i64 0, .int .i64 0, .bool false, .int .i64 0, .int .i64 0, .int .i64 0, .int .i64 0, .int .i64 0, .int .i64 0, .int .i64 0, .int .i64 0]) := (Blk.fresh w _ _).alloc _
  have b0 : Hid (Below w.heap.size w ((w.alloc (.cells #[.int .i64 0, .int .i64 0, .int .i64 0, .bool false, .int .i64 0, .int .i64 0, .int .i64 0, .int .i64 0, .int .i64 0, .int .i64 0, .int .i64 0, .int .i64 0] 28)).alloc (.cells #[.slice A l.length c, .bool false] 54))) := ((Below.refl _ _).alloc (Nat.le_refl _) _).alloc (by simp) _
  go_enter Try.func15, Try.ntmps15
  go_upto_region 2 with fail
  generalize (w.alloc (.cells #[.int .i64 0, .int .i64 0, .int .i64 0, .bool false, .int .i64 0, .int .i64 0, .int .i64 0, .int .i64 0, .int .i64 0, .int .i64 0, .int .i64 0, .int .i64 0] 28)).alloc (.cells #[.slice A l.length c, .bool false] 54) = W0 at k0 z0 b0 ⊢
  go_wp2_with fail
  refine (take_r (w.heap.size + 1) B l false 1 6 _ (by omega) (by omega) (by omega) k0.out).mono ?_
  rintro e w1 ⟨rfl, r1, g1⟩
  generalize ht1 : takS 1 6 l false = T1 at r1 ⊢
  have HT1 := Lib.hid ht1
  obtain ⟨v0, l1, b1⟩ := T1
  have M0 : Hid (Fst B w (w1.alloc (.cells #[.int .i64 v0, .int .i64 0, .int .i64 0, .bool false, .int .i64 0, .int .i64 0, .int .i64 0, .int .i64 0, .int .i64 0, .int .i64 0, .int .i64 0, .int .i64 0] 28)) (w.heap.size + 1) w.heap.size w1.heap.size #[.int .i64 v0, .int .i64 0, .int .i64 0, .bool false, .int .i64 0, .int .i64 0, .int .i64 0, .int .i64 0, .int .i64 0, .int .i64 0, .int .i64 0, .int .i64 0] l1 b1) := by
    obtain ⟨A', c', hb, hBd, hby, r⟩ := r1
    have hlt := hb.lt
    refine ⟨⟨A', c', hb.alloc _, hBd, Rd.keep hby (fun p hp => World.cell?_alloc_lt _ _ _ (by omega)), r⟩, Blk.fresh _ _ _, (Blk_grown z0.out g1 (by intro e; have := Option.some.inj e; omega)).alloc _, ?_, rfl, by omega, hlt, hB⟩
    have hb2 : Below w.heap.size w w1 := b0.out.grown g1 b0.out.size (fun k hk => by have := Option.some.inj hk; omega)
    exact hb2.alloc hb2.size _
  clear ht1 r1 g1 k0 z0 b0
  go_upto_region 3 with fail
  generalize w1.alloc (.cells #[.int .i64 v0, .int .i64 0, .int .i64 0, .bool false, .int .i64 0, .int .i64 0, .int .i64 0, .int .i64 0, .int .i64 0, .int .i64 0, .int .i64 0, .int .i64 0] 28) = w2 at M0 ⊢
  generalize w1.heap.size = gM at M0 ⊢
  generalize w.heap.size + 1 = gD at M0 ⊢
  have hgR := Lib.hid M0.out.h1
  generalize hgr : w.heap.size = gR at M0 ⊢
  clear hgr
  obtain ⟨j0, j1, j2, j3, j4, j5, j6, j7, j8, j9, j10, j11⟩ := c12_of M0.out.var
  by_cases k0 : v0 = 0
  · have q0 : (v0 == 0) = true := beq_iff_eq.2 k0
    have KK := Lib.hid k0
    clear k0
    go_wp2_with fail
    refine (order_r gD B l1 b1 _ M0.out.rdr).mono ?_
    rintro e w3 ⟨a, s, x, p, q, n, t, l2, b2, hO, rfl, r3, g3⟩
    have M1 : Hid (Fst B w w3 gD gR gM #[.int .i64 v0, .int .i64 0, .int .i64 0, .bool false, .int .i64 0, .int .i64 0, .int .i64 0, .int .i64 0, .int .i64 0, .int .i64 0, .int .i64 0, .int .i64 0] l2 b2) := M0.out.step r3 g3
    clear j0 j1 j2 j3 j4 j5 j6 j7 j8 j9 j10 j11 r3 g3 M0
    obtain ⟨z0, z1, z2, z3, z4, z5, z6, z7, z8, z9, z10, z11, y0, y1, y2, y3, y4, y5, y6, y7, y8, y9, y10, y11⟩ := z12_of M1.out.var
    have M2 : Hid (Fst B w (((((((w3.setCell ⟨gM, 1, none⟩ (.int .i64 a)).setCell ⟨gM, 2, none⟩ (.int .i64 s)).setCell ⟨gM, 3, none⟩ (.bool x)).setCell ⟨gM, 4, none⟩ (.int .i64 p)).setCell ⟨gM, 5, none⟩ (.int .i64 q)).setCell ⟨gM, 6, none⟩ (.int .i64 n)).setCell ⟨gM, 7, none⟩ (.int .i64 t)) gD gR gM #[.int .i64 v0, .int .i64 a, .int .i64 s, .bool x, .int .i64 p, .int .i64 q, .int .i64 n, .int .i64 t, .int .i64 0, .int .i64 0, .int .i64 0, .int .i64 0] l2 b2) := ((((((M1.out.put 1 _).put 2 _).put 3 _).put 4 _).put 5 _).put 6 _).put 7 _
    go_upto_region 15 with fail
    clear z0 z1 z2 z3 z4 z5 z6 z7 z8 z9 z10 z11 y0 y1 y2 y3 y4 y5 y6 y7 y8 y9 y10 y11 M1
    generalize (((((((w3.setCell ⟨gM, 1, none⟩ (.int .i64 a)).setCell ⟨gM, 2, none⟩ (.int .i64 s)).setCell ⟨gM, 3, none⟩ (.bool x)).setCell ⟨gM, 4, none⟩ (.int .i64 p)).setCell ⟨gM, 5, none⟩ (.int .i64 q)).setCell ⟨gM, 6, none⟩ (.int .i64 n)).setCell ⟨gM, 7, none⟩ (.int .i64 t)) = wF at M2 ⊢
    obtain ⟨A5, c5, hb5, hB5, hby5, hlc5, hc5, hl5⟩ := M2.out.rdr
    have d0 : wF.cell? ⟨gD, 0, none⟩ = some (.slice A5 l2.length c5) := hb5.cell 0
    have d1 : wF.cell? ⟨gD, 1, none⟩ = some (.bool b2) := hb5.cell 1
    obtain ⟨i0, i1, i2, i3, i4, i5, i6, i7, i8, i9, i10, i11⟩ := c12_of M2.out.var
    obtain ⟨z0, z1, z2, z3, z4, z5, z6, z7, z8, z9, z10, z11, y0, y1, y2, y3, y4, y5, y6, y7, y8, y9, y10, y11⟩ := z12_of M2.out.res
    have n1 : gR ≠ gD := by have := M2.out.h2; omega
    have n2 : gD ≠ gR := by have := M2.out.h2; omega
    have n3 : gR ≠ gM := by have := M2.out.h2; have := M2.out.h3; omega
    have n4 : gM ≠ gR := by have := M2.out.h2; have := M2.out.h3; omega
    go_wp2_with fail
    go_region
    have hgw : w.heap.size ≤ gR := by have := M2.out.h1; omega
    have f1 : By (st12 wF gR (.int .i64 v0) (.int .i64 a) (.int .i64 s) (.bool x) (.int .i64 p) (.int .i64 q) (.int .i64 n) (.int .i64 t) (.int .i64 0) (.int .i64 0) (.int .i64 0) (.int .i64 0)) B A5 l2 := st12_by hby5 (Nat.le_trans M2.out.h4 hgw)
    have f2 : Below w.heap.size w (st12 wF gR (.int .i64 v0) (.int .i64 a) (.int .i64 s) (.bool x) (.int .i64 p) (.int .i64 q) (.int .i64 n) (.int .i64 t) (.int .i64 0) (.int .i64 0) (.int .i64 0) (.int .i64 0)) := st12_below M2.out.bl hgw
    have f3 : Blk (st12 wF gR (.int .i64 v0) (.int .i64 a) (.int .i64 s) (.bool x) (.int .i64 p) (.int .i64 q) (.int .i64 n) (.int .i64 t) (.int .i64 0) (.int .i64 0) (.int .i64 0) (.int .i64 0)) gR 28 #[.int .i64 v0, .int .i64 a, .int .i64 s, .bool x, .int .i64 p, .int .i64 q, .int .i64 n, .int .i64 t, .int .i64 0, .int .i64 0, .int .i64 0, .int .i64 0] := st12_blk M2.out.res
    have hfin : MadeFi B l w (.returned (.tuple #[.agg #[.int .i64 v0, .int .i64 a, .int .i64 s, .bool x, .int .i64 p, .int .i64 q, .int .i64 n, .int .i64 t, .int .i64 0, .int .i64 0, .int .i64 0, .int .i64 0], .slice A5 l2.length c5, .bool (!b2)])) ((st12 wF gR (.int .i64 v0) (.int .i64 a) (.int .i64 s) (.bool x) (.int .i64 p) (.int .i64 q) (.int .i64 n) (.int .i64 t) (.int .i64 0) (.int .i64 0) (.int .i64 0) (.int .i64 0)).drew) :=
      ⟨⟨v0, a, s, x, p, q, n, t, 0, 0, 0, 0⟩, l2, b2, A5, c5, ⟨_, HT1.out.symm, .inl ⟨KK.out, a, s, x, p, q, n, t, hO, rfl⟩⟩, rfl, by_drew f1, hlc5, hc5, hl5, f2.drew⟩
    go_wp2_with fail
    obtain ⟨c0, c1, c2, c3, c4, c5', c6, c7, c8, c9, c10, c11⟩ := c12_of (blk_drew f3)
    unfold st12 at c0 c1 c2 c3 c4 c5' c6 c7 c8 c9 c10 c11 hfin
    exact bodyPost_ret (v := .tuple #[.agg #[.int .i64 v0, .int .i64 a, .int .i64 s, .bool x, .int .i64 p, .int .i64 q, .int .i64 n, .int .i64 t, .int .i64 0, .int .i64 0, .int .i64 0, .int .i64 0], .slice A5 l2.length c5, .bool (!b2)]) (by simp [results, Try.results15, go_sem, c0, c1, c2, c3, c4, c5', c6, c7, c8, c9, c10, c11]) rfl hfin
  have q0 : (v0 == 0) = false := beq_eq_false_iff_ne.2 k0
  by_cases k1 : v0 = 1
  · have q1 : (v0 == 1) = true := beq_iff_eq.2 k1
    have KK := Lib.hid k1
    clear k1
    go_wp2_with fail
    refine (id_r gD B l1 b1 _ M0.out.rdr).mono ?_
    rintro e w3 ⟨rfl, r3, g3⟩
    generalize ht4 : takS 4 4294967295 l1 b1 = T4 at r3 ⊢
    have HT4 := Lib.hid ht4
    obtain ⟨v4, l2, b2⟩ := T4
    have M1 : Hid (Fst B w w3 gD gR gM #[.int .i64 v0, .int .i64 0, .int .i64 0, .bool false, .int .i64 0, .int .i64 0, .int .i64 0, .int .i64 0, .int .i64 0, .int .i64 0, .int .i64 0, .int .i64 0] l2 b2) := M0.out.step r3 g3
    clear j0 j1 j2 j3 j4 j5 j6 j7 j8 j9 j10 j11 r3 g3 M0 ht4
    have z8 := M1.out.var.cell 8
    have y8 := M1.out.var.thaw 8
    simp only [List.getElem?_toArray, List.getElem?_cons_zero, List.getElem?_cons_succ] at z8
    have M2 : Hid (Fst B w (w3.setCell ⟨gM, 8, none⟩ (.int .i64 v4)) gD gR gM #[.int .i64 v0, .int .i64 0, .int .i64 0, .bool false, .int .i64 0, .int .i64 0, .int .i64 0, .int .i64 0, .int .i64 v4, .int .i64 0, .int .i64 0, .int .i64 0] l2 b2) := M1.out.put 8 _
    go_upto_region 15 with fail
    clear z8 y8 M1
    generalize (w3.setCell ⟨gM, 8, none⟩ (.int .i64 v4)) = wF at M2 ⊢
    obtain ⟨A5, c5, hb5, hB5, hby5, hlc5, hc5, hl5⟩ := M2.out.rdr
    have d0 : wF.cell? ⟨gD, 0, none⟩ = some (.slice A5 l2.length c5) := hb5.cell 0
    have d1 : wF.cell? ⟨gD, 1, none⟩ = some (.bool b2) := hb5.cell 1
    obtain ⟨i0, i1, i2, i3, i4, i5, i6, i7, i8, i9, i10, i11⟩ := c12_of M2.out.var
    obtain ⟨z0, z1, z2, z3, z4, z5, z6, z7, z8, z9, z10, z11, y0, y1, y2, y3, y4, y5, y6, y7, y8, y9, y10, y11⟩ := z12_of M2.out.res
    have n1 : gR ≠ gD := by have := M2.out.h2; omega
    have n2 : gD ≠ gR := by have := M2.out.h2; omega
    have n3 : gR ≠ gM := by have := M2.out.h2; have := M2.out.h3; omega
    have n4 : gM ≠ gR := by have := M2.out.h2; have := M2.out.h3; omega
    go_wp2_with fail
    go_region
    have hgw : w.heap.size ≤ gR := by have := M2.out.h1; omega
    have f1 : By (st12 wF gR (.int .i64 v0) (.int .i64 0) (.int .i64 0) (.bool false) (.int .i64 0) (.int .i64 0) (.int .i64 0) (.int .i64 0) (.int .i64 v4) (.int .i64 0) (.int .i64 0) (.int .i64 0)) B A5 l2 := st12_by hby5 (Nat.le_trans M2.out.h4 hgw)
    have f2 : Below w.heap.size w (st12 wF gR (.int .i64 v0) (.int .i64 0) (.int .i64 0) (.bool false) (.int .i64 0) (.int .i64 0) (.int .i64 0) (.int .i64 0) (.int .i64 v4) (.int .i64 0) (.int .i64 0) (.int .i64 0)) := st12_below M2.out.bl hgw
    have f3 : Blk (st12 wF gR (.int .i64 v0) (.int .i64 0) (.int .i64 0) (.bool false) (.int .i64 0) (.int .i64 0) (.int .i64 0) (.int .i64 0) (.int .i64 v4) (.int .i64 0) (.int .i64 0) (.int .i64 0)) gR 28 #[.int .i64 v0, .int .i64 0, .int .i64 0, .bool false, .int .i64 0, .int .i64 0, .int .i64 0, .int .i64 0, .int .i64 v4, .int .i64 0, .int .i64 0, .int .i64 0] := st12_blk M2.out.res
    have hfin : MadeFi B l w (.returned (.tuple #[.agg #[.int .i64 v0, .int .i64 0, .int .i64 0, .bool false, .int .i64 0, .int .i64 0, .int .i64 0, .int .i64 0, .int .i64 v4, .int .i64 0, .int .i64 0, .int .i64 0], .slice A5 l2.length c5, .bool (!b2)])) ((st12 wF gR (.int .i64 v0) (.int .i64 0) (.int .i64 0) (.bool false) (.int .i64 0) (.int .i64 0) (.int .i64 0) (.int .i64 0) (.int .i64 v4) (.int .i64 0) (.int .i64 0) (.int .i64 0)).drew) :=
      ⟨⟨v0, 0, 0, false, 0, 0, 0, 0, v4, 0, 0, 0⟩, l2, b2, A5, c5, ⟨_, HT1.out.symm, .inr (.inl ⟨.inl KK.out, _, HT4.out.symm, rfl, rfl, rfl⟩)⟩, rfl, by_drew f1, hlc5, hc5, hl5, f2.drew⟩
    go_wp2_with fail
    obtain ⟨c0, c1, c2, c3, c4, c5', c6, c7, c8, c9, c10, c11⟩ := c12_of (blk_drew f3)
    unfold st12 at c0 c1 c2 c3 c4 c5' c6 c7 c8 c9 c10 c11 hfin
    exact bodyPost_ret (v := .tuple #[.agg #[.int .i64 v0, .int .i64 0, .int .i64 0, .bool false, .int .i64 0, .int .i64 0, .int .i64 0, .int .i64 0, .int .i64 v4, .int .i64 0, .int .i64 0, .int .i64 0], .slice A5 l2.length c5, .bool (!b2)]) (by simp [results, Try.results15, go_sem, c0, c1, c2, c3, c4, c5', c6, c7, c8, c9, c10, c11]) rfl hfin
  have q1 : (v0 == 1) = false := beq_eq_false_iff_ne.2 k1
  by_cases k3 : v0 = 3
  · have q3 : (v0 == 3) = true := beq_iff_eq.2 k3
    have KK := Lib.hid k3
    clear k3
    go_wp2_with fail
    refine (id_r gD B l1 b1 _ M0.out.rdr).mono ?_
    rintro e w3 ⟨rfl, r3, g3⟩
    generalize ht4 : takS 4 4294967295 l1 b1 = T4 at r3 ⊢
    have HT4 := Lib.hid ht4
    obtain ⟨v4, l2, b2⟩ := T4
    have M1 : Hid (Fst B w w3 gD gR gM #[.int .i64 v0, .int .i64 0, .int .i64 0, .bool false, .int .i64 0, .int .i64 0, .int .i64 0, .int .i64 0, .int .i64 0, .int .i64 0, .int .i64 0, .int .i64 0] l2 b2) := M0.out.step r3 g3
    clear j0 j1 j2 j3 j4 j5 j6 j7 j8 j9 j10 j11 r3 g3 M0 ht4
    have z8 := M1.out.var.cell 8
    have y8 := M1.out.var.thaw 8
    simp only [List.getElem?_toArray, List.getElem?_cons_zero, List.getElem?_cons_succ] at z8
    have M2 : Hid (Fst B w (w3.setCell ⟨gM, 8, none⟩ (.int .i64 v4)) gD gR gM #[.int .i64 v0, .int .i64 0, .int .i64 0, .bool false, .int .i64 0, .int .i64 0, .int .i64 0, .int .i64 0, .int .i64 v4, .int .i64 0, .int .i64 0, .int .i64 0] l2 b2) := M1.out.put 8 _
    go_upto_region 15 with fail
    clear z8 y8 M1
    generalize (w3.setCell ⟨gM, 8, none⟩ (.int .i64 v4)) = wF at M2 ⊢
    obtain ⟨A5, c5, hb5, hB5, hby5, hlc5, hc5, hl5⟩ := M2.out.rdr
    have d0 : wF.cell? ⟨gD, 0, none⟩ = some (.slice A5 l2.length c5) := hb5.cell 0
    have d1 : wF.cell? ⟨gD, 1, none⟩ = some (.bool b2) := hb5.cell 1
    obtain ⟨i0, i1, i2, i3, i4, i5, i6, i7, i8, i9, i10, i11⟩ := c12_of M2.out.var
    obtain ⟨z0, z1, z2, z3, z4, z5, z6, z7, z8, z9, z10, z11, y0, y1, y2, y3, y4, y5, y6, y7, y8, y9, y10, y11⟩ := z12_of M2.out.res
    have n1 : gR ≠ gD := by have := M2.out.h2; omega
    have n2 : gD ≠ gR := by have := M2.out.h2; omega
    have n3 : gR ≠ gM := by have := M2.out.h2; have := M2.out.h3; omega
    have n4 : gM ≠ gR := by have := M2.out.h2; have := M2.out.h3; omega
    go_wp2_with fail
    go_region
    have hgw : w.heap.size ≤ gR := by have := M2.out.h1; omega
    have f1 : By (st12 wF gR (.int .i64 v0) (.int .i64 0) (.int .i64 0) (.bool false) (.int .i64 0) (.int .i64 0) (.int .i64 0) (.int .i64 0) (.int .i64 v4) (.int .i64 0) (.int .i64 0) (.int .i64 0)) B A5 l2 := st12_by hby5 (Nat.le_trans M2.out.h4 hgw)
    have f2 : Below w.heap.size w (st12 wF gR (.int .i64 v0) (.int .i64 0) (.int .i64 0) (.bool false) (.int .i64 0) (.int .i64 0) (.int .i64 0) (.int .i64 0) (.int .i64 v4) (.int .i64 0) (.int .i64 0) (.int .i64 0)) := st12_below M2.out.bl hgw
    have f3 : Blk (st12 wF gR (.int .i64 v0) (.int .i64 0) (.int .i64 0) (.bool false) (.int .i64 0) (.int .i64 0) (.int .i64 0) (.int .i64 0) (.int .i64 v4) (.int .i64 0) (.int .i64 0) (.int .i64 0)) gR 28 #[.int .i64 v0, .int .i64 0, .int .i64 0, .bool false, .int .i64 0, .int .i64 0, .int .i64 0, .int .i64 0, .int .i64 v4, .int .i64 0, .int .i64 0, .int .i64 0] := st12_blk M2.out.res
    have hfin : MadeFi B l w (.returned (.tuple #[.agg #[.int .i64 v0, .int .i64 0, .int .i64 0, .bool false, .int .i64 0, .int .i64 0, .int .i64 0, .int .i64 0, .int .i64 v4, .int .i64 0, .int .i64 0, .int .i64 0], .slice A5 l2.length c5, .bool (!b2)])) ((st12 wF gR (.int .i64 v0) (.int .i64 0) (.int .i64 0) (.bool false) (.int .i64 0) (.int .i64 0) (.int .i64 0) (.int .i64 0) (.int .i64 v4) (.int .i64 0) (.int .i64 0) (.int .i64 0)).drew) :=
      ⟨⟨v0, 0, 0, false, 0, 0, 0, 0, v4, 0, 0, 0⟩, l2, b2, A5, c5, ⟨_, HT1.out.symm, .inr (.inl ⟨.inr KK.out, _, HT4.out.symm, rfl, rfl, rfl⟩)⟩, rfl, by_drew f1, hlc5, hc5, hl5, f2.drew⟩
    go_wp2_with fail
    obtain ⟨c0, c1, c2, c3, c4, c5', c6, c7, c8, c9, c10, c11⟩ := c12_of (blk_drew f3)
    unfold st12 at c0 c1 c2 c3 c4 c5' c6 c7 c8 c9 c10 c11 hfin
    exact bodyPost_ret (v := .tuple #[.agg #[.int .i64 v0, .int .i64 0, .int .i64 0, .bool false, .int .i64 0, .int .i64 0, .int .i64 0, .int .i64 0, .int .i64 v4, .int .i64 0, .int .i64 0, .int .i64 0], .slice A5 l2.length c5, .bool (!b2)]) (by simp [results, Try.results15, go_sem, c0, c1, c2, c3, c4, c5', c6, c7, c8, c9, c10, c11]) rfl hfin
  have q3 : (v0 == 3) = false := beq_eq_false_iff_ne.2 k3
  by_cases k2 : v0 = 2
  · have q2 : (v0 == 2) = true := beq_iff_eq.2 k2
    have KK := Lib.hid k2
    clear k2
    go_wp2_with fail
    refine (id_r gD B l1 b1 _ M0.out.rdr).mono ?_
    rintro e w3 ⟨rfl, r3, g3⟩
    generalize ht4 : takS 4 4294967295 l1 b1 = T4 at r3 ⊢
    have HT4 := Lib.hid ht4
    obtain ⟨v4, l2, b2⟩ := T4
    have M1 : Hid (Fst B w w3 gD gR gM #[.int .i64 v0, .int .i64 0, .int .i64 0, .bool false, .int .i64 0, .int .i64 0, .int .i64 0, .int .i64 0, .int .i64 0, .int .i64 0, .int .i64 0, .int .i64 0] l2 b2) := M0.out.step r3 g3
    clear j0 j1 j2 j3 j4 j5 j6 j7 j8 j9 j10 j11 r3 g3 M0 ht4
    have z8 := M1.out.var.cell 8
    have y8 := M1.out.var.thaw 8
    simp only [List.getElem?_toArray, List.getElem?_cons_zero, List.getElem?_cons_succ] at z8
    have M2 : Hid (Fst B w (w3.setCell ⟨gM, 8, none⟩ (.int .i64 v4)) gD gR gM #[.int .i64 v0, .int .i64 0, .int .i64 0, .bool false, .int .i64 0, .int .i64 0, .int .i64 0, .int .i64 0, .int .i64 v4, .int .i64 0, .int .i64 0, .int .i64 0] l2 b2) := M1.out.put 8 _
    clear M1
    go_wp2_with fail
    refine (number_r gD B l2 b2 _ M2.out.rdr).mono ?_
    rintro e w5 ⟨rfl, r5, g5⟩
    generalize ht5 : takS 8 9223372036854775807 l2 b2 = T5 at r5 ⊢
    have HT5 := Lib.hid ht5
    obtain ⟨v5, l3, b3⟩ := T5
    have M3 : Hid (Fst B w w5 gD gR gM #[.int .i64 v0, .int .i64 0, .int .i64 0, .bool false, .int .i64 0, .int .i64 0, .int .i64 0, .int .i64 0, .int .i64 v4, .int .i64 0, .int .i64 0, .int .i64 0] l3 b3) := M2.out.step r5 g5
    clear r5 g5 M2 ht5 z8 y8
    have z9 := M3.out.var.cell 9
    have y9 := M3.out.var.thaw 9
    simp only [List.getElem?_toArray, List.getElem?_cons_zero, List.getElem?_cons_succ] at z9
    have M4 : Hid (Fst B w (w5.setCell ⟨gM, 9, none⟩ (.int .i64 v5)) gD gR gM #[.int .i64 v0, .int .i64 0, .int .i64 0, .bool false, .int .i64 0, .int .i64 0, .int .i64 0, .int .i64 0, .int .i64 v4, .int .i64 v5, .int .i64 0, .int .i64 0] l3 b3) := M3.out.put 9 _
    go_upto_region 15 with fail
    clear z9 y9 M3
    generalize (w5.setCell ⟨gM, 9, none⟩ (.int .i64 v5)) = wF at M4 ⊢
    obtain ⟨A5, c5, hb5, hB5, hby5, hlc5, hc5, hl5⟩ := M4.out.rdr
    have d0 : wF.cell? ⟨gD, 0, none⟩ = some (.slice A5 l3.length c5) := hb5.cell 0
    have d1 : wF.cell? ⟨gD, 1, none⟩ = some (.bool b3) := hb5.cell 1
    obtain ⟨i0, i1, i2, i3, i4, i5, i6, i7, i8, i9, i10, i11⟩ := c12_of M4.out.var
    obtain ⟨z0, z1, z2, z3, z4, z5, z6, z7, z8, z9, z10, z11, y0, y1, y2, y3, y4, y5, y6, y7, y8, y9, y10, y11⟩ := z12_of M4.out.res
    have n1 : gR ≠ gD := by have := M4.out.h2; omega
    have n2 : gD ≠ gR := by have := M4.out.h2; omega
    have n3 : gR ≠ gM := by have := M4.out.h2; have := M4.out.h3; omega
    have n4 : gM ≠ gR := by have := M4.out.h2; have := M4.out.h3; omega
    go_wp2_with fail
    go_region
    have hgw : w.heap.size ≤ gR := by have := M4.out.h1; omega
    have f1 : By (st12 wF gR (.int .i64 v0) (.int .i64 0) (.int .i64 0) (.bool false) (.int .i64 0) (.int .i64 0) (.int .i64 0) (.int .i64 0) (.int .i64 v4) (.int .i64 v5) (.int .i64 0) (.int .i64 0)) B A5 l3 := st12_by hby5 (Nat.le_trans M4.out.h4 hgw)
    have f2 : Below w.heap.size w (st12 wF gR (.int .i64 v0) (.int .i64 0) (.int .i64 0) (.bool false) (.int .i64 0) (.int .i64 0) (.int .i64 0) (.int .i64 0) (.int .i64 v4) (.int .i64 v5) (.int .i64 0) (.int .i64 0)) := st12_below M4.out.bl hgw
    have f3 : Blk (st12 wF gR (.int .i64 v0) (.int .i64 0) (.int .i64 0) (.bool false) (.int .i64 0) (.int .i64 0) (.int .i64 0) (.int .i64 0) (.int .i64 v4) (.int .i64 v5) (.int .i64 0) (.int .i64 0)) gR 28 #[.int .i64 v0, .int .i64 0, .int .i64 0, .bool false, .int .i64 0, .int .i64 0, .int .i64 0, .int .i64 0, .int .i64 v4, .int .i64 v5, .int .i64 0, .int .i64 0] := st12_blk M4.out.res
    have hfin : MadeFi B l w (.returned (.tuple #[.agg #[.int .i64 v0, .int .i64 0, .int .i64 0, .bool false, .int .i64 0, .int .i64 0, .int .i64 0, .int .i64 0, .int .i64 v4, .int .i64 v5, .int .i64 0, .int .i64 0], .slice A5 l3.length c5, .bool (!b3)])) ((st12 wF gR (.int .i64 v0) (.int .i64 0) (.int .i64 0) (.bool false) (.int .i64 0) (.int .i64 0) (.int .i64 0) (.int .i64 0) (.int .i64 v4) (.int .i64 v5) (.int .i64 0) (.int .i64 0)).drew) :=
      ⟨⟨v0, 0, 0, false, 0, 0, 0, 0, v4, v5, 0, 0⟩, l3, b3, A5, c5, ⟨_, HT1.out.symm, .inr (.inr (.inl ⟨KK.out, _, _, HT4.out.symm, HT5.out.symm, rfl, rfl, rfl⟩ ))⟩, rfl, by_drew f1, hlc5, hc5, hl5, f2.drew⟩
    go_wp2_with fail
    obtain ⟨c0, c1, c2, c3, c4, c5', c6, c7, c8, c9, c10, c11⟩ := c12_of (blk_drew f3)
    unfold st12 at c0 c1 c2 c3 c4 c5' c6 c7 c8 c9 c10 c11 hfin
    exact bodyPost_ret (v := .tuple #[.agg #[.int .i64 v0, .int .i64 0, .int .i64 0, .bool false, .int .i64 0, .int .i64 0, .int .i64 0, .int .i64 0, .int .i64 v4, .int .i64 v5, .int .i64 0, .int .i64 0], .slice A5 l3.length c5, .bool (!b3)]) (by simp [results, Try.results15, go_sem, c0, c1, c2, c3, c4, c5', c6, c7, c8, c9, c10, c11]) rfl hfin
  have q2 : (v0 == 2) = false := beq_eq_false_iff_ne.2 k2
  by_cases k6 : v0 = 6
  · have q6 : (v0 == 6) = true := beq_iff_eq.2 k6
    have KK := Lib.hid k6
    clear k6
    go_wp2_with fail
    refine (place_r gD B l1 b1 _ M0.out.rdr).mono ?_
    rintro e w3 ⟨rfl, r3, g3⟩
    generalize ht4 : takS 2 65535 l1 b1 = T4 at r3 ⊢
    have HT4 := Lib.hid ht4
    obtain ⟨v4, l2, b2⟩ := T4
    have M1 : Hid (Fst B w w3 gD gR gM #[.int .i64 v0, .int .i64 0, .int .i64 0, .bool false, .int .i64 0, .int .i64 0, .int .i64 0, .int .i64 0, .int .i64 0, .int .i64 0, .int .i64 0, .int .i64 0] l2 b2) := M0.out.step r3 g3
    clear j0 j1 j2 j3 j4 j5 j6 j7 j8 j9 j10 j11 r3 g3 M0 ht4
    have z8 := M1.out.var.cell 10
    have y8 := M1.out.var.thaw 10
    simp only [List.getElem?_toArray, List.getElem?_cons_zero, List.getElem?_cons_succ] at z8
    have M2 : Hid (Fst B w (w3.setCell ⟨gM, 10, none⟩ (.int .i64 v4)) gD gR gM #[.int .i64 v0, .int .i64 0, .int .i64 0, .bool false, .int .i64 0, .int .i64 0, .int .i64 0, .int .i64 0, .int .i64 0, .int .i64 0, .int .i64 v4, .int .i64 0] l2 b2) := M1.out.put 10 _
    clear M1
    go_wp2_with fail
    refine (number_r gD B l2 b2 _ M2.out.rdr).mono ?_
    rintro e w5 ⟨rfl, r5, g5⟩
    generalize ht5 : takS 8 9223372036854775807 l2 b2 = T5 at r5 ⊢
    have HT5 := Lib.hid ht5
    obtain ⟨v5, l3, b3⟩ := T5
    have M3 : Hid (Fst B w w5 gD gR gM #[.int .i64 v0, .int .i64 0, .int .i64 0, .bool false, .int .i64 0, .int .i64 0, .int .i64 0, .int .i64 0, .int .i64 0, .int .i64 0, .int .i64 v4, .int .i64 0] l3 b3) := M2.out.step r5 g5
    clear r5 g5 M2 ht5 z8 y8
    have z9 := M3.out.var.cell 11
    have y9 := M3.out.var.thaw 11
    simp only [List.getElem?_toArray, List.getElem?_cons_zero, List.getElem?_cons_succ] at z9
    have M4 : Hid (Fst B w (w5.setCell ⟨gM, 11, none⟩ (.int .i64 v5)) gD gR gM #[.int .i64 v0, .int .i64 0, .int .i64 0, .bool false, .int .i64 0, .int .i64 0, .int .i64 0, .int .i64 0, .int .i64 0, .int .i64 0, .int .i64 v4, .int .i64 v5] l3 b3) := M3.out.put 11 _
    go_upto_region 15 with fail
    clear z9 y9 M3
    generalize (w5.setCell ⟨gM, 11, none⟩ (.int .i64 v5)) = wF at M4 ⊢
    obtain ⟨A5, c5, hb5, hB5, hby5, hlc5, hc5, hl5⟩ := M4.out.rdr
    have d0 : wF.cell? ⟨gD, 0, none⟩ = some (.slice A5 l3.length c5) := hb5.cell 0
    have d1 : wF.cell? ⟨gD, 1, none⟩ = some (.bool b3) := hb5.cell 1
    obtain ⟨i0, i1, i2, i3, i4, i5, i6, i7, i8, i9, i10, i11⟩ := c12_of M4.out.var
    obtain ⟨z0, z1, z2, z3, z4, z5, z6, z7, z8, z9, z10, z11, y0, y1, y2, y3, y4, y5, y6, y7, y8, y9, y10, y11⟩ := z12_of M4.out.res
    have n1 : gR ≠ gD := by have := M4.out.h2; omega
    have n2 : gD ≠ gR := by have := M4.out.h2; omega
    have n3 : gR ≠ gM := by have := M4.out.h2; have := M4.out.h3; omega
    have n4 : gM ≠ gR := by have := M4.out.h2; have := M4.out.h3; omega
    go_wp2_with fail
    go_region
    have hgw : w.heap.size ≤ gR := by have := M4.out.h1; omega
    have f1 : By (st12 wF gR (.int .i64 v0) (.int .i64 0) (.int .i64 0) (.bool false) (.int .i64 0) (.int .i64 0) (.int .i64 0) (.int .i64 0) (.int .i64 0) (.int .i64 0) (.int .i64 v4) (.int .i64 v5)) B A5 l3 := st12_by hby5 (Nat.le_trans M4.out.h4 hgw)
    have f2 : Below w.heap.size w (st12 wF gR (.int .i64 v0) (.int .i64 0) (.int .i64 0) (.bool false) (.int .i64 0) (.int .i64 0) (.int .i64 0) (.int .i64 0) (.int .i64 0) (.int .i64 0) (.int .i64 v4) (.int .i64 v5)) := st12_below M4.out.bl hgw
    have f3 : Blk (st12 wF gR (.int .i64 v0) (.int .i64 0) (.int .i64 0) (.bool false) (.int .i64 0) (.int .i64 0) (.int .i64 0) (.int .i64 0) (.int .i64 0) (.int .i64 0) (.int .i64 v4) (.int .i64 v5)) gR 28 #[.int .i64 v0, .int .i64 0, .int .i64 0, .bool false, .int .i64 0, .int .i64 0, .int .i64 0, .int .i64 0, .int .i64 0, .int .i64 0, .int .i64 v4, .int .i64 v5] := st12_blk M4.out.res
    have hfin : MadeFi B l w (.returned (.tuple #[.agg #[.int .i64 v0, .int .i64 0, .int .i64 0, .bool false, .int .i64 0, .int .i64 0, .int .i64 0, .int .i64 0, .int .i64 0, .int .i64 0, .int .i64 v4, .int .i64 v5], .slice A5 l3.length c5, .bool (!b3)])) ((st12 wF gR (.int .i64 v0) (.int .i64 0) (.int .i64 0) (.bool false) (.int .i64 0) (.int .i64 0) (.int .i64 0) (.int .i64 0) (.int .i64 0) (.int .i64 0) (.int .i64 v4) (.int .i64 v5)).drew) :=
      ⟨⟨v0, 0, 0, false, 0, 0, 0, 0, 0, 0, v4, v5⟩, l3, b3, A5, c5, ⟨_, HT1.out.symm, .inr (.inr (.inr (.inl ⟨KK.out, _, _, HT4.out.symm, HT5.out.symm, rfl, rfl, rfl⟩ )))⟩, rfl, by_drew f1, hlc5, hc5, hl5, f2.drew⟩
    go_wp2_with fail
    obtain ⟨c0, c1, c2, c3, c4, c5', c6, c7, c8, c9, c10, c11⟩ := c12_of (blk_drew f3)
    unfold st12 at c0 c1 c2 c3 c4 c5' c6 c7 c8 c9 c10 c11 hfin
    exact bodyPost_ret (v := .tuple #[.agg #[.int .i64 v0, .int .i64 0, .int .i64 0, .bool false, .int .i64 0, .int .i64 0, .int .i64 0, .int .i64 0, .int .i64 0, .int .i64 0, .int .i64 v4, .int .i64 v5], .slice A5 l3.length c5, .bool (!b3)]) (by simp [results, Try.results15, go_sem, c0, c1, c2, c3, c4, c5', c6, c7, c8, c9, c10, c11]) rfl hfin
  have q6 : (v0 == 6) = false := beq_eq_false_iff_ne.2 k6
  have k5 : Hid (v0 ≠ 0 ∧ v0 ≠ 1 ∧ v0 ≠ 3 ∧ v0 ≠ 2 ∧ v0 ≠ 6) := ⟨k0, k1, k3, k2, k6⟩
  clear k0 k1 k3 k2 k6
  go_upto_region 15 with fail
  clear j0 j1 j2 j3 j4 j5 j6 j7 j8 j9 j10 j11
  generalize w2 = wF at M0 ⊢
  obtain ⟨A5, c5, hb5, hB5, hby5, hlc5, hc5, hl5⟩ := M0.out.rdr
  have d0 : wF.cell? ⟨gD, 0, none⟩ = some (.slice A5 l1.length c5) := hb5.cell 0
  have d1 : wF.cell? ⟨gD, 1, none⟩ = some (.bool b1) := hb5.cell 1
  obtain ⟨i0, i1, i2, i3, i4, i5, i6, i7, i8, i9, i10, i11⟩ := c12_of M0.out.var
  obtain ⟨z0, z1, z2, z3, z4, z5, z6, z7, z8, z9, z10, z11, y0, y1, y2, y3, y4, y5, y6, y7, y8, y9, y10, y11⟩ := z12_of M0.out.res
  have n1 : gR ≠ gD := by have := M0.out.h2; omega
  have n2 : gD ≠ gR := by have := M0.out.h2; omega
  have n3 : gR ≠ gM := by have := M0.out.h2; have := M0.out.h3; omega
  have n4 : gM ≠ gR := by have := M0.out.h2; have := M0.out.h3; omega
  go_wp2_with fail
  go_region
  have hgw : w.heap.size ≤ gR := by have := M0.out.h1; omega
  have f1 : By (st12 wF gR (.int .i64 v0) (.int .i64 0) (.int .i64 0) (.bool false) (.int .i64 0) (.int .i64 0) (.int .i64 0) (.int .i64 0) (.int .i64 0) (.int .i64 0) (.int .i64 0) (.int .i64 0)) B A5 l1 := st12_by hby5 (Nat.le_trans M0.out.h4 hgw)
  have f2 : Below w.heap.size w (st12 wF gR (.int .i64 v0) (.int .i64 0) (.int .i64 0) (.bool false) (.int .i64 0) (.int .i64 0) (.int .i64 0) (.int .i64 0) (.int .i64 0) (.int .i64 0) (.int .i64 0) (.int .i64 0)) := st12_below M0.out.bl hgw
  have f3 : Blk (st12 wF gR (.int .i64 v0) (.int .i64 0) (.int .i64 0) (.bool false) (.int .i64 0) (.int .i64 0) (.int .i64 0) (.int .i64 0) (.int .i64 0) (.int .i64 0) (.int .i64 0) (.int .i64 0)) gR 28 #[.int .i64 v0, .int .i64 0, .int .i64 0, .bool false, .int .i64 0, .int .i64 0, .int .i64 0, .int .i64 0, .int .i64 0, .int .i64 0, .int .i64 0, .int .i64 0] := st12_blk M0.out.res
  have hfin : MadeFi B l w (.returned (.tuple #[.agg #[.int .i64 v0, .int .i64 0, .int .i64 0, .bool false, .int .i64 0, .int .i64 0, .int .i64 0, .int .i64 0, .int .i64 0, .int .i64 0, .int .i64 0, .int .i64 0], .slice A5 l1.length c5, .bool (!b1)])) ((st12 wF gR (.int .i64 v0) (.int .i64 0) (.int .i64 0) (.bool false) (.int .i64 0) (.int .i64 0) (.int .i64 0) (.int .i64 0) (.int .i64 0) (.int .i64 0) (.int .i64 0) (.int .i64 0)).drew) :=
    ⟨⟨v0, 0, 0, false, 0, 0, 0, 0, 0, 0, 0, 0⟩, l1, b1, A5, c5, ⟨_, HT1.out.symm, .inr (.inr (.inr (.inr ⟨k5.out, rfl, rfl, rfl⟩)))⟩, rfl, by_drew f1, hlc5, hc5, hl5, f2.drew⟩
  go_wp2_with fail
  obtain ⟨c0, c1, c2, c3, c4, c5', c6, c7, c8, c9, c10, c11⟩ := c12_of (blk_drew f3)
  unfold st12 at c0 c1 c2 c3 c4 c5' c6 c7 c8 c9 c10 c11 hfin
  exact bodyPost_ret (v := .tuple #[.agg #[.int .i64 v0, .int .i64 0, .int .i64 0, .bool false, .int .i64 0, .int .i64 0, .int .i64 0, .int .i64 0, .int .i64 0, .int .i64 0, .int .i64 0, .int .i64 0], .slice A5 l1.length c5, .bool (!b1)]) (by simp [results, Try.results15, go_sem, c0, c1, c2, c3, c4, c5', c6, c7, c8, c9, c10, c11]) rfl hfin
end Go.Proofs.Ytkobldddiedmdaa.Wfi
