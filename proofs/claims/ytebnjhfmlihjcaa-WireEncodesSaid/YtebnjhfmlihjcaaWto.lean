/- Contracts: a message of the reference's as the program has it, and back. No condition. -/
import Derived.Test.YtebnjhfmlihjcaaWfi
namespace Go.Proofs.Ytebnjhfmlihjcaa.Wto
set_option maxRecDepth 100000
open Go.ChangeShapes Go.WideShapes Go.ChangeAt Go.RowKit Mem Tre Ref3 Law3 Fix3 CrdB CrdC Rr4 Rul3 Wpl Wmr Wrt St7 Rul6 Wfi
set_option linter.unusedVariables false
set_option linter.unusedSimpArgs false

set_option maxHeartbeats 8000000 in
theorem to_any (m : M) (w : World) : Calls Try.prog 9 #[mvl m] w (MadeM m w) := by
  obtain ⟨k, a, s, x, p, q, n, t, i, y, z, v⟩ := m
  show Calls Try.prog 9 #[.agg #[.int .i64 k, .int .i64 a, .int .i64 s, .bool x, .int .i64 p, .int .i64 q, .int .i64 n, .int .i64 t, .int .i64 i, .int .i64 y, .int .i64 z, .int .i64 v]] w (MadeM ⟨k, a, s, x, p, q, n, t, i, y, z, v⟩ w)
  have b0 : Hid (Below w.heap.size w ((w.alloc (.cells #[.int .i64 k, .int .i64 a, .int .i64 s, .bool x, .int .i64 p, .int .i64 q, .int .i64 n, .int .i64 t, .int .i64 i, .int .i64 y, .int .i64 z, .int .i64 v] 25)).alloc (.cells #[.int .i64 0, .int .i64 0, .int .i64 0, .bool false, .int .i64 0, .int .i64 0, .int .i64 0, .int .i64 0, .int .i64 0, .int .i64 0, .int .i64 0, .int .i64 0] 30))) := ((Below.refl _ _).alloc (Nat.le_refl _) _).alloc (by simp) _
  have k0 : Hid (Blk ((w.alloc (.cells #[.int .i64 k, .int .i64 a, .int .i64 s, .bool x, .int .i64 p, .int .i64 q, .int .i64 n, .int .i64 t, .int .i64 i, .int .i64 y, .int .i64 z, .int .i64 v] 25)).alloc (.cells #[.int .i64 0, .int .i64 0, .int .i64 0, .bool false, .int .i64 0, .int .i64 0, .int .i64 0, .int .i64 0, .int .i64 0, .int .i64 0, .int .i64 0, .int .i64 0] 30)) w.heap.size 25 #[.int .i64 k, .int .i64 a, .int .i64 s, .bool x, .int .i64 p, .int .i64 q, .int .i64 n, .int .i64 t, .int .i64 i, .int .i64 y, .int .i64 z, .int .i64 v]) := (Blk.fresh w _ _).alloc _
  have zB : Hid (Blk ((w.alloc (.cells #[.int .i64 k, .int .i64 a, .int .i64 s, .bool x, .int .i64 p, .int .i64 q, .int .i64 n, .int .i64 t, .int .i64 i, .int .i64 y, .int .i64 z, .int .i64 v] 25)).alloc (.cells #[.int .i64 0, .int .i64 0, .int .i64 0, .bool false, .int .i64 0, .int .i64 0, .int .i64 0, .int .i64 0, .int .i64 0, .int .i64 0, .int .i64 0, .int .i64 0] 30)) (w.heap.size + 1) 30 #[.int .i64 0, .int .i64 0, .int .i64 0, .bool false, .int .i64 0, .int .i64 0, .int .i64 0, .int .i64 0, .int .i64 0, .int .i64 0, .int .i64 0, .int .i64 0]) := blk_at (by simp)
  go_enter Try.func9, Try.ntmps9
  go_upto_region 1 with fail
  generalize ((w.alloc (.cells #[.int .i64 k, .int .i64 a, .int .i64 s, .bool x, .int .i64 p, .int .i64 q, .int .i64 n, .int .i64 t, .int .i64 i, .int .i64 y, .int .i64 z, .int .i64 v] 25)).alloc (.cells #[.int .i64 0, .int .i64 0, .int .i64 0, .bool false, .int .i64 0, .int .i64 0, .int .i64 0, .int .i64 0, .int .i64 0, .int .i64 0, .int .i64 0, .int .i64 0] 30)) = w0 at b0 k0 zB ⊢
  have hg : Hid (w.heap.size ≤ w.heap.size + 1) := by show _ ≤ _; omega
  have n1 : w.heap.size ≠ w.heap.size + 1 := by omega
  have n2 : w.heap.size + 1 ≠ w.heap.size := by omega
  generalize w.heap.size + 1 = gR at zB hg n1 n2 ⊢
  generalize hgM : w.heap.size = gM at k0 n1 n2 ⊢
  clear hgM
  have s0 : w0.cell? ⟨gM, 0, none⟩ = some (.int .i64 k) ∧ w0.cell? ⟨gM, 1, none⟩ = some (.int .i64 a) ∧ w0.cell? ⟨gM, 2, none⟩ = some (.int .i64 s) ∧ w0.cell? ⟨gM, 3, none⟩ = some (.bool x) ∧ w0.cell? ⟨gM, 4, none⟩ = some (.int .i64 p) ∧ w0.cell? ⟨gM, 5, none⟩ = some (.int .i64 q) ∧ w0.cell? ⟨gM, 6, none⟩ = some (.int .i64 n) ∧ w0.cell? ⟨gM, 7, none⟩ = some (.int .i64 t) ∧ w0.cell? ⟨gM, 8, none⟩ = some (.int .i64 i) ∧ w0.cell? ⟨gM, 9, none⟩ = some (.int .i64 y) ∧ w0.cell? ⟨gM, 10, none⟩ = some (.int .i64 z) ∧ w0.cell? ⟨gM, 11, none⟩ = some (.int .i64 v) := c12_of k0.out
  obtain ⟨z0, z1, z2, z3, z4, z5, z6, z7, z8, z9, z10, z11, y0, y1, y2, y3, y4, y5, y6, y7, y8, y9, y10, y11⟩ := z12_of zB.out
  go_region_held3 (fun w' => w'.cell? ⟨gM, 0, none⟩ = some (.int .i64 k) ∧ w'.cell? ⟨gM, 1, none⟩ = some (.int .i64 a) ∧ w'.cell? ⟨gM, 2, none⟩ = some (.int .i64 s) ∧ w'.cell? ⟨gM, 3, none⟩ = some (.bool x) ∧ w'.cell? ⟨gM, 4, none⟩ = some (.int .i64 p) ∧ w'.cell? ⟨gM, 5, none⟩ = some (.int .i64 q) ∧ w'.cell? ⟨gM, 6, none⟩ = some (.int .i64 n) ∧ w'.cell? ⟨gM, 7, none⟩ = some (.int .i64 t) ∧ w'.cell? ⟨gM, 8, none⟩ = some (.int .i64 i) ∧ w'.cell? ⟨gM, 9, none⟩ = some (.int .i64 y) ∧ w'.cell? ⟨gM, 10, none⟩ = some (.int .i64 z) ∧ w'.cell? ⟨gM, 11, none⟩ = some (.int .i64 v))
    (first | go_keep | (with_reducible assumption) | (exact q5))
    (first | (go_at_call 22; refine (order_any a s x p q n t _).mono ?_; rintro e w5 ⟨rfl, hb5⟩; have B5 : Hid (Below w.heap.size w w5) := below_step b0.out.drew hb5; have q5 : w5.cell? ⟨gM, 0, none⟩ = some (.int .i64 k) ∧ w5.cell? ⟨gM, 1, none⟩ = some (.int .i64 a) ∧ w5.cell? ⟨gM, 2, none⟩ = some (.int .i64 s) ∧ w5.cell? ⟨gM, 3, none⟩ = some (.bool x) ∧ w5.cell? ⟨gM, 4, none⟩ = some (.int .i64 p) ∧ w5.cell? ⟨gM, 5, none⟩ = some (.int .i64 q) ∧ w5.cell? ⟨gM, 6, none⟩ = some (.int .i64 n) ∧ w5.cell? ⟨gM, 7, none⟩ = some (.int .i64 t) ∧ w5.cell? ⟨gM, 8, none⟩ = some (.int .i64 i) ∧ w5.cell? ⟨gM, 9, none⟩ = some (.int .i64 y) ∧ w5.cell? ⟨gM, 10, none⟩ = some (.int .i64 z) ∧ w5.cell? ⟨gM, 11, none⟩ = some (.int .i64 v) := c12_of (Blk.below' (show Blk w0.drew gM 25 #[.int .i64 k, .int .i64 a, .int .i64 s, .bool x, .int .i64 p, .int .i64 q, .int .i64 n, .int .i64 t, .int .i64 i, .int .i64 y, .int .i64 z, .int .i64 v] from k0.out) hb5); have Z5 : Hid (Blk w5 gR 30 #[.int .i64 0, .int .i64 0, .int .i64 0, .bool false, .int .i64 0, .int .i64 0, .int .i64 0, .int .i64 0, .int .i64 0, .int .i64 0, .int .i64 0, .int .i64 0]) := Blk.below' (show Blk w0.drew gR 30 #[.int .i64 0, .int .i64 0, .int .i64 0, .bool false, .int .i64 0, .int .i64 0, .int .i64 0, .int .i64 0, .int .i64 0, .int .i64 0, .int .i64 0, .int .i64 0] from zB.out) hb5; have ⟨x0, x1, x2, x3, x4, x5, x6, x7, x8, x9, x10, x11, t0, t1, t2, t3, t4, t5, t6, t7, t8, t9, t10, t11⟩ := z12_of Z5.out))
  have f3 : Blk (st12 w5 gR (.int .i64 k) (.int .i64 a) (.int .i64 s) (.bool x) (.int .i64 p) (.int .i64 q) (.int .i64 n) (.int .i64 t) (.int .i64 i) (.int .i64 y) (.int .i64 z) (.int .i64 v)) gR 30 #[.int .i64 k, .int .i64 a, .int .i64 s, .bool x, .int .i64 p, .int .i64 q, .int .i64 n, .int .i64 t, .int .i64 i, .int .i64 y, .int .i64 z, .int .i64 v] := st12_blk Z5.out
  have hfin : MadeM ⟨k, a, s, x, p, q, n, t, i, y, z, v⟩ w (.returned (.agg #[.int .i64 k, .int .i64 a, .int .i64 s, .bool x, .int .i64 p, .int .i64 q, .int .i64 n, .int .i64 t, .int .i64 i, .int .i64 y, .int .i64 z, .int .i64 v])) (st12 w5 gR (.int .i64 k) (.int .i64 a) (.int .i64 s) (.bool x) (.int .i64 p) (.int .i64 q) (.int .i64 n) (.int .i64 t) (.int .i64 i) (.int .i64 y) (.int .i64 z) (.int .i64 v)) := ⟨rfl, st12_below B5.out hg.out⟩
  go_wp2_with fail
  obtain ⟨d0, d1, d2, d3, d4, d5, d6, d7, d8, d9, d10, d11⟩ := c12_of f3
  unfold st12 at d0 d1 d2 d3 d4 d5 d6 d7 d8 d9 d10 d11 hfin
  exact bodyPost_ret (v := .agg #[.int .i64 k, .int .i64 a, .int .i64 s, .bool x, .int .i64 p, .int .i64 q, .int .i64 n, .int .i64 t, .int .i64 i, .int .i64 y, .int .i64 z, .int .i64 v]) (by simp [results, Try.results9, go_sem, d0, d1, d2, d3, d4, d5, d6, d7, d8, d9, d10, d11]) rfl hfin
set_option maxHeartbeats 8000000 in
theorem from_any (m : M) (w : World) : Calls Try.prog 16 #[mvl m] w (MadeM m w) := by
  obtain ⟨k, a, s, x, p, q, n, t, i, y, z, v⟩ := m
  show Calls Try.prog 16 #[.agg #[.int .i64 k, .int .i64 a, .int .i64 s, .bool x, .int .i64 p, .int .i64 q, .int .i64 n, .int .i64 t, .int .i64 i, .int .i64 y, .int .i64 z, .int .i64 v]] w (MadeM ⟨k, a, s, x, p, q, n, t, i, y, z, v⟩ w)
  go_enter Try.func16, Try.ntmps16
  go_wp2_with fail
  exact bodyPost_ret (v := .agg #[.int .i64 k, .int .i64 a, .int .i64 s, .bool x, .int .i64 p, .int .i64 q, .int .i64 n, .int .i64 t, .int .i64 i, .int .i64 y, .int .i64 z, .int .i64 v]) (by simp [results, Try.results16, go_sem]) rfl ⟨rfl, (((Below.refl _ _).alloc (Nat.le_refl _) _).alloc (by simp) _).alloc (by simp <;> omega) _⟩
end Go.Proofs.Ytebnjhfmlihjcaa.Wto
