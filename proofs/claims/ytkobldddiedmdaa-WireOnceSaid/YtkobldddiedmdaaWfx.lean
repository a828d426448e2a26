/- Contract: the reference's Fix of a message: one that may be, out of any. Condition: its numbers are of 64 bits. -/
import Derived.Test.YtkobldddiedmdaaWmr
import Derived.Test.YtkobldddiedmdaaSt7
import Derived.Test.YtkobldddiedmdaaRul6
import Derived.Test.YtkobldddiedmdaaLat
import Derived.Test.YtkobldddiedmdaaWrt
import Derived.Test.YtkobldddiedmdaaWfi
namespace Go.Proofs.Ytkobldddiedmdaa.Wfx
set_option maxRecDepth 100000
open Go.ChangeShapes Go.WideShapes Go.ChangeAt Go.RowKit Mem Tre Ref3 Law3 Fix3 CrdB Wpl Wmr Wrt St7 Rul6 Lat Wfi
set_option linter.unusedVariables false
set_option linter.unusedSimpArgs false
theorem far {w : World} {g g' : Nat} {te : TypeId} {cs : Array Value} (h : Blk w g te cs) (hne : g ≠ g') {i : Nat} (u : Value) : Blk (w.setCell ⟨g', i, none⟩ u) g te cs :=
  (Below.heap_setCell w ⟨g', i, none⟩ u g hne).trans h
theorem dr {w : World} {g : Nat} {te : TypeId} {cs : Array Value} (h : Blk w g te cs) : Blk w.drew g te cs := h
def bigF (n : Int) : Int := if n < 0 then -(n + 1) else n
theorem big_in {n : Int} (h : inI n) : 0 ≤ bigF n ∧ bigF n ≤ 9223372036854775807 := by unfold inI at h; unfold bigF; split <;> omega
def mdF (x m : Int) : Int := IntKind.i64.wrap ((IntKind.u64.wrap x).tmod m)
theorem md_in (x : Int) (m : Int) (h0 : 0 < m) (h1 : m ≤ 4294967296) : 0 ≤ mdF x m ∧ mdF x m < m := by
  unfold mdF
  rw [wrap_u64, IntKind.wrap_i64, Int.tmod_eq_emod_of_nonneg (Int.emod_nonneg _ (by decide))]
  have e1 := Int.emod_nonneg (x % 18446744073709551616) (show m ≠ 0 by omega)
  have e2 := Int.emod_lt_of_pos (x % 18446744073709551616) h0
  omega
theorem md7 (x : Int) : wrap64 ((IntKind.u64.wrap x).tmod 7) = mdF x 7 := by unfold mdF; first | exact (i64_left _).symm | exact (IntWalk.i64_left _).symm
def fixA (m : M) : M := ⟨mdF m.k 7, mdF m.a 65536, mdF m.s 65536, m.x, bigF m.p, bigF m.q, bigF m.n, bigF m.t, mdF m.i 4294967296, bigF m.y, mdF m.z 65536, bigF m.v⟩
def fixM (m : M) : M := alM (fixA m)
theorem alM_k (m : M) : (alM m).k = m.k := by unfold alM; repeat' split
                                              all_goals rfl
theorem alM_al (m : M) : alM (alM m) = alM m := by
  obtain ⟨k, a, s, x, p, q, n, t, i, y, z, v⟩ := m
  by_cases k0 : k = 0
  · simp [alM, k0]
  · by_cases k1 : k = 1 ∨ k = 3
    · simp [alM, k0, k1]
    · by_cases k2 : k = 2
      · simp [alM, k2]
      · by_cases k6 : k = 6
        · simp [alM, k6]
        · simp [alM, k0, k1, k2, k6]
theorem fix_good {m : M} (h : WfM m) : rightM (fixM m) = true ∧ WfM (fixM m) := by
  obtain ⟨k, a, s, x, p, q, n, t, i, y, z, v⟩ := m
  obtain ⟨wk, wa, ws, wp, wq, wn, wt, wi, wy, wz, wv⟩ := h
  have b1 := big_in wp
  have b2 := big_in wq
  have b3 := big_in wn
  have b4 := big_in wt
  have b5 := big_in wy
  have b6 := big_in wv
  have c1 := md_in k 7 (by omega) (by omega)
  have c2 := md_in a 65536 (by omega) (by omega)
  have c3 := md_in s 65536 (by omega) (by omega)
  have c4 := md_in i 4294967296 (by omega) (by omega)
  have c5 := md_in z 65536 (by omega) (by omega)
  simp only [] at b1 b2 b3 b4 b5 b6
  unfold fixM fixA
  simp only []
  generalize mdF k 7 = k' at *
  generalize mdF a 65536 = a' at *
  generalize mdF s 65536 = s' at *
  generalize mdF i 4294967296 = i' at *
  generalize mdF z 65536 = z' at *
  generalize bigF p = p' at *
  generalize bigF q = q' at *
  generalize bigF n = n' at *
  generalize bigF t = t' at *
  generalize bigF y = y' at *
  generalize bigF v = v' at *
  clear wk wa ws wp wq wn wt wi wy wz wv
  refine ⟨rightM_t ?_ ?_ (alM_al _).symm ?_, ?_⟩
  · rw [alM_k]; exact c1.1
  · rw [alM_k]; show k' ≤ 6; omega
  · unfold fitP alM
    repeat' split
    all_goals simp only [m0]
    all_goals omega
  · unfold WfM inI alM
    repeat' split
    all_goals simp only [m0]
    all_goals omega
theorem big_any (n : Int) (w : World) (h : inI n) : Calls Try.prog 11 #[.int .i64 n] w (fun e w' => e = .returned (.int .i64 (bigF n)) ∧ w = w') := by
  unfold inI at h
  by_cases h0 : n < 0
  · have e : Hid (bigF n = -(n + 1)) := by show _ = _; unfold bigF; rw [if_pos h0]
    have e1 : wrap64 (n + 1) = n + 1 := by unfold wrap64; omega
    have e2 : wrap64 (-(n + 1)) = -(n + 1) := by unfold wrap64; omega
    go_enter Try.func11, Try.ntmps11
    go_wp2
    go_ret
    exact ⟨by rw [e.out]; first | rfl | simp [e1, e2], rfl⟩
  · have e : Hid (bigF n = n) := by show _ = _; unfold bigF; rw [if_neg h0]
    go_enter Try.func11, Try.ntmps11
    go_wp2
    go_ret
    exact ⟨by rw [e.out]; rfl, rfl⟩
set_option maxHeartbeats 16000000 in
theorem fix6_any (m : M) (w : World) (hwf : WfM m) : Calls Try.prog 5 #[mvl m] w (MadeM (fixM m) w) := by
  obtain ⟨k, a, s, x, p, q, n, t, i, y, z, v⟩ := m
  obtain ⟨wk, wa, ws, wp, wq, wn, wt, wi, wy, wz, wv⟩ := hwf
  simp only [] at wk wa ws wp wq wn wt wi wy wz wv
  have HI := Lib.hid (And.intro wp (And.intro wq (And.intro wn (And.intro wt (And.intro wy wv)))))
  clear wk wa ws wp wq wn wt wi wy wz wv
  show Calls Try.prog 5 #[.agg #[.int .i64 k, .int .i64 a, .int .i64 s, .bool x, .int .i64 p, .int .i64 q, .int .i64 n, .int .i64 t, .int .i64 i, .int .i64 y, .int .i64 z, .int .i64 v]] w (MadeM (fixM ⟨k, a, s, x, p, q, n, t, i, y, z, v⟩) w)
  have b0 : Hid (Below w.heap.size w (((w.alloc (.cells #[.int .i64 k, .int .i64 a, .int .i64 s, .bool x, .int .i64 p, .int .i64 q, .int .i64 n, .int .i64 t, .int .i64 i, .int .i64 y, .int .i64 z, .int .i64 v] 32))).alloc (.cells #[.int .i64 0, .int .i64 0, .int .i64 0, .bool false, .int .i64 0, .int .i64 0, .int .i64 0, .int .i64 0, .int .i64 0, .int .i64 0, .int .i64 0, .int .i64 0] 32))) := ((Below.refl _ _).alloc (Nat.le_refl _) _).alloc (by simp) _
  have K0 : Hid (Blk (((w.alloc (.cells #[.int .i64 k, .int .i64 a, .int .i64 s, .bool x, .int .i64 p, .int .i64 q, .int .i64 n, .int .i64 t, .int .i64 i, .int .i64 y, .int .i64 z, .int .i64 v] 32))).alloc (.cells #[.int .i64 0, .int .i64 0, .int .i64 0, .bool false, .int .i64 0, .int .i64 0, .int .i64 0, .int .i64 0, .int .i64 0, .int .i64 0, .int .i64 0, .int .i64 0] 32)) w.heap.size 32 #[.int .i64 k, .int .i64 a, .int .i64 s, .bool x, .int .i64 p, .int .i64 q, .int .i64 n, .int .i64 t, .int .i64 i, .int .i64 y, .int .i64 z, .int .i64 v]) := (Blk.fresh w _ _).alloc _
  have R0 : Hid (Blk (((w.alloc (.cells #[.int .i64 k, .int .i64 a, .int .i64 s, .bool x, .int .i64 p, .int .i64 q, .int .i64 n, .int .i64 t, .int .i64 i, .int .i64 y, .int .i64 z, .int .i64 v] 32))).alloc (.cells #[.int .i64 0, .int .i64 0, .int .i64 0, .bool false, .int .i64 0, .int .i64 0, .int .i64 0, .int .i64 0, .int .i64 0, .int .i64 0, .int .i64 0, .int .i64 0] 32)) (w.heap.size + 1) 32 #[.int .i64 0, .int .i64 0, .int .i64 0, .bool false, .int .i64 0, .int .i64 0, .int .i64 0, .int .i64 0, .int .i64 0, .int .i64 0, .int .i64 0, .int .i64 0]) := blk_at (by simp)
  go_enter Try.func5, Try.ntmps5
  go_upto_region 1 with fail
  generalize (((w.alloc (.cells #[.int .i64 k, .int .i64 a, .int .i64 s, .bool x, .int .i64 p, .int .i64 q, .int .i64 n, .int .i64 t, .int .i64 i, .int .i64 y, .int .i64 z, .int .i64 v] 32))).alloc (.cells #[.int .i64 0, .int .i64 0, .int .i64 0, .bool false, .int .i64 0, .int .i64 0, .int .i64 0, .int .i64 0, .int .i64 0, .int .i64 0, .int .i64 0, .int .i64 0] 32)) = w1 at b0 K0 R0 ⊢
  obtain ⟨gR, hgR⟩ : ∃ g, g = w.heap.size + 1 := ⟨_, rfl⟩
  obtain ⟨gM, hgM⟩ : ∃ g, g = w.heap.size := ⟨_, rfl⟩
  have K1 : Hid (Blk w1 gM 32 #[.int .i64 k, .int .i64 a, .int .i64 s, .bool x, .int .i64 p, .int .i64 q, .int .i64 n, .int .i64 t, .int .i64 i, .int .i64 y, .int .i64 z, .int .i64 v]) := by rw [hgM]; exact K0.out
  have R1 : Hid (Blk w1 gR 32 #[.int .i64 0, .int .i64 0, .int .i64 0, .bool false, .int .i64 0, .int .i64 0, .int .i64 0, .int .i64 0, .int .i64 0, .int .i64 0, .int .i64 0, .int .i64 0]) := by rw [hgR]; exact R0.out
  simp only [← hgR]
  simp only [← hgM]
  have hne : gM ≠ gR := by omega
  have hge : Hid (w.heap.size ≤ gM ∧ w.heap.size ≤ gR) := ⟨by omega, by omega⟩
  clear K0 R0 hgR hgM
  have hlt : gM < w1.heap.size := K1.out.lt
  have hltR : gR < w1.heap.size := R1.out.lt
  obtain ⟨j0, j1, j2, j3, j4, j5, j6, j7, j8, j9, j10, j11⟩ := c12_of K1.out
  have y0 : w1.frozen? ⟨gM, 0, none⟩ = false := K1.out.thaw 0
  have K2 : Hid (Blk (w1.setCell ⟨gM, 0, none⟩ (.int .i64 (wrap64 ((IntKind.u64.wrap k).tmod 7)))) gM 32 #[.int .i64 (wrap64 ((IntKind.u64.wrap k).tmod 7)), .int .i64 a, .int .i64 s, .bool x, .int .i64 p, .int .i64 q, .int .i64 n, .int .i64 t, .int .i64 i, .int .i64 y, .int .i64 z, .int .i64 v]) := blk_set K1.out 0 (.int .i64 (wrap64 ((IntKind.u64.wrap k).tmod 7)))
  have R2 : Hid (Blk (w1.setCell ⟨gM, 0, none⟩ (.int .i64 (wrap64 ((IntKind.u64.wrap k).tmod 7)))) gR 32 #[.int .i64 0, .int .i64 0, .int .i64 0, .bool false, .int .i64 0, .int .i64 0, .int .i64 0, .int .i64 0, .int .i64 0, .int .i64 0, .int .i64 0, .int .i64 0]) := far R1.out hne.symm _
  have B2 : Hid (Below w.heap.size w (w1.setCell ⟨gM, 0, none⟩ (.int .i64 (wrap64 ((IntKind.u64.wrap k).tmod 7))))) := b0.out.setCell (p := ⟨gM, 0, none⟩) hge.out.1 _
  obtain ⟨q0, q1, q2, q3, q4, q5, q6, q7, q8, q9, q10, q11⟩ := c12_of K2.out
  have K3 : Hid (Blk (((w1.setCell ⟨gM, 0, none⟩ (.int .i64 (wrap64 ((IntKind.u64.wrap k).tmod 7))))).alloc (.cells #[.int .i64 a, .int .i64 s, .bool x, .int .i64 p, .int .i64 q, .int .i64 n, .int .i64 t] 30)) gM 32 #[.int .i64 (wrap64 ((IntKind.u64.wrap k).tmod 7)), .int .i64 a, .int .i64 s, .bool x, .int .i64 p, .int .i64 q, .int .i64 n, .int .i64 t, .int .i64 i, .int .i64 y, .int .i64 z, .int .i64 v]) := K2.out.alloc _
  have R3 : Hid (Blk (((w1.setCell ⟨gM, 0, none⟩ (.int .i64 (wrap64 ((IntKind.u64.wrap k).tmod 7))))).alloc (.cells #[.int .i64 a, .int .i64 s, .bool x, .int .i64 p, .int .i64 q, .int .i64 n, .int .i64 t] 30)) gR 32 #[.int .i64 0, .int .i64 0, .int .i64 0, .bool false, .int .i64 0, .int .i64 0, .int .i64 0, .int .i64 0, .int .i64 0, .int .i64 0, .int .i64 0, .int .i64 0]) := R2.out.alloc _
  have B3 : Hid (Below w.heap.size w (((w1.setCell ⟨gM, 0, none⟩ (.int .i64 (wrap64 ((IntKind.u64.wrap k).tmod 7))))).alloc (.cells #[.int .i64 a, .int .i64 s, .bool x, .int .i64 p, .int .i64 q, .int .i64 n, .int .i64 t] 30))) := B2.out.alloc B2.out.size _
  have O3 : Hid (Blk (((w1.setCell ⟨gM, 0, none⟩ (.int .i64 (wrap64 ((IntKind.u64.wrap k).tmod 7))))).alloc (.cells #[.int .i64 a, .int .i64 s, .bool x, .int .i64 p, .int .i64 q, .int .i64 n, .int .i64 t] 30)) ((w1.setCell ⟨gM, 0, none⟩ (.int .i64 (wrap64 ((IntKind.u64.wrap k).tmod 7))))).heap.size 30 #[.int .i64 a, .int .i64 s, .bool x, .int .i64 p, .int .i64 q, .int .i64 n, .int .i64 t]) := Blk.fresh _ _ _
  clear K1 R1 K2 R2 B2 b0
  go_upto_region 3 with fail
  clear q0 q1 q2 q3 q4 q5 q6 q7 q8 q9 q10 q11 j0 j1 j2 j3 j4 j5 j6 j7 j8 j9 j10 j11 y0
  have hs : ((w1.setCell ⟨gM, 0, none⟩ (.int .i64 (wrap64 ((IntKind.u64.wrap k).tmod 7))))).heap.size = w1.heap.size := by simp [World.setCell]
  rw [hs] at O3
  clear hs
  generalize (((w1.setCell ⟨gM, 0, none⟩ (.int .i64 (wrap64 ((IntKind.u64.wrap k).tmod 7))))).alloc (.cells #[.int .i64 a, .int .i64 s, .bool x, .int .i64 p, .int .i64 q, .int .i64 n, .int .i64 t] 30)) = w3 at K3 R3 B3 O3 ⊢
  rw [md7] at K3
  obtain ⟨gO, hgO⟩ : ∃ g, g = w1.heap.size := ⟨_, rfl⟩
  rw [← hgO] at O3 hlt hltR
  simp only [← hgO]
  clear hgO
  have hO1 : gO ≠ gM := by omega
  have K3d : Hid (Blk w3.drew gM 32 #[.int .i64 (mdF k 7), .int .i64 a, .int .i64 s, .bool x, .int .i64 p, .int .i64 q, .int .i64 n, .int .i64 t, .int .i64 i, .int .i64 y, .int .i64 z, .int .i64 v]) := K3.out
  have R3d : Hid (Blk w3.drew gR 32 #[.int .i64 0, .int .i64 0, .int .i64 0, .bool false, .int .i64 0, .int .i64 0, .int .i64 0, .int .i64 0, .int .i64 0, .int .i64 0, .int .i64 0, .int .i64 0]) := R3.out
  have O3d : Hid (Blk w3.drew gO 30 #[.int .i64 a, .int .i64 s, .bool x, .int .i64 p, .int .i64 q, .int .i64 n, .int .i64 t]) := O3.out
  have B3d : Hid (Below w.heap.size w w3.drew) := B3.out.drew
  have q3 : w3.drew.cell? ⟨gO, 0, none⟩ = some (.int .i64 a) ∧ w3.drew.cell? ⟨gO, 1, none⟩ = some (.int .i64 s) ∧ w3.drew.cell? ⟨gO, 2, none⟩ = some (.bool x) ∧ w3.drew.cell? ⟨gO, 3, none⟩ = some (.int .i64 p) ∧ w3.drew.cell? ⟨gO, 4, none⟩ = some (.int .i64 q) ∧ w3.drew.cell? ⟨gO, 5, none⟩ = some (.int .i64 n) ∧ w3.drew.cell? ⟨gO, 6, none⟩ = some (.int .i64 t) := ⟨O3d.out.cell 0, O3d.out.cell 1, O3d.out.cell 2, O3d.out.cell 3, O3d.out.cell 4, O3d.out.cell 5, O3d.out.cell 6⟩
  have z1 : w3.drew.frozen? ⟨gM, 1, none⟩ = false := K3d.out.thaw 1
  have x1 : w3.drew.cell? ⟨gM, 1, none⟩ = some (.int .i64 a) := K3d.out.cell 1
  have z2 : w3.drew.frozen? ⟨gM, 2, none⟩ = false := K3d.out.thaw 2
  have x2 : w3.drew.cell? ⟨gM, 2, none⟩ = some (.int .i64 s) := K3d.out.cell 2
  have z3 : w3.drew.frozen? ⟨gM, 3, none⟩ = false := K3d.out.thaw 3
  have x3 : w3.drew.cell? ⟨gM, 3, none⟩ = some (.bool x) := K3d.out.cell 3
  have z4 : w3.drew.frozen? ⟨gM, 4, none⟩ = false := K3d.out.thaw 4
  have x4 : w3.drew.cell? ⟨gM, 4, none⟩ = some (.int .i64 p) := K3d.out.cell 4
  have z5 : w3.drew.frozen? ⟨gM, 5, none⟩ = false := K3d.out.thaw 5
  have x5 : w3.drew.cell? ⟨gM, 5, none⟩ = some (.int .i64 q) := K3d.out.cell 5
  have z6 : w3.drew.frozen? ⟨gM, 6, none⟩ = false := K3d.out.thaw 6
  have x6 : w3.drew.cell? ⟨gM, 6, none⟩ = some (.int .i64 n) := K3d.out.cell 6
  have z7 : w3.drew.frozen? ⟨gM, 7, none⟩ = false := K3d.out.thaw 7
  have x7 : w3.drew.cell? ⟨gM, 7, none⟩ = some (.int .i64 t) := K3d.out.cell 7
  have m2 : Hid (Blk (w3.setCell ⟨gM, 1, none⟩ (.int .i64 (IntKind.i64.wrap ((IntKind.u64.wrap a).tmod 65536)))).drew gM 32 #[.int .i64 (mdF k 7), .int .i64 (IntKind.i64.wrap ((IntKind.u64.wrap a).tmod 65536)), .int .i64 s, .bool x, .int .i64 p, .int .i64 q, .int .i64 n, .int .i64 t, .int .i64 i, .int .i64 y, .int .i64 z, .int .i64 v]) := dr (show Blk (w3.setCell ⟨gM, 1, none⟩ (.int .i64 (IntKind.i64.wrap ((IntKind.u64.wrap a).tmod 65536)))) gM 32 #[.int .i64 (mdF k 7), .int .i64 (IntKind.i64.wrap ((IntKind.u64.wrap a).tmod 65536)), .int .i64 s, .bool x, .int .i64 p, .int .i64 q, .int .i64 n, .int .i64 t, .int .i64 i, .int .i64 y, .int .i64 z, .int .i64 v] from (blk_set K3.out 1 (.int .i64 (IntKind.i64.wrap ((IntKind.u64.wrap a).tmod 65536)))))
  have x2' : (w3.setCell ⟨gM, 1, none⟩ (.int .i64 (IntKind.i64.wrap ((IntKind.u64.wrap a).tmod 65536)))).drew.cell? ⟨gM, 2, none⟩ = some (.int .i64 s) := m2.out.cell 2
  have z2' : (w3.setCell ⟨gM, 1, none⟩ (.int .i64 (IntKind.i64.wrap ((IntKind.u64.wrap a).tmod 65536)))).drew.frozen? ⟨gM, 2, none⟩ = false := m2.out.thaw 2
  have m3 : Hid (Blk ((w3.setCell ⟨gM, 1, none⟩ (.int .i64 (IntKind.i64.wrap ((IntKind.u64.wrap a).tmod 65536)))).setCell ⟨gM, 2, none⟩ (.int .i64 (IntKind.i64.wrap ((IntKind.u64.wrap s).tmod 65536)))).drew gM 32 #[.int .i64 (mdF k 7), .int .i64 (IntKind.i64.wrap ((IntKind.u64.wrap a).tmod 65536)), .int .i64 (IntKind.i64.wrap ((IntKind.u64.wrap s).tmod 65536)), .bool x, .int .i64 p, .int .i64 q, .int .i64 n, .int .i64 t, .int .i64 i, .int .i64 y, .int .i64 z, .int .i64 v]) := dr (show Blk ((w3.setCell ⟨gM, 1, none⟩ (.int .i64 (IntKind.i64.wrap ((IntKind.u64.wrap a).tmod 65536)))).setCell ⟨gM, 2, none⟩ (.int .i64 (IntKind.i64.wrap ((IntKind.u64.wrap s).tmod 65536)))) gM 32 #[.int .i64 (mdF k 7), .int .i64 (IntKind.i64.wrap ((IntKind.u64.wrap a).tmod 65536)), .int .i64 (IntKind.i64.wrap ((IntKind.u64.wrap s).tmod 65536)), .bool x, .int .i64 p, .int .i64 q, .int .i64 n, .int .i64 t, .int .i64 i, .int .i64 y, .int .i64 z, .int .i64 v] from (blk_set (blk_set K3.out 1 (.int .i64 (IntKind.i64.wrap ((IntKind.u64.wrap a).tmod 65536)))) 2 (.int .i64 (IntKind.i64.wrap ((IntKind.u64.wrap s).tmod 65536)))))
  have x3' : ((w3.setCell ⟨gM, 1, none⟩ (.int .i64 (IntKind.i64.wrap ((IntKind.u64.wrap a).tmod 65536)))).setCell ⟨gM, 2, none⟩ (.int .i64 (IntKind.i64.wrap ((IntKind.u64.wrap s).tmod 65536)))).drew.cell? ⟨gM, 3, none⟩ = some (.bool x) := m3.out.cell 3
  have z3' : ((w3.setCell ⟨gM, 1, none⟩ (.int .i64 (IntKind.i64.wrap ((IntKind.u64.wrap a).tmod 65536)))).setCell ⟨gM, 2, none⟩ (.int .i64 (IntKind.i64.wrap ((IntKind.u64.wrap s).tmod 65536)))).drew.frozen? ⟨gM, 3, none⟩ = false := m3.out.thaw 3
  have m4 : Hid (Blk (((w3.setCell ⟨gM, 1, none⟩ (.int .i64 (IntKind.i64.wrap ((IntKind.u64.wrap a).tmod 65536)))).setCell ⟨gM, 2, none⟩ (.int .i64 (IntKind.i64.wrap ((IntKind.u64.wrap s).tmod 65536)))).setCell ⟨gM, 3, none⟩ (.bool x)).drew gM 32 #[.int .i64 (mdF k 7), .int .i64 (IntKind.i64.wrap ((IntKind.u64.wrap a).tmod 65536)), .int .i64 (IntKind.i64.wrap ((IntKind.u64.wrap s).tmod 65536)), .bool x, .int .i64 p, .int .i64 q, .int .i64 n, .int .i64 t, .int .i64 i, .int .i64 y, .int .i64 z, .int .i64 v]) := dr (show Blk (((w3.setCell ⟨gM, 1, none⟩ (.int .i64 (IntKind.i64.wrap ((IntKind.u64.wrap a).tmod 65536)))).setCell ⟨gM, 2, none⟩ (.int .i64 (IntKind.i64.wrap ((IntKind.u64.wrap s).tmod 65536)))).setCell ⟨gM, 3, none⟩ (.bool x)) gM 32 #[.int .i64 (mdF k 7), .int .i64 (IntKind.i64.wrap ((IntKind.u64.wrap a).tmod 65536)), .int .i64 (IntKind.i64.wrap ((IntKind.u64.wrap s).tmod 65536)), .bool x, .int .i64 p, .int .i64 q, .int .i64 n, .int .i64 t, .int .i64 i, .int .i64 y, .int .i64 z, .int .i64 v] from (blk_set (blk_set (blk_set K3.out 1 (.int .i64 (IntKind.i64.wrap ((IntKind.u64.wrap a).tmod 65536)))) 2 (.int .i64 (IntKind.i64.wrap ((IntKind.u64.wrap s).tmod 65536)))) 3 (.bool x)))
  have x4' : (((w3.setCell ⟨gM, 1, none⟩ (.int .i64 (IntKind.i64.wrap ((IntKind.u64.wrap a).tmod 65536)))).setCell ⟨gM, 2, none⟩ (.int .i64 (IntKind.i64.wrap ((IntKind.u64.wrap s).tmod 65536)))).setCell ⟨gM, 3, none⟩ (.bool x)).drew.cell? ⟨gM, 4, none⟩ = some (.int .i64 p) := m4.out.cell 4
  have z4' : (((w3.setCell ⟨gM, 1, none⟩ (.int .i64 (IntKind.i64.wrap ((IntKind.u64.wrap a).tmod 65536)))).setCell ⟨gM, 2, none⟩ (.int .i64 (IntKind.i64.wrap ((IntKind.u64.wrap s).tmod 65536)))).setCell ⟨gM, 3, none⟩ (.bool x)).drew.frozen? ⟨gM, 4, none⟩ = false := m4.out.thaw 4
  have m5 : Hid (Blk ((((w3.setCell ⟨gM, 1, none⟩ (.int .i64 (IntKind.i64.wrap ((IntKind.u64.wrap a).tmod 65536)))).setCell ⟨gM, 2, none⟩ (.int .i64 (IntKind.i64.wrap ((IntKind.u64.wrap s).tmod 65536)))).setCell ⟨gM, 3, none⟩ (.bool x)).setCell ⟨gM, 4, none⟩ (.int .i64 (bigF p))).drew gM 32 #[.int .i64 (mdF k 7), .int .i64 (IntKind.i64.wrap ((IntKind.u64.wrap a).tmod 65536)), .int .i64 (IntKind.i64.wrap ((IntKind.u64.wrap s).tmod 65536)), .bool x, .int .i64 (bigF p), .int .i64 q, .int .i64 n, .int .i64 t, .int .i64 i, .int .i64 y, .int .i64 z, .int .i64 v]) := dr (show Blk ((((w3.setCell ⟨gM, 1, none⟩ (.int .i64 (IntKind.i64.wrap ((IntKind.u64.wrap a).tmod 65536)))).setCell ⟨gM, 2, none⟩ (.int .i64 (IntKind.i64.wrap ((IntKind.u64.wrap s).tmod 65536)))).setCell ⟨gM, 3, none⟩ (.bool x)).setCell ⟨gM, 4, none⟩ (.int .i64 (bigF p))) gM 32 #[.int .i64 (mdF k 7), .int .i64 (IntKind.i64.wrap ((IntKind.u64.wrap a).tmod 65536)), .int .i64 (IntKind.i64.wrap ((IntKind.u64.wrap s).tmod 65536)), .bool x, .int .i64 (bigF p), .int .i64 q, .int .i64 n, .int .i64 t, .int .i64 i, .int .i64 y, .int .i64 z, .int .i64 v] from (blk_set (blk_set (blk_set (blk_set K3.out 1 (.int .i64 (IntKind.i64.wrap ((IntKind.u64.wrap a).tmod 65536)))) 2 (.int .i64 (IntKind.i64.wrap ((IntKind.u64.wrap s).tmod 65536)))) 3 (.bool x)) 4 (.int .i64 (bigF p))))
  have x5' : ((((w3.setCell ⟨gM, 1, none⟩ (.int .i64 (IntKind.i64.wrap ((IntKind.u64.wrap a).tmod 65536)))).setCell ⟨gM, 2, none⟩ (.int .i64 (IntKind.i64.wrap ((IntKind.u64.wrap s).tmod 65536)))).setCell ⟨gM, 3, none⟩ (.bool x)).setCell ⟨gM, 4, none⟩ (.int .i64 (bigF p))).drew.cell? ⟨gM, 5, none⟩ = some (.int .i64 q) := m5.out.cell 5
  have z5' : ((((w3.setCell ⟨gM, 1, none⟩ (.int .i64 (IntKind.i64.wrap ((IntKind.u64.wrap a).tmod 65536)))).setCell ⟨gM, 2, none⟩ (.int .i64 (IntKind.i64.wrap ((IntKind.u64.wrap s).tmod 65536)))).setCell ⟨gM, 3, none⟩ (.bool x)).setCell ⟨gM, 4, none⟩ (.int .i64 (bigF p))).drew.frozen? ⟨gM, 5, none⟩ = false := m5.out.thaw 5
  have m6 : Hid (Blk (((((w3.setCell ⟨gM, 1, none⟩ (.int .i64 (IntKind.i64.wrap ((IntKind.u64.wrap a).tmod 65536)))).setCell ⟨gM, 2, none⟩ (.int .i64 (IntKind.i64.wrap ((IntKind.u64.wrap s).tmod 65536)))).setCell ⟨gM, 3, none⟩ (.bool x)).setCell ⟨gM, 4, none⟩ (.int .i64 (bigF p))).setCell ⟨gM, 5, none⟩ (.int .i64 (bigF q))).drew gM 32 #[.int .i64 (mdF k 7), .int .i64 (IntKind.i64.wrap ((IntKind.u64.wrap a).tmod 65536)), .int .i64 (IntKind.i64.wrap ((IntKind.u64.wrap s).tmod 65536)), .bool x, .int .i64 (bigF p), .int .i64 (bigF q), .int .i64 n, .int .i64 t, .int .i64 i, .int .i64 y, .int .i64 z, .int .i64 v]) := dr (show Blk (((((w3.setCell ⟨gM, 1, none⟩ (.int .i64 (IntKind.i64.wrap ((IntKind.u64.wrap a).tmod 65536)))).setCell ⟨gM, 2, none⟩ (.int .i64 (IntKind.i64.wrap ((IntKind.u64.wrap s).tmod 65536)))).setCell ⟨gM, 3, none⟩ (.bool x)).setCell ⟨gM, 4, none⟩ (.int .i64 (bigF p))).setCell ⟨gM, 5, none⟩ (.int .i64 (bigF q))) gM 32 #[.int .i64 (mdF k 7), .int .i64 (IntKind.i64.wrap ((IntKind.u64.wrap a).tmod 65536)), .int .i64 (IntKind.i64.wrap ((IntKind.u64.wrap s).tmod 65536)), .bool x, .int .i64 (bigF p), .int .i64 (bigF q), .int .i64 n, .int .i64 t, .int .i64 i, .int .i64 y, .int .i64 z, .int .i64 v] from (blk_set (blk_set (blk_set (blk_set (blk_set K3.out 1 (.int .i64 (IntKind.i64.wrap ((IntKind.u64.wrap a).tmod 65536)))) 2 (.int .i64 (IntKind.i64.wrap ((IntKind.u64.wrap s).tmod 65536)))) 3 (.bool x)) 4 (.int .i64 (bigF p))) 5 (.int .i64 (bigF q))))
  have x6' : (((((w3.setCell ⟨gM, 1, none⟩ (.int .i64 (IntKind.i64.wrap ((IntKind.u64.wrap a).tmod 65536)))).setCell ⟨gM, 2, none⟩ (.int .i64 (IntKind.i64.wrap ((IntKind.u64.wrap s).tmod 65536)))).setCell ⟨gM, 3, none⟩ (.bool x)).setCell ⟨gM, 4, none⟩ (.int .i64 (bigF p))).setCell ⟨gM, 5, none⟩ (.int .i64 (bigF q))).drew.cell? ⟨gM, 6, none⟩ = some (.int .i64 n) := m6.out.cell 6
  have z6' : (((((w3.setCell ⟨gM, 1, none⟩ (.int .i64 (IntKind.i64.wrap ((IntKind.u64.wrap a).tmod 65536)))).setCell ⟨gM, 2, none⟩ (.int .i64 (IntKind.i64.wrap ((IntKind.u64.wrap s).tmod 65536)))).setCell ⟨gM, 3, none⟩ (.bool x)).setCell ⟨gM, 4, none⟩ (.int .i64 (bigF p))).setCell ⟨gM, 5, none⟩ (.int .i64 (bigF q))).drew.frozen? ⟨gM, 6, none⟩ = false := m6.out.thaw 6
  have m7 : Hid (Blk ((((((w3.setCell ⟨gM, 1, none⟩ (.int .i64 (IntKind.i64.wrap ((IntKind.u64.wrap a).tmod 65536)))).setCell ⟨gM, 2, none⟩ (.int .i64 (IntKind.i64.wrap ((IntKind.u64.wrap s).tmod 65536)))).setCell ⟨gM, 3, none⟩ (.bool x)).setCell ⟨gM, 4, none⟩ (.int .i64 (bigF p))).setCell ⟨gM, 5, none⟩ (.int .i64 (bigF q))).setCell ⟨gM, 6, none⟩ (.int .i64 (bigF n))).drew gM 32 #[.int .i64 (mdF k 7), .int .i64 (IntKind.i64.wrap ((IntKind.u64.wrap a).tmod 65536)), .int .i64 (IntKind.i64.wrap ((IntKind.u64.wrap s).tmod 65536)), .bool x, .int .i64 (bigF p), .int .i64 (bigF q), .int .i64 (bigF n), .int .i64 t, .int .i64 i, .int .i64 y, .int .i64 z, .int .i64 v]) := dr (show Blk ((((((w3.setCell ⟨gM, 1, none⟩ (.int .i64 (IntKind.i64.wrap ((IntKind.u64.wrap a).tmod 65536)))).setCell ⟨gM, 2, none⟩ (.int .i64 (IntKind.i64.wrap ((IntKind.u64.wrap s).tmod 65536)))).setCell ⟨gM, 3, none⟩ (.bool x)).setCell ⟨gM, 4, none⟩ (.int .i64 (bigF p))).setCell ⟨gM, 5, none⟩ (.int .i64 (bigF q))).setCell ⟨gM, 6, none⟩ (.int .i64 (bigF n))) gM 32 #[.int .i64 (mdF k 7), .int .i64 (IntKind.i64.wrap ((IntKind.u64.wrap a).tmod 65536)), .int .i64 (IntKind.i64.wrap ((IntKind.u64.wrap s).tmod 65536)), .bool x, .int .i64 (bigF p), .int .i64 (bigF q), .int .i64 (bigF n), .int .i64 t, .int .i64 i, .int .i64 y, .int .i64 z, .int .i64 v] from (blk_set (blk_set (blk_set (blk_set (blk_set (blk_set K3.out 1 (.int .i64 (IntKind.i64.wrap ((IntKind.u64.wrap a).tmod 65536)))) 2 (.int .i64 (IntKind.i64.wrap ((IntKind.u64.wrap s).tmod 65536)))) 3 (.bool x)) 4 (.int .i64 (bigF p))) 5 (.int .i64 (bigF q))) 6 (.int .i64 (bigF n))))
  have x7' : ((((((w3.setCell ⟨gM, 1, none⟩ (.int .i64 (IntKind.i64.wrap ((IntKind.u64.wrap a).tmod 65536)))).setCell ⟨gM, 2, none⟩ (.int .i64 (IntKind.i64.wrap ((IntKind.u64.wrap s).tmod 65536)))).setCell ⟨gM, 3, none⟩ (.bool x)).setCell ⟨gM, 4, none⟩ (.int .i64 (bigF p))).setCell ⟨gM, 5, none⟩ (.int .i64 (bigF q))).setCell ⟨gM, 6, none⟩ (.int .i64 (bigF n))).drew.cell? ⟨gM, 7, none⟩ = some (.int .i64 t) := m7.out.cell 7
  have z7' : ((((((w3.setCell ⟨gM, 1, none⟩ (.int .i64 (IntKind.i64.wrap ((IntKind.u64.wrap a).tmod 65536)))).setCell ⟨gM, 2, none⟩ (.int .i64 (IntKind.i64.wrap ((IntKind.u64.wrap s).tmod 65536)))).setCell ⟨gM, 3, none⟩ (.bool x)).setCell ⟨gM, 4, none⟩ (.int .i64 (bigF p))).setCell ⟨gM, 5, none⟩ (.int .i64 (bigF q))).setCell ⟨gM, 6, none⟩ (.int .i64 (bigF n))).drew.frozen? ⟨gM, 7, none⟩ = false := m7.out.thaw 7
  have K4 : Hid (Blk (((((((w3.setCell ⟨gM, 1, none⟩ (.int .i64 (IntKind.i64.wrap ((IntKind.u64.wrap a).tmod 65536)))).setCell ⟨gM, 2, none⟩ (.int .i64 (IntKind.i64.wrap ((IntKind.u64.wrap s).tmod 65536)))).setCell ⟨gM, 3, none⟩ (.bool x)).setCell ⟨gM, 4, none⟩ (.int .i64 (bigF p))).setCell ⟨gM, 5, none⟩ (.int .i64 (bigF q))).setCell ⟨gM, 6, none⟩ (.int .i64 (bigF n))).setCell ⟨gM, 7, none⟩ (.int .i64 (bigF t))).drew gM 32 #[.int .i64 (mdF k 7), .int .i64 (IntKind.i64.wrap ((IntKind.u64.wrap a).tmod 65536)), .int .i64 (IntKind.i64.wrap ((IntKind.u64.wrap s).tmod 65536)), .bool x, .int .i64 (bigF p), .int .i64 (bigF q), .int .i64 (bigF n), .int .i64 (bigF t), .int .i64 i, .int .i64 y, .int .i64 z, .int .i64 v]) := dr (show Blk (((((((w3.setCell ⟨gM, 1, none⟩ (.int .i64 (IntKind.i64.wrap ((IntKind.u64.wrap a).tmod 65536)))).setCell ⟨gM, 2, none⟩ (.int .i64 (IntKind.i64.wrap ((IntKind.u64.wrap s).tmod 65536)))).setCell ⟨gM, 3, none⟩ (.bool x)).setCell ⟨gM, 4, none⟩ (.int .i64 (bigF p))).setCell ⟨gM, 5, none⟩ (.int .i64 (bigF q))).setCell ⟨gM, 6, none⟩ (.int .i64 (bigF n))).setCell ⟨gM, 7, none⟩ (.int .i64 (bigF t))) gM 32 #[.int .i64 (mdF k 7), .int .i64 (IntKind.i64.wrap ((IntKind.u64.wrap a).tmod 65536)), .int .i64 (IntKind.i64.wrap ((IntKind.u64.wrap s).tmod 65536)), .bool x, .int .i64 (bigF p), .int .i64 (bigF q), .int .i64 (bigF n), .int .i64 (bigF t), .int .i64 i, .int .i64 y, .int .i64 z, .int .i64 v] from (blk_set (blk_set (blk_set (blk_set (blk_set (blk_set (blk_set K3.out 1 (.int .i64 (IntKind.i64.wrap ((IntKind.u64.wrap a).tmod 65536)))) 2 (.int .i64 (IntKind.i64.wrap ((IntKind.u64.wrap s).tmod 65536)))) 3 (.bool x)) 4 (.int .i64 (bigF p))) 5 (.int .i64 (bigF q))) 6 (.int .i64 (bigF n))) 7 (.int .i64 (bigF t))))
  have O4 : Hid (Blk (((((((w3.setCell ⟨gM, 1, none⟩ (.int .i64 (IntKind.i64.wrap ((IntKind.u64.wrap a).tmod 65536)))).setCell ⟨gM, 2, none⟩ (.int .i64 (IntKind.i64.wrap ((IntKind.u64.wrap s).tmod 65536)))).setCell ⟨gM, 3, none⟩ (.bool x)).setCell ⟨gM, 4, none⟩ (.int .i64 (bigF p))).setCell ⟨gM, 5, none⟩ (.int .i64 (bigF q))).setCell ⟨gM, 6, none⟩ (.int .i64 (bigF n))).setCell ⟨gM, 7, none⟩ (.int .i64 (bigF t))).drew gO 30 #[.int .i64 a, .int .i64 s, .bool x, .int .i64 p, .int .i64 q, .int .i64 n, .int .i64 t]) := dr (show Blk (((((((w3.setCell ⟨gM, 1, none⟩ (.int .i64 (IntKind.i64.wrap ((IntKind.u64.wrap a).tmod 65536)))).setCell ⟨gM, 2, none⟩ (.int .i64 (IntKind.i64.wrap ((IntKind.u64.wrap s).tmod 65536)))).setCell ⟨gM, 3, none⟩ (.bool x)).setCell ⟨gM, 4, none⟩ (.int .i64 (bigF p))).setCell ⟨gM, 5, none⟩ (.int .i64 (bigF q))).setCell ⟨gM, 6, none⟩ (.int .i64 (bigF n))).setCell ⟨gM, 7, none⟩ (.int .i64 (bigF t))) gO 30 #[.int .i64 a, .int .i64 s, .bool x, .int .i64 p, .int .i64 q, .int .i64 n, .int .i64 t] from (far (far (far (far (far (far (far O3.out hO1 (.int .i64 (IntKind.i64.wrap ((IntKind.u64.wrap a).tmod 65536)))) hO1 (.int .i64 (IntKind.i64.wrap ((IntKind.u64.wrap s).tmod 65536)))) hO1 (.bool x)) hO1 (.int .i64 (bigF p))) hO1 (.int .i64 (bigF q))) hO1 (.int .i64 (bigF n))) hO1 (.int .i64 (bigF t))))
  have R4 : Hid (Blk (((((((w3.setCell ⟨gM, 1, none⟩ (.int .i64 (IntKind.i64.wrap ((IntKind.u64.wrap a).tmod 65536)))).setCell ⟨gM, 2, none⟩ (.int .i64 (IntKind.i64.wrap ((IntKind.u64.wrap s).tmod 65536)))).setCell ⟨gM, 3, none⟩ (.bool x)).setCell ⟨gM, 4, none⟩ (.int .i64 (bigF p))).setCell ⟨gM, 5, none⟩ (.int .i64 (bigF q))).setCell ⟨gM, 6, none⟩ (.int .i64 (bigF n))).setCell ⟨gM, 7, none⟩ (.int .i64 (bigF t))).drew gR 32 #[.int .i64 0, .int .i64 0, .int .i64 0, .bool false, .int .i64 0, .int .i64 0, .int .i64 0, .int .i64 0, .int .i64 0, .int .i64 0, .int .i64 0, .int .i64 0]) := dr (show Blk (((((((w3.setCell ⟨gM, 1, none⟩ (.int .i64 (IntKind.i64.wrap ((IntKind.u64.wrap a).tmod 65536)))).setCell ⟨gM, 2, none⟩ (.int .i64 (IntKind.i64.wrap ((IntKind.u64.wrap s).tmod 65536)))).setCell ⟨gM, 3, none⟩ (.bool x)).setCell ⟨gM, 4, none⟩ (.int .i64 (bigF p))).setCell ⟨gM, 5, none⟩ (.int .i64 (bigF q))).setCell ⟨gM, 6, none⟩ (.int .i64 (bigF n))).setCell ⟨gM, 7, none⟩ (.int .i64 (bigF t))) gR 32 #[.int .i64 0, .int .i64 0, .int .i64 0, .bool false, .int .i64 0, .int .i64 0, .int .i64 0, .int .i64 0, .int .i64 0, .int .i64 0, .int .i64 0, .int .i64 0] from (far (far (far (far (far (far (far R3.out hne.symm (.int .i64 (IntKind.i64.wrap ((IntKind.u64.wrap a).tmod 65536)))) hne.symm (.int .i64 (IntKind.i64.wrap ((IntKind.u64.wrap s).tmod 65536)))) hne.symm (.bool x)) hne.symm (.int .i64 (bigF p))) hne.symm (.int .i64 (bigF q))) hne.symm (.int .i64 (bigF n))) hne.symm (.int .i64 (bigF t))))
  have B4 : Hid (Below w.heap.size w (((((((w3.setCell ⟨gM, 1, none⟩ (.int .i64 (IntKind.i64.wrap ((IntKind.u64.wrap a).tmod 65536)))).setCell ⟨gM, 2, none⟩ (.int .i64 (IntKind.i64.wrap ((IntKind.u64.wrap s).tmod 65536)))).setCell ⟨gM, 3, none⟩ (.bool x)).setCell ⟨gM, 4, none⟩ (.int .i64 (bigF p))).setCell ⟨gM, 5, none⟩ (.int .i64 (bigF q))).setCell ⟨gM, 6, none⟩ (.int .i64 (bigF n))).setCell ⟨gM, 7, none⟩ (.int .i64 (bigF t))).drew) := Below.drew (((((((B3.out.setCell (p := ⟨gM, 1, none⟩) hge.out.1 (.int .i64 (IntKind.i64.wrap ((IntKind.u64.wrap a).tmod 65536)))).setCell (p := ⟨gM, 2, none⟩) hge.out.1 (.int .i64 (IntKind.i64.wrap ((IntKind.u64.wrap s).tmod 65536)))).setCell (p := ⟨gM, 3, none⟩) hge.out.1 (.bool x)).setCell (p := ⟨gM, 4, none⟩) hge.out.1 (.int .i64 (bigF p))).setCell (p := ⟨gM, 5, none⟩) hge.out.1 (.int .i64 (bigF q))).setCell (p := ⟨gM, 6, none⟩) hge.out.1 (.int .i64 (bigF n))).setCell (p := ⟨gM, 7, none⟩) hge.out.1 (.int .i64 (bigF t)))
  have q4 : (((((((w3.setCell ⟨gM, 1, none⟩ (.int .i64 (IntKind.i64.wrap ((IntKind.u64.wrap a).tmod 65536)))).setCell ⟨gM, 2, none⟩ (.int .i64 (IntKind.i64.wrap ((IntKind.u64.wrap s).tmod 65536)))).setCell ⟨gM, 3, none⟩ (.bool x)).setCell ⟨gM, 4, none⟩ (.int .i64 (bigF p))).setCell ⟨gM, 5, none⟩ (.int .i64 (bigF q))).setCell ⟨gM, 6, none⟩ (.int .i64 (bigF n))).setCell ⟨gM, 7, none⟩ (.int .i64 (bigF t))).drew.cell? ⟨gO, 0, none⟩ = some (.int .i64 a) ∧ (((((((w3.setCell ⟨gM, 1, none⟩ (.int .i64 (IntKind.i64.wrap ((IntKind.u64.wrap a).tmod 65536)))).setCell ⟨gM, 2, none⟩ (.int .i64 (IntKind.i64.wrap ((IntKind.u64.wrap s).tmod 65536)))).setCell ⟨gM, 3, none⟩ (.bool x)).setCell ⟨gM, 4, none⟩ (.int .i64 (bigF p))).setCell ⟨gM, 5, none⟩ (.int .i64 (bigF q))).setCell ⟨gM, 6, none⟩ (.int .i64 (bigF n))).setCell ⟨gM, 7, none⟩ (.int .i64 (bigF t))).drew.cell? ⟨gO, 1, none⟩ = some (.int .i64 s) ∧ (((((((w3.setCell ⟨gM, 1, none⟩ (.int .i64 (IntKind.i64.wrap ((IntKind.u64.wrap a).tmod 65536)))).setCell ⟨gM, 2, none⟩ (.int .i64 (IntKind.i64.wrap ((IntKind.u64.wrap s).tmod 65536)))).setCell ⟨gM, 3, none⟩ (.bool x)).setCell ⟨gM, 4, none⟩ (.int .i64 (bigF p))).setCell ⟨gM, 5, none⟩ (.int .i64 (bigF q))).setCell ⟨gM, 6, none⟩ (.int .i64 (bigF n))).setCell ⟨gM, 7, none⟩ (.int .i64 (bigF t))).drew.cell? ⟨gO, 2, none⟩ = some (.bool x) ∧ (((((((w3.setCell ⟨gM, 1, none⟩ (.int .i64 (IntKind.i64.wrap ((IntKind.u64.wrap a).tmod 65536)))).setCell ⟨gM, 2, none⟩ (.int .i64 (IntKind.i64.wrap ((IntKind.u64.wrap s).tmod 65536)))).setCell ⟨gM, 3, none⟩ (.bool x)).setCell ⟨gM, 4, none⟩ (.int .i64 (bigF p))).setCell ⟨gM, 5, none⟩ (.int .i64 (bigF q))).setCell ⟨gM, 6, none⟩ (.int .i64 (bigF n))).setCell ⟨gM, 7, none⟩ (.int .i64 (bigF t))).drew.cell? ⟨gO, 3, none⟩ = some (.int .i64 p) ∧ (((((((w3.setCell ⟨gM, 1, none⟩ (.int .i64 (IntKind.i64.wrap ((IntKind.u64.wrap a).tmod 65536)))).setCell ⟨gM, 2, none⟩ (.int .i64 (IntKind.i64.wrap ((IntKind.u64.wrap s).tmod 65536)))).setCell ⟨gM, 3, none⟩ (.bool x)).setCell ⟨gM, 4, none⟩ (.int .i64 (bigF p))).setCell ⟨gM, 5, none⟩ (.int .i64 (bigF q))).setCell ⟨gM, 6, none⟩ (.int .i64 (bigF n))).setCell ⟨gM, 7, none⟩ (.int .i64 (bigF t))).drew.cell? ⟨gO, 4, none⟩ = some (.int .i64 q) ∧ (((((((w3.setCell ⟨gM, 1, none⟩ (.int .i64 (IntKind.i64.wrap ((IntKind.u64.wrap a).tmod 65536)))).setCell ⟨gM, 2, none⟩ (.int .i64 (IntKind.i64.wrap ((IntKind.u64.wrap s).tmod 65536)))).setCell ⟨gM, 3, none⟩ (.bool x)).setCell ⟨gM, 4, none⟩ (.int .i64 (bigF p))).setCell ⟨gM, 5, none⟩ (.int .i64 (bigF q))).setCell ⟨gM, 6, none⟩ (.int .i64 (bigF n))).setCell ⟨gM, 7, none⟩ (.int .i64 (bigF t))).drew.cell? ⟨gO, 5, none⟩ = some (.int .i64 n) ∧ (((((((w3.setCell ⟨gM, 1, none⟩ (.int .i64 (IntKind.i64.wrap ((IntKind.u64.wrap a).tmod 65536)))).setCell ⟨gM, 2, none⟩ (.int .i64 (IntKind.i64.wrap ((IntKind.u64.wrap s).tmod 65536)))).setCell ⟨gM, 3, none⟩ (.bool x)).setCell ⟨gM, 4, none⟩ (.int .i64 (bigF p))).setCell ⟨gM, 5, none⟩ (.int .i64 (bigF q))).setCell ⟨gM, 6, none⟩ (.int .i64 (bigF n))).setCell ⟨gM, 7, none⟩ (.int .i64 (bigF t))).drew.cell? ⟨gO, 6, none⟩ = some (.int .i64 t) := ⟨O4.out.cell 0, O4.out.cell 1, O4.out.cell 2, O4.out.cell 3, O4.out.cell 4, O4.out.cell 5, O4.out.cell 6⟩
  refine wp_region_held_drew (S := (fun w' => w'.cell? ⟨gO, 0, none⟩ = some (.int .i64 a) ∧ w'.cell? ⟨gO, 1, none⟩ = some (.int .i64 s) ∧ w'.cell? ⟨gO, 2, none⟩ = some (.bool x) ∧ w'.cell? ⟨gO, 3, none⟩ = some (.int .i64 p) ∧ w'.cell? ⟨gO, 4, none⟩ = some (.int .i64 q) ∧ w'.cell? ⟨gO, 5, none⟩ = some (.int .i64 n) ∧ w'.cell? ⟨gO, 6, none⟩ = some (.int .i64 t))) (by kernel_rfl) q3 (fun hHeld => ?_)
  refine wpAnyH_take (i := 0) (v := ?_) rfl (by kernel_rfl) (by kernel_rfl) (by kernel_rfl) (fun _ _ _ h => h) (Or.inl ⟨by rfl, ?_⟩) (by assumption) ?_
  rotate_left
  · intro w' hSw
    (try dsimp only at hSw)
    go_simp
    try with_reducible rfl
  (try simp only [Act.put, List.getElem_toArray, List.getElem_cons_succ, List.getElem_cons_zero, List.setIfInBounds_toArray, List.set_cons_zero, List.set_cons_succ])
  refine wpAnyH_take (i := 1) (v := ?_) rfl (by kernel_rfl) (by kernel_rfl) (by kernel_rfl) (fun _ _ _ h => h) (Or.inl ⟨by rfl, ?_⟩) (by assumption) ?_
  rotate_left
  · intro w' hSw
    (try dsimp only at hSw)
    go_simp
    try with_reducible rfl
  (try simp only [Act.put, List.getElem_toArray, List.getElem_cons_succ, List.getElem_cons_zero, List.setIfInBounds_toArray, List.set_cons_zero, List.set_cons_succ])
  refine wpAnyH_take (i := 2) (v := ?_) rfl (by kernel_rfl) (by kernel_rfl) (by kernel_rfl) (fun _ _ _ h => h) (Or.inl ⟨by rfl, ?_⟩) (by assumption) ?_
  rotate_left
  · intro w' hSw
    (try dsimp only at hSw)
    go_simp
    try with_reducible rfl
  (try simp only [Act.put, List.getElem_toArray, List.getElem_cons_succ, List.getElem_cons_zero, List.setIfInBounds_toArray, List.set_cons_zero, List.set_cons_succ])
  refine wpAnyH_take (i := 3) (v := ?_) rfl (by kernel_rfl) (by kernel_rfl) (by kernel_rfl) (fun _ _ _ h => h) (Or.inl ⟨by rfl, ?_⟩) (by assumption) ?_
  rotate_left
  · intro w' hSw
    (try dsimp only at hSw)
    go_simp
    try with_reducible rfl
  (try simp only [Act.put, List.getElem_toArray, List.getElem_cons_succ, List.getElem_cons_zero, List.setIfInBounds_toArray, List.set_cons_zero, List.set_cons_succ])
  refine wpAnyH_take (i := 4) (v := ?_) rfl (by kernel_rfl) (by kernel_rfl) (by kernel_rfl) (fun _ _ _ h => h) (Or.inl ⟨by rfl, ?_⟩) (by assumption) ?_
  rotate_left
  · intro w' hSw
    (try dsimp only at hSw)
    go_simp
    try with_reducible rfl
  (try simp only [Act.put, List.getElem_toArray, List.getElem_cons_succ, List.getElem_cons_zero, List.setIfInBounds_toArray, List.set_cons_zero, List.set_cons_succ])
  refine wpAnyH_take (i := 5) (v := ?_) rfl (by kernel_rfl) (by kernel_rfl) (by kernel_rfl) (fun _ _ _ h => h) (Or.inl ⟨by rfl, ?_⟩) (by assumption) ?_
  rotate_left
  · intro w' hSw
    (try dsimp only at hSw)
    go_simp
    try with_reducible rfl
  (try simp only [Act.put, List.getElem_toArray, List.getElem_cons_succ, List.getElem_cons_zero, List.setIfInBounds_toArray, List.set_cons_zero, List.set_cons_succ])
  refine wpAnyH_take (i := 6) (v := ?_) rfl (by kernel_rfl) (by kernel_rfl) (by kernel_rfl) (fun _ _ _ h => h) (Or.inl ⟨by rfl, ?_⟩) (by assumption) ?_
  rotate_left
  · intro w' hSw
    (try dsimp only at hSw)
    go_simp
    try with_reducible rfl
  (try simp only [Act.put, List.getElem_toArray, List.getElem_cons_succ, List.getElem_cons_zero, List.setIfInBounds_toArray, List.set_cons_zero, List.set_cons_succ])
  refine wpAnyH_take (i := 7) (v := ?_) rfl (by kernel_rfl) (by kernel_rfl) (by kernel_rfl) (fun _ _ _ h => h) (Or.inl ⟨by rfl, ?_⟩) (by assumption) ?_
  rotate_left
  · intro w' hSw
    (try dsimp only at hSw)
    go_simp
    try with_reducible rfl
  (try simp only [Act.put, List.getElem_toArray, List.getElem_cons_succ, List.getElem_cons_zero, List.setIfInBounds_toArray, List.set_cons_zero, List.set_cons_succ])
  refine wpAnyH_take (i := 8) (v := ?_) rfl (by kernel_rfl) (by kernel_rfl) (by kernel_rfl) (fun _ _ _ h => h) (Or.inl ⟨by rfl, ?_⟩) (by assumption) ?_
  rotate_left
  · intro w' hSw
    (try dsimp only at hSw)
    go_simp
    try with_reducible rfl
  (try simp only [Act.put, List.getElem_toArray, List.getElem_cons_succ, List.getElem_cons_zero, List.setIfInBounds_toArray, List.set_cons_zero, List.set_cons_succ])
  refine wpAnyH_take (i := 9) (v := ?_) rfl (by kernel_rfl) (by kernel_rfl) (by kernel_rfl) (fun _ _ _ h => h) (Or.inl ⟨by rfl, ?_⟩) (by assumption) ?_
  rotate_left
  · intro w' hSw
    (try dsimp only at hSw)
    go_simp
    try with_reducible rfl
  (try simp only [Act.put, List.getElem_toArray, List.getElem_cons_succ, List.getElem_cons_zero, List.setIfInBounds_toArray, List.set_cons_zero, List.set_cons_succ])
  refine wpAnyH_take (i := 10) (v := ?_) rfl (by kernel_rfl) (by kernel_rfl) (by kernel_rfl) (fun _ _ _ h => h) (Or.inl ⟨by rfl, ?_⟩) (by assumption) ?_
  rotate_left
  · intro w' hSw
    (try dsimp only at hSw)
    go_simp
    try with_reducible rfl
  (try simp only [Act.put, List.getElem_toArray, List.getElem_cons_succ, List.getElem_cons_zero, List.setIfInBounds_toArray, List.set_cons_zero, List.set_cons_succ])
  refine wpAnyH_take (i := 11) (v := ?_) rfl (by kernel_rfl) (by kernel_rfl) (by kernel_rfl) (fun _ _ _ h => h) (Or.inl ⟨by rfl, ?_⟩) (by assumption) ?_
  rotate_left
  · intro w' hSw
    (try dsimp only at hSw)
    go_simp
    try with_reducible rfl
  (try simp only [Act.put, List.getElem_toArray, List.getElem_cons_succ, List.getElem_cons_zero, List.setIfInBounds_toArray, List.set_cons_zero, List.set_cons_succ])
  refine wpAnyH_take (i := 12) (v := ?_) rfl (by kernel_rfl) (by kernel_rfl) (by kernel_rfl) (fun _ _ _ h => h) (Or.inl ⟨by rfl, ?_⟩) (by assumption) ?_
  rotate_left
  · intro w' hSw
    (try dsimp only at hSw)
    go_simp
    try with_reducible rfl
  (try simp only [Act.put, List.getElem_toArray, List.getElem_cons_succ, List.getElem_cons_zero, List.setIfInBounds_toArray, List.set_cons_zero, List.set_cons_succ])
  refine wpAnyH_take (i := 13) (v := ?_) rfl (by kernel_rfl) (by kernel_rfl) (by kernel_rfl) (fun _ _ _ h => h) (Or.inl ⟨by rfl, ?_⟩) (by assumption) ?_
  rotate_left
  · intro w' hSw
    (try dsimp only at hSw)
    go_simp
    try with_reducible rfl
  (try simp only [Act.put, List.getElem_toArray, List.getElem_cons_succ, List.getElem_cons_zero, List.setIfInBounds_toArray, List.set_cons_zero, List.set_cons_succ])
  refine wpAnyH_take (i := 15) (v := ?_) rfl (by kernel_rfl) (by kernel_rfl) (by kernel_rfl) (fun _ _ _ h => h) (Or.inl ⟨by rfl, ?_⟩) (by assumption) ?_
  rotate_left
  · intro w' hSw
    (try dsimp only at hSw)
    go_simp
    try with_reducible rfl
  (try simp only [Act.put, List.getElem_toArray, List.getElem_cons_succ, List.getElem_cons_zero, List.setIfInBounds_toArray, List.set_cons_zero, List.set_cons_succ])
  refine wpAnyH_take (i := 16) (v := ?_) rfl (by kernel_rfl) (by kernel_rfl) (by kernel_rfl) (fun _ _ _ h => h) (Or.inl ⟨by rfl, ?_⟩) (by assumption) ?_
  rotate_left
  · intro w' hSw
    (try dsimp only at hSw)
    go_simp
    try with_reducible rfl
  (try simp only [Act.put, List.getElem_toArray, List.getElem_cons_succ, List.getElem_cons_zero, List.setIfInBounds_toArray, List.set_cons_zero, List.set_cons_succ])
  refine wpAnyH_take (i := 18) (v := ?_) rfl (by kernel_rfl) (by kernel_rfl) (by kernel_rfl) (fun _ _ _ h => h) (Or.inl ⟨by rfl, ?_⟩) (by assumption) ?_
  rotate_left
  · intro w' hSw
    (try dsimp only at hSw)
    go_simp
    try with_reducible rfl
  (try simp only [Act.put, List.getElem_toArray, List.getElem_cons_succ, List.getElem_cons_zero, List.setIfInBounds_toArray, List.set_cons_zero, List.set_cons_succ])
  refine wpAnyH_take (i := 19) (v := ?_) rfl (by kernel_rfl) (by kernel_rfl) (by kernel_rfl) (fun _ _ _ h => h) (Or.inl ⟨by rfl, ?_⟩) (by assumption) ?_
  rotate_left
  · intro w' hSw
    (try dsimp only at hSw)
    go_simp
    try with_reducible rfl
  (try simp only [Act.put, List.getElem_toArray, List.getElem_cons_succ, List.getElem_cons_zero, List.setIfInBounds_toArray, List.set_cons_zero, List.set_cons_succ])
  refine wpAnyH_take (i := 21) (v := ?_) rfl (by kernel_rfl) (by kernel_rfl) (by kernel_rfl) (fun _ _ _ h => h) (Or.inl ⟨by rfl, ?_⟩) (by assumption) ?_
  rotate_left
  · intro w' hSw
    (try dsimp only at hSw)
    go_simp
    try with_reducible rfl
  (try simp only [Act.put, List.getElem_toArray, List.getElem_cons_succ, List.getElem_cons_zero, List.setIfInBounds_toArray, List.set_cons_zero, List.set_cons_succ])
  refine wpAnyH_take (i := 22) (v := ?_) rfl (by kernel_rfl) (by kernel_rfl) (by kernel_rfl) (fun _ _ _ h => h) (Or.inl ⟨by rfl, ?_⟩) (by assumption) ?_
  rotate_left
  · intro w' hSw
    (try dsimp only at hSw)
    go_simp
    try with_reducible rfl
  (try simp only [Act.put, List.getElem_toArray, List.getElem_cons_succ, List.getElem_cons_zero, List.setIfInBounds_toArray, List.set_cons_zero, List.set_cons_succ])
  refine wpAnyH_ready (rs := [14]) (by kernel_rfl) (by simp) ?_
  refine AllReadyH.cons rfl (fun K' hK => ?_) AllReadyH.nil
  go_simp
  refine (big_any p _ HI.out.1).mono ?_
  rintro e wz ⟨rfl, rfl⟩
  go_wp2_with fail
  refine hK.out _ _ q3 (fun hHeld => ?_)
  clear hK K'
  (try simp only [Act.put, List.getElem_toArray, List.getElem_cons_succ, List.getElem_cons_zero, List.setIfInBounds_toArray, List.set_cons_zero, List.set_cons_succ])
  refine wpAnyH_ready (rs := [17]) (by kernel_rfl) (by simp) ?_
  refine AllReadyH.cons rfl (fun K' hK => ?_) AllReadyH.nil
  go_simp
  refine (big_any q _ HI.out.2.1).mono ?_
  rintro e wz ⟨rfl, rfl⟩
  go_wp2_with fail
  refine hK.out _ _ q3 (fun hHeld => ?_)
  clear hK K'
  (try simp only [Act.put, List.getElem_toArray, List.getElem_cons_succ, List.getElem_cons_zero, List.setIfInBounds_toArray, List.set_cons_zero, List.set_cons_succ])
  refine wpAnyH_ready (rs := [20]) (by kernel_rfl) (by simp) ?_
  refine AllReadyH.cons rfl (fun K' hK => ?_) AllReadyH.nil
  go_simp
  refine (big_any n _ HI.out.2.2.1).mono ?_
  rintro e wz ⟨rfl, rfl⟩
  go_wp2_with fail
  refine hK.out _ _ q3 (fun hHeld => ?_)
  clear hK K'
  (try simp only [Act.put, List.getElem_toArray, List.getElem_cons_succ, List.getElem_cons_zero, List.setIfInBounds_toArray, List.set_cons_zero, List.set_cons_succ])
  refine wpAnyH_ready (rs := [23]) (by kernel_rfl) (by simp) ?_
  refine AllReadyH.cons rfl (fun K' hK => ?_) AllReadyH.nil
  go_simp
  refine (big_any t _ HI.out.2.2.2.1).mono ?_
  rintro e wz ⟨rfl, rfl⟩
  go_wp2_with fail
  refine hK.out _ _ q3 (fun hHeld => ?_)
  clear hK K'
  (try simp only [Act.put, List.getElem_toArray, List.getElem_cons_succ, List.getElem_cons_zero, List.setIfInBounds_toArray, List.set_cons_zero, List.set_cons_succ])
  refine wpAnyH_take (i := 24) (v := ?_) rfl (by kernel_rfl) (by kernel_rfl) (by kernel_rfl) (fun _ _ _ h => h) (Or.inl ⟨by rfl, ?_⟩) (by assumption) ?_
  rotate_left
  · intro w' hSw
    (try dsimp only at hSw)
    go_simp
    try with_reducible rfl
  (try simp only [Act.put, List.getElem_toArray, List.getElem_cons_succ, List.getElem_cons_zero, List.setIfInBounds_toArray, List.set_cons_zero, List.set_cons_succ])
  refine wpAnyH_take (i := 25) (v := ?_) rfl (by kernel_rfl) (by kernel_rfl) (by kernel_rfl) (fun _ _ _ h => h) (Or.inl ⟨by rfl, ?_⟩) (by assumption) ?_
  rotate_left
  · intro w' hSw
    (try dsimp only at hSw)
    go_simp
    try with_reducible rfl
  (try simp only [Act.put, List.getElem_toArray, List.getElem_cons_succ, List.getElem_cons_zero, List.setIfInBounds_toArray, List.set_cons_zero, List.set_cons_succ])
  refine wpAnyH_ready (rs := [26]) (by kernel_rfl) (by simp) ?_
  refine AllReadyH.cons rfl (fun K' hK => ?_) AllReadyH.nil
  go_simp
  refine hK.out _ _ q4 (fun hHeld => ?_)
  clear hK K'
  (try simp only [Act.put, List.getElem_toArray, List.getElem_cons_succ, List.getElem_cons_zero, List.setIfInBounds_toArray, List.set_cons_zero, List.set_cons_succ])
  refine wpAnyH_done (by kernel_rfl) ?_ _
  clear q3 q4 z1 z2 z3 z4 z5 z6 z7 x1 x2 x3 x4 x5 x6 x7 x2' x3' x4' x5' x6' x7' z2' z3' z4' z5' z6' z7' m2 m3 m4 m5 m6 m7 K3 R3 O3 B3 O4 O3d K3d R3d B3d
  generalize (((((((w3.setCell ⟨gM, 1, none⟩ (.int .i64 (IntKind.i64.wrap ((IntKind.u64.wrap a).tmod 65536)))).setCell ⟨gM, 2, none⟩ (.int .i64 (IntKind.i64.wrap ((IntKind.u64.wrap s).tmod 65536)))).setCell ⟨gM, 3, none⟩ (.bool x)).setCell ⟨gM, 4, none⟩ (.int .i64 (bigF p))).setCell ⟨gM, 5, none⟩ (.int .i64 (bigF q))).setCell ⟨gM, 6, none⟩ (.int .i64 (bigF n))).setCell ⟨gM, 7, none⟩ (.int .i64 (bigF t))).drew = w4 at K4 R4 B4 ⊢
  have K4d : Hid (Blk w4.drew gM 32 #[.int .i64 (mdF k 7), .int .i64 (IntKind.i64.wrap ((IntKind.u64.wrap a).tmod 65536)), .int .i64 (IntKind.i64.wrap ((IntKind.u64.wrap s).tmod 65536)), .bool x, .int .i64 (bigF p), .int .i64 (bigF q), .int .i64 (bigF n), .int .i64 (bigF t), .int .i64 i, .int .i64 y, .int .i64 z, .int .i64 v]) := K4.out
  have R4d : Hid (Blk w4.drew gR 32 #[.int .i64 0, .int .i64 0, .int .i64 0, .bool false, .int .i64 0, .int .i64 0, .int .i64 0, .int .i64 0, .int .i64 0, .int .i64 0, .int .i64 0, .int .i64 0]) := R4.out
  have B4d : Hid (Below w.heap.size w w4.drew) := B4.out.drew
  have z8 : w4.drew.frozen? ⟨gM, 8, none⟩ = false := K4d.out.thaw 8
  have x8 : w4.drew.cell? ⟨gM, 8, none⟩ = some (.int .i64 i) := K4d.out.cell 8
  have z10 : w4.drew.frozen? ⟨gM, 10, none⟩ = false := K4d.out.thaw 10
  have x10 : w4.drew.cell? ⟨gM, 10, none⟩ = some (.int .i64 z) := K4d.out.cell 10
  have z9 : w4.drew.frozen? ⟨gM, 9, none⟩ = false := K4d.out.thaw 9
  have x9 : w4.drew.cell? ⟨gM, 9, none⟩ = some (.int .i64 y) := K4d.out.cell 9
  have z11 : w4.drew.frozen? ⟨gM, 11, none⟩ = false := K4d.out.thaw 11
  have x11 : w4.drew.cell? ⟨gM, 11, none⟩ = some (.int .i64 v) := K4d.out.cell 11
  have m10 : Hid (Blk (w4.setCell ⟨gM, 8, none⟩ (.int .i64 (IntKind.i64.wrap ((IntKind.u64.wrap i).tmod 4294967296)))).drew gM 32 #[.int .i64 (mdF k 7), .int .i64 (IntKind.i64.wrap ((IntKind.u64.wrap a).tmod 65536)), .int .i64 (IntKind.i64.wrap ((IntKind.u64.wrap s).tmod 65536)), .bool x, .int .i64 (bigF p), .int .i64 (bigF q), .int .i64 (bigF n), .int .i64 (bigF t), .int .i64 (IntKind.i64.wrap ((IntKind.u64.wrap i).tmod 4294967296)), .int .i64 y, .int .i64 z, .int .i64 v]) := dr (show Blk (w4.setCell ⟨gM, 8, none⟩ (.int .i64 (IntKind.i64.wrap ((IntKind.u64.wrap i).tmod 4294967296)))) gM 32 #[.int .i64 (mdF k 7), .int .i64 (IntKind.i64.wrap ((IntKind.u64.wrap a).tmod 65536)), .int .i64 (IntKind.i64.wrap ((IntKind.u64.wrap s).tmod 65536)), .bool x, .int .i64 (bigF p), .int .i64 (bigF q), .int .i64 (bigF n), .int .i64 (bigF t), .int .i64 (IntKind.i64.wrap ((IntKind.u64.wrap i).tmod 4294967296)), .int .i64 y, .int .i64 z, .int .i64 v] from (blk_set K4.out 8 (.int .i64 (IntKind.i64.wrap ((IntKind.u64.wrap i).tmod 4294967296)))))
  have x10' : (w4.setCell ⟨gM, 8, none⟩ (.int .i64 (IntKind.i64.wrap ((IntKind.u64.wrap i).tmod 4294967296)))).drew.cell? ⟨gM, 10, none⟩ = some (.int .i64 z) := m10.out.cell 10
  have z10' : (w4.setCell ⟨gM, 8, none⟩ (.int .i64 (IntKind.i64.wrap ((IntKind.u64.wrap i).tmod 4294967296)))).drew.frozen? ⟨gM, 10, none⟩ = false := m10.out.thaw 10
  have m9 : Hid (Blk ((w4.setCell ⟨gM, 8, none⟩ (.int .i64 (IntKind.i64.wrap ((IntKind.u64.wrap i).tmod 4294967296)))).setCell ⟨gM, 10, none⟩ (.int .i64 (IntKind.i64.wrap ((IntKind.u64.wrap z).tmod 65536)))).drew gM 32 #[.int .i64 (mdF k 7), .int .i64 (IntKind.i64.wrap ((IntKind.u64.wrap a).tmod 65536)), .int .i64 (IntKind.i64.wrap ((IntKind.u64.wrap s).tmod 65536)), .bool x, .int .i64 (bigF p), .int .i64 (bigF q), .int .i64 (bigF n), .int .i64 (bigF t), .int .i64 (IntKind.i64.wrap ((IntKind.u64.wrap i).tmod 4294967296)), .int .i64 y, .int .i64 (IntKind.i64.wrap ((IntKind.u64.wrap z).tmod 65536)), .int .i64 v]) := dr (show Blk ((w4.setCell ⟨gM, 8, none⟩ (.int .i64 (IntKind.i64.wrap ((IntKind.u64.wrap i).tmod 4294967296)))).setCell ⟨gM, 10, none⟩ (.int .i64 (IntKind.i64.wrap ((IntKind.u64.wrap z).tmod 65536)))) gM 32 #[.int .i64 (mdF k 7), .int .i64 (IntKind.i64.wrap ((IntKind.u64.wrap a).tmod 65536)), .int .i64 (IntKind.i64.wrap ((IntKind.u64.wrap s).tmod 65536)), .bool x, .int .i64 (bigF p), .int .i64 (bigF q), .int .i64 (bigF n), .int .i64 (bigF t), .int .i64 (IntKind.i64.wrap ((IntKind.u64.wrap i).tmod 4294967296)), .int .i64 y, .int .i64 (IntKind.i64.wrap ((IntKind.u64.wrap z).tmod 65536)), .int .i64 v] from (blk_set (blk_set K4.out 8 (.int .i64 (IntKind.i64.wrap ((IntKind.u64.wrap i).tmod 4294967296)))) 10 (.int .i64 (IntKind.i64.wrap ((IntKind.u64.wrap z).tmod 65536)))))
  have x9' : ((w4.setCell ⟨gM, 8, none⟩ (.int .i64 (IntKind.i64.wrap ((IntKind.u64.wrap i).tmod 4294967296)))).setCell ⟨gM, 10, none⟩ (.int .i64 (IntKind.i64.wrap ((IntKind.u64.wrap z).tmod 65536)))).drew.cell? ⟨gM, 9, none⟩ = some (.int .i64 y) := m9.out.cell 9
  have z9' : ((w4.setCell ⟨gM, 8, none⟩ (.int .i64 (IntKind.i64.wrap ((IntKind.u64.wrap i).tmod 4294967296)))).setCell ⟨gM, 10, none⟩ (.int .i64 (IntKind.i64.wrap ((IntKind.u64.wrap z).tmod 65536)))).drew.frozen? ⟨gM, 9, none⟩ = false := m9.out.thaw 9
  have m11 : Hid (Blk (((w4.setCell ⟨gM, 8, none⟩ (.int .i64 (IntKind.i64.wrap ((IntKind.u64.wrap i).tmod 4294967296)))).setCell ⟨gM, 10, none⟩ (.int .i64 (IntKind.i64.wrap ((IntKind.u64.wrap z).tmod 65536)))).setCell ⟨gM, 9, none⟩ (.int .i64 (bigF y))).drew gM 32 #[.int .i64 (mdF k 7), .int .i64 (IntKind.i64.wrap ((IntKind.u64.wrap a).tmod 65536)), .int .i64 (IntKind.i64.wrap ((IntKind.u64.wrap s).tmod 65536)), .bool x, .int .i64 (bigF p), .int .i64 (bigF q), .int .i64 (bigF n), .int .i64 (bigF t), .int .i64 (IntKind.i64.wrap ((IntKind.u64.wrap i).tmod 4294967296)), .int .i64 (bigF y), .int .i64 (IntKind.i64.wrap ((IntKind.u64.wrap z).tmod 65536)), .int .i64 v]) := dr (show Blk (((w4.setCell ⟨gM, 8, none⟩ (.int .i64 (IntKind.i64.wrap ((IntKind.u64.wrap i).tmod 4294967296)))).setCell ⟨gM, 10, none⟩ (.int .i64 (IntKind.i64.wrap ((IntKind.u64.wrap z).tmod 65536)))).setCell ⟨gM, 9, none⟩ (.int .i64 (bigF y))) gM 32 #[.int .i64 (mdF k 7), .int .i64 (IntKind.i64.wrap ((IntKind.u64.wrap a).tmod 65536)), .int .i64 (IntKind.i64.wrap ((IntKind.u64.wrap s).tmod 65536)), .bool x, .int .i64 (bigF p), .int .i64 (bigF q), .int .i64 (bigF n), .int .i64 (bigF t), .int .i64 (IntKind.i64.wrap ((IntKind.u64.wrap i).tmod 4294967296)), .int .i64 (bigF y), .int .i64 (IntKind.i64.wrap ((IntKind.u64.wrap z).tmod 65536)), .int .i64 v] from (blk_set (blk_set (blk_set K4.out 8 (.int .i64 (IntKind.i64.wrap ((IntKind.u64.wrap i).tmod 4294967296)))) 10 (.int .i64 (IntKind.i64.wrap ((IntKind.u64.wrap z).tmod 65536)))) 9 (.int .i64 (bigF y))))
  have x11' : (((w4.setCell ⟨gM, 8, none⟩ (.int .i64 (IntKind.i64.wrap ((IntKind.u64.wrap i).tmod 4294967296)))).setCell ⟨gM, 10, none⟩ (.int .i64 (IntKind.i64.wrap ((IntKind.u64.wrap z).tmod 65536)))).setCell ⟨gM, 9, none⟩ (.int .i64 (bigF y))).drew.cell? ⟨gM, 11, none⟩ = some (.int .i64 v) := m11.out.cell 11
  have z11' : (((w4.setCell ⟨gM, 8, none⟩ (.int .i64 (IntKind.i64.wrap ((IntKind.u64.wrap i).tmod 4294967296)))).setCell ⟨gM, 10, none⟩ (.int .i64 (IntKind.i64.wrap ((IntKind.u64.wrap z).tmod 65536)))).setCell ⟨gM, 9, none⟩ (.int .i64 (bigF y))).drew.frozen? ⟨gM, 11, none⟩ = false := m11.out.thaw 11
  have HT : Hid (w4.drew.cell? ⟨gM, 8, none⟩ = some (.int .i64 i) ∧ w4.drew.cell? ⟨gM, 10, none⟩ = some (.int .i64 z) ∧ w4.drew.cell? ⟨gM, 9, none⟩ = some (.int .i64 y) ∧ w4.drew.cell? ⟨gM, 11, none⟩ = some (.int .i64 v)) := ⟨K4d.out.cell 8, K4d.out.cell 10, K4d.out.cell 9, K4d.out.cell 11⟩
  have K5 : Hid (Blk ((((w4.setCell ⟨gM, 8, none⟩ (.int .i64 (IntKind.i64.wrap ((IntKind.u64.wrap i).tmod 4294967296)))).setCell ⟨gM, 10, none⟩ (.int .i64 (IntKind.i64.wrap ((IntKind.u64.wrap z).tmod 65536)))).setCell ⟨gM, 9, none⟩ (.int .i64 (bigF y))).setCell ⟨gM, 11, none⟩ (.int .i64 (bigF v))).drew gM 32 #[.int .i64 (mdF k 7), .int .i64 (IntKind.i64.wrap ((IntKind.u64.wrap a).tmod 65536)), .int .i64 (IntKind.i64.wrap ((IntKind.u64.wrap s).tmod 65536)), .bool x, .int .i64 (bigF p), .int .i64 (bigF q), .int .i64 (bigF n), .int .i64 (bigF t), .int .i64 (IntKind.i64.wrap ((IntKind.u64.wrap i).tmod 4294967296)), .int .i64 (bigF y), .int .i64 (IntKind.i64.wrap ((IntKind.u64.wrap z).tmod 65536)), .int .i64 (bigF v)]) := dr (show Blk ((((w4.setCell ⟨gM, 8, none⟩ (.int .i64 (IntKind.i64.wrap ((IntKind.u64.wrap i).tmod 4294967296)))).setCell ⟨gM, 10, none⟩ (.int .i64 (IntKind.i64.wrap ((IntKind.u64.wrap z).tmod 65536)))).setCell ⟨gM, 9, none⟩ (.int .i64 (bigF y))).setCell ⟨gM, 11, none⟩ (.int .i64 (bigF v))) gM 32 #[.int .i64 (mdF k 7), .int .i64 (IntKind.i64.wrap ((IntKind.u64.wrap a).tmod 65536)), .int .i64 (IntKind.i64.wrap ((IntKind.u64.wrap s).tmod 65536)), .bool x, .int .i64 (bigF p), .int .i64 (bigF q), .int .i64 (bigF n), .int .i64 (bigF t), .int .i64 (IntKind.i64.wrap ((IntKind.u64.wrap i).tmod 4294967296)), .int .i64 (bigF y), .int .i64 (IntKind.i64.wrap ((IntKind.u64.wrap z).tmod 65536)), .int .i64 (bigF v)] from (blk_set (blk_set (blk_set (blk_set K4.out 8 (.int .i64 (IntKind.i64.wrap ((IntKind.u64.wrap i).tmod 4294967296)))) 10 (.int .i64 (IntKind.i64.wrap ((IntKind.u64.wrap z).tmod 65536)))) 9 (.int .i64 (bigF y))) 11 (.int .i64 (bigF v))))
  have R5 : Hid (Blk ((((w4.setCell ⟨gM, 8, none⟩ (.int .i64 (IntKind.i64.wrap ((IntKind.u64.wrap i).tmod 4294967296)))).setCell ⟨gM, 10, none⟩ (.int .i64 (IntKind.i64.wrap ((IntKind.u64.wrap z).tmod 65536)))).setCell ⟨gM, 9, none⟩ (.int .i64 (bigF y))).setCell ⟨gM, 11, none⟩ (.int .i64 (bigF v))).drew gR 32 #[.int .i64 0, .int .i64 0, .int .i64 0, .bool false, .int .i64 0, .int .i64 0, .int .i64 0, .int .i64 0, .int .i64 0, .int .i64 0, .int .i64 0, .int .i64 0]) := dr (show Blk ((((w4.setCell ⟨gM, 8, none⟩ (.int .i64 (IntKind.i64.wrap ((IntKind.u64.wrap i).tmod 4294967296)))).setCell ⟨gM, 10, none⟩ (.int .i64 (IntKind.i64.wrap ((IntKind.u64.wrap z).tmod 65536)))).setCell ⟨gM, 9, none⟩ (.int .i64 (bigF y))).setCell ⟨gM, 11, none⟩ (.int .i64 (bigF v))) gR 32 #[.int .i64 0, .int .i64 0, .int .i64 0, .bool false, .int .i64 0, .int .i64 0, .int .i64 0, .int .i64 0, .int .i64 0, .int .i64 0, .int .i64 0, .int .i64 0] from (far (far (far (far R4.out hne.symm (.int .i64 (IntKind.i64.wrap ((IntKind.u64.wrap i).tmod 4294967296)))) hne.symm (.int .i64 (IntKind.i64.wrap ((IntKind.u64.wrap z).tmod 65536)))) hne.symm (.int .i64 (bigF y))) hne.symm (.int .i64 (bigF v))))
  have B5 : Hid (Below w.heap.size w ((((w4.setCell ⟨gM, 8, none⟩ (.int .i64 (IntKind.i64.wrap ((IntKind.u64.wrap i).tmod 4294967296)))).setCell ⟨gM, 10, none⟩ (.int .i64 (IntKind.i64.wrap ((IntKind.u64.wrap z).tmod 65536)))).setCell ⟨gM, 9, none⟩ (.int .i64 (bigF y))).setCell ⟨gM, 11, none⟩ (.int .i64 (bigF v))).drew) := Below.drew ((((B4.out.setCell (p := ⟨gM, 8, none⟩) hge.out.1 (.int .i64 (IntKind.i64.wrap ((IntKind.u64.wrap i).tmod 4294967296)))).setCell (p := ⟨gM, 10, none⟩) hge.out.1 (.int .i64 (IntKind.i64.wrap ((IntKind.u64.wrap z).tmod 65536)))).setCell (p := ⟨gM, 9, none⟩) hge.out.1 (.int .i64 (bigF y))).setCell (p := ⟨gM, 11, none⟩) hge.out.1 (.int .i64 (bigF v)))
  go_upto_region 4 with fail
  refine wp_region_noPanic ?_
  refine wp_region_L (T := (fun w' => w'.cell? ⟨gM, 8, none⟩ = some (.int .i64 i) ∧ w'.cell? ⟨gM, 10, none⟩ = some (.int .i64 z) ∧ w'.cell? ⟨gM, 9, none⟩ = some (.int .i64 y) ∧ w'.cell? ⟨gM, 11, none⟩ = some (.int .i64 v))) (st := [17, 19, 21, 23]) (by kernel_rfl) ?_
  refine wpL_word (i := 0) (v := ?_) rfl (by kernel_rfl) (fun _ _ _ h => h) (by kernel_rfl) _ _ _ _ (by kernel_rfl) (by kernel_rfl) (Or.inl ⟨by rfl, ?_⟩) (fun _ => HT.out) ?_
  rotate_left
  · intro w' _
    go_simp
    try with_reducible rfl
  (try simp only [Act.put, List.getElem_toArray, List.getElem_cons_succ, List.getElem_cons_zero, List.setIfInBounds_toArray, List.set_cons_zero, List.set_cons_succ])
  refine wpL_load (i := 1) (v := ?_) rfl (by kernel_rfl) (fun _ _ _ h => h) (by kernel_rfl) (by kernel_rfl) _ _ _ _ (by kernel_rfl) (by kernel_rfl) (Or.inl ⟨by rfl, ?_⟩) (by kernel_rfl) HT.out ?_
  rotate_left
  · intro w' hS
    (try dsimp only at hS)
    obtain ⟨x4, x5, x6, x7⟩ := hS
    go_simp
    try with_reducible rfl
  (try simp only [Act.put, List.getElem_toArray, List.getElem_cons_succ, List.getElem_cons_zero, List.setIfInBounds_toArray, List.set_cons_zero, List.set_cons_succ])
  refine wpL_word (i := 2) (v := ?_) rfl (by kernel_rfl) (fun _ _ _ h => h) (by kernel_rfl) _ _ _ _ (by kernel_rfl) (by kernel_rfl) (Or.inl ⟨by rfl, ?_⟩) (fun _ => HT.out) ?_
  rotate_left
  · intro w' _
    go_simp
    try with_reducible rfl
  (try simp only [Act.put, List.getElem_toArray, List.getElem_cons_succ, List.getElem_cons_zero, List.setIfInBounds_toArray, List.set_cons_zero, List.set_cons_succ])
  refine wpL_word (i := 3) (v := ?_) rfl (by kernel_rfl) (fun _ _ _ h => h) (by kernel_rfl) _ _ _ _ (by kernel_rfl) (by kernel_rfl) (Or.inl ⟨by rfl, ?_⟩) (fun _ => HT.out) ?_
  rotate_left
  · intro w' _
    go_simp
    try with_reducible rfl
  (try simp only [Act.put, List.getElem_toArray, List.getElem_cons_succ, List.getElem_cons_zero, List.setIfInBounds_toArray, List.set_cons_zero, List.set_cons_succ])
  refine wpL_word (i := 4) (v := ?_) rfl (by kernel_rfl) (fun _ _ _ h => h) (by kernel_rfl) _ _ _ _ (by kernel_rfl) (by kernel_rfl) (Or.inl ⟨by rfl, ?_⟩) (fun _ => HT.out) ?_
  rotate_left
  · intro w' _
    go_simp
    try with_reducible rfl
  (try simp only [Act.put, List.getElem_toArray, List.getElem_cons_succ, List.getElem_cons_zero, List.setIfInBounds_toArray, List.set_cons_zero, List.set_cons_succ])
  refine wpL_word (i := 5) (v := ?_) rfl (by kernel_rfl) (fun _ _ _ h => h) (by kernel_rfl) _ _ _ _ (by kernel_rfl) (by kernel_rfl) (Or.inl ⟨by rfl, ?_⟩) (fun _ => HT.out) ?_
  rotate_left
  · intro w' _
    go_simp
    try with_reducible rfl
  (try simp only [Act.put, List.getElem_toArray, List.getElem_cons_succ, List.getElem_cons_zero, List.setIfInBounds_toArray, List.set_cons_zero, List.set_cons_succ])
  refine wpL_load (i := 6) (v := ?_) rfl (by kernel_rfl) (fun _ _ _ h => h) (by kernel_rfl) (by kernel_rfl) _ _ _ _ (by kernel_rfl) (by kernel_rfl) (Or.inl ⟨by rfl, ?_⟩) (by kernel_rfl) HT.out ?_
  rotate_left
  · intro w' hS
    (try dsimp only at hS)
    obtain ⟨x4, x5, x6, x7⟩ := hS
    go_simp
    try with_reducible rfl
  (try simp only [Act.put, List.getElem_toArray, List.getElem_cons_succ, List.getElem_cons_zero, List.setIfInBounds_toArray, List.set_cons_zero, List.set_cons_succ])
  refine wpL_word (i := 7) (v := ?_) rfl (by kernel_rfl) (fun _ _ _ h => h) (by kernel_rfl) _ _ _ _ (by kernel_rfl) (by kernel_rfl) (Or.inl ⟨by rfl, ?_⟩) (fun _ => HT.out) ?_
  rotate_left
  · intro w' _
    go_simp
    try with_reducible rfl
  (try simp only [Act.put, List.getElem_toArray, List.getElem_cons_succ, List.getElem_cons_zero, List.setIfInBounds_toArray, List.set_cons_zero, List.set_cons_succ])
  refine wpL_word (i := 8) (v := ?_) rfl (by kernel_rfl) (fun _ _ _ h => h) (by kernel_rfl) _ _ _ _ (by kernel_rfl) (by kernel_rfl) (Or.inl ⟨by rfl, ?_⟩) (fun _ => HT.out) ?_
  rotate_left
  · intro w' _
    go_simp
    try with_reducible rfl
  (try simp only [Act.put, List.getElem_toArray, List.getElem_cons_succ, List.getElem_cons_zero, List.setIfInBounds_toArray, List.set_cons_zero, List.set_cons_succ])
  refine wpL_word (i := 9) (v := ?_) rfl (by kernel_rfl) (fun _ _ _ h => h) (by kernel_rfl) _ _ _ _ (by kernel_rfl) (by kernel_rfl) (Or.inl ⟨by rfl, ?_⟩) (fun _ => HT.out) ?_
  rotate_left
  · intro w' _
    go_simp
    try with_reducible rfl
  (try simp only [Act.put, List.getElem_toArray, List.getElem_cons_succ, List.getElem_cons_zero, List.setIfInBounds_toArray, List.set_cons_zero, List.set_cons_succ])
  refine wpL_word (i := 10) (v := ?_) rfl (by kernel_rfl) (fun _ _ _ h => h) (by kernel_rfl) _ _ _ _ (by kernel_rfl) (by kernel_rfl) (Or.inl ⟨by rfl, ?_⟩) (fun _ => HT.out) ?_
  rotate_left
  · intro w' _
    go_simp
    try with_reducible rfl
  (try simp only [Act.put, List.getElem_toArray, List.getElem_cons_succ, List.getElem_cons_zero, List.setIfInBounds_toArray, List.set_cons_zero, List.set_cons_succ])
  refine wpL_load (i := 11) (v := ?_) rfl (by kernel_rfl) (fun _ _ _ h => h) (by kernel_rfl) (by kernel_rfl) _ _ _ _ (by kernel_rfl) (by kernel_rfl) (Or.inl ⟨by rfl, ?_⟩) (by kernel_rfl) HT.out ?_
  rotate_left
  · intro w' hS
    (try dsimp only at hS)
    obtain ⟨x4, x5, x6, x7⟩ := hS
    go_simp
    try with_reducible rfl
  (try simp only [Act.put, List.getElem_toArray, List.getElem_cons_succ, List.getElem_cons_zero, List.setIfInBounds_toArray, List.set_cons_zero, List.set_cons_succ])
  refine wpL_word (i := 13) (v := ?_) rfl (by kernel_rfl) (fun _ _ _ h => h) (by kernel_rfl) _ _ _ _ (by kernel_rfl) (by kernel_rfl) (Or.inl ⟨by rfl, ?_⟩) (fun _ => HT.out) ?_
  rotate_left
  · intro w' _
    go_simp
    try with_reducible rfl
  (try simp only [Act.put, List.getElem_toArray, List.getElem_cons_succ, List.getElem_cons_zero, List.setIfInBounds_toArray, List.set_cons_zero, List.set_cons_succ])
  refine wpL_load (i := 14) (v := ?_) rfl (by kernel_rfl) (fun _ _ _ h => h) (by kernel_rfl) (by kernel_rfl) _ _ _ _ (by kernel_rfl) (by kernel_rfl) (Or.inl ⟨by rfl, ?_⟩) (by kernel_rfl) HT.out ?_
  rotate_left
  · intro w' hS
    (try dsimp only at hS)
    obtain ⟨x4, x5, x6, x7⟩ := hS
    go_simp
    try with_reducible rfl
  (try simp only [Act.put, List.getElem_toArray, List.getElem_cons_succ, List.getElem_cons_zero, List.setIfInBounds_toArray, List.set_cons_zero, List.set_cons_succ])
  refine wpL_word (i := 16) (v := ?_) rfl (by kernel_rfl) (fun _ _ _ h => h) (by kernel_rfl) _ _ _ _ (by kernel_rfl) (by kernel_rfl) (Or.inl ⟨by rfl, ?_⟩) (fun _ => HT.out) ?_
  rotate_left
  · intro w' _
    go_simp
    try with_reducible rfl
  (try simp only [Act.put, List.getElem_toArray, List.getElem_cons_succ, List.getElem_cons_zero, List.setIfInBounds_toArray, List.set_cons_zero, List.set_cons_succ])
  refine wpL_next (n := 12) (by kernel_rfl) rfl (fun K' hK => ?_)
  go_simp
  refine (big_any y _ HI.out.2.2.2.2.1).mono ?_
  rintro e wz ⟨rfl, rfl⟩
  go_wp2_with fail
  refine hK.out _ _ HT.out ?_
  clear hK K'
  (try simp only [Act.put, List.getElem_toArray, List.getElem_cons_succ, List.getElem_cons_zero, List.setIfInBounds_toArray, List.set_cons_zero, List.set_cons_succ])
  refine wpL_next (n := 15) (by kernel_rfl) rfl (fun K' hK => ?_)
  go_simp
  refine (big_any v _ HI.out.2.2.2.2.2).mono ?_
  rintro e wz ⟨rfl, rfl⟩
  go_wp2_with fail
  refine hK.out _ _ HT.out ?_
  clear hK K'
  (try simp only [Act.put, List.getElem_toArray, List.getElem_cons_succ, List.getElem_cons_zero, List.setIfInBounds_toArray, List.set_cons_zero, List.set_cons_succ])
  refine wpL_late (n := 17) (by kernel_rfl) rfl (by kernel_rfl) (fun K' hK => ?_)
  go_simp
  refine hK.out _ _ ?_
  clear hK K'
  (try simp only [Act.put, List.getElem_toArray, List.getElem_cons_succ, List.getElem_cons_zero, List.setIfInBounds_toArray, List.set_cons_zero, List.set_cons_succ])
  refine wpL_word (i := 18) (v := ?_) rfl (by kernel_rfl) (fun _ _ _ h => h) (by kernel_rfl) _ _ _ _ (by kernel_rfl) (by kernel_rfl) (Or.inl ⟨by rfl, ?_⟩) (fun h => absurd h (by decide +kernel)) ?_
  rotate_left
  · intro w' _
    go_simp
    try with_reducible rfl
  (try simp only [Act.put, List.getElem_toArray, List.getElem_cons_succ, List.getElem_cons_zero, List.setIfInBounds_toArray, List.set_cons_zero, List.set_cons_succ])
  refine wpL_late (n := 19) (by kernel_rfl) rfl (by kernel_rfl) (fun K' hK => ?_)
  go_simp
  refine hK.out _ _ ?_
  clear hK K'
  (try simp only [Act.put, List.getElem_toArray, List.getElem_cons_succ, List.getElem_cons_zero, List.setIfInBounds_toArray, List.set_cons_zero, List.set_cons_succ])
  refine wpL_word (i := 20) (v := ?_) rfl (by kernel_rfl) (fun _ _ _ h => h) (by kernel_rfl) _ _ _ _ (by kernel_rfl) (by kernel_rfl) (Or.inl ⟨by rfl, ?_⟩) (fun h => absurd h (by decide +kernel)) ?_
  rotate_left
  · intro w' _
    go_simp
    try with_reducible rfl
  (try simp only [Act.put, List.getElem_toArray, List.getElem_cons_succ, List.getElem_cons_zero, List.setIfInBounds_toArray, List.set_cons_zero, List.set_cons_succ])
  refine wpL_late (n := 21) (by kernel_rfl) rfl (by kernel_rfl) (fun K' hK => ?_)
  go_simp
  refine hK.out _ _ ?_
  clear hK K'
  (try simp only [Act.put, List.getElem_toArray, List.getElem_cons_succ, List.getElem_cons_zero, List.setIfInBounds_toArray, List.set_cons_zero, List.set_cons_succ])
  refine wpL_word (i := 22) (v := ?_) rfl (by kernel_rfl) (fun _ _ _ h => h) (by kernel_rfl) _ _ _ _ (by kernel_rfl) (by kernel_rfl) (Or.inl ⟨by rfl, ?_⟩) (fun h => absurd h (by decide +kernel)) ?_
  rotate_left
  · intro w' _
    go_simp
    try with_reducible rfl
  (try simp only [Act.put, List.getElem_toArray, List.getElem_cons_succ, List.getElem_cons_zero, List.setIfInBounds_toArray, List.set_cons_zero, List.set_cons_succ])
  refine wpL_late (n := 23) (by kernel_rfl) rfl (by kernel_rfl) (fun K' hK => ?_)
  go_simp
  refine hK.out _ _ ?_
  clear hK K'
  (try simp only [Act.put, List.getElem_toArray, List.getElem_cons_succ, List.getElem_cons_zero, List.setIfInBounds_toArray, List.set_cons_zero, List.set_cons_succ])
  refine wpL_done (by kernel_rfl) ?_ _
  refine NoPanic.normal ?_
  clear z8 z9 z10 z11 x8 x9 x10 x11 x9' x10' x11' z9' z10' z11' m9 m10 m11 HT K4d R4d B4d K4 R4 B4
  generalize ((((w4.setCell ⟨gM, 8, none⟩ (.int .i64 (IntKind.i64.wrap ((IntKind.u64.wrap i).tmod 4294967296)))).setCell ⟨gM, 10, none⟩ (.int .i64 (IntKind.i64.wrap ((IntKind.u64.wrap z).tmod 65536)))).setCell ⟨gM, 9, none⟩ (.int .i64 (bigF y))).setCell ⟨gM, 11, none⟩ (.int .i64 (bigF v))).drew = w5 at K5 R5 B5 ⊢
  have K8 : Hid (Blk w5 gM 32 #[.int .i64 (mdF k 7), .int .i64 (mdF a 65536), .int .i64 (mdF s 65536), .bool x, .int .i64 (bigF p), .int .i64 (bigF q), .int .i64 (bigF n), .int .i64 (bigF t), .int .i64 (mdF i 4294967296), .int .i64 (bigF y), .int .i64 (mdF z 65536), .int .i64 (bigF v)]) := K5.out
  clear K5
  obtain ⟨j0, j1, j2, j3, j4, j5, j6, j7, j8, j9, j10, j11⟩ := c12_of K8.out
  go_wp2_with fail
  refine (bare_any ⟨(mdF k 7), (mdF a 65536), (mdF s 65536), x, (bigF p), (bigF q), (bigF n), (bigF t), (mdF i 4294967296), (bigF y), (mdF z 65536), (bigF v)⟩ _).mono ?_
  generalize hF : alM ⟨(mdF k 7), (mdF a 65536), (mdF s 65536), x, (bigF p), (bigF q), (bigF n), (bigF t), (mdF i 4294967296), (bigF y), (mdF z 65536), (bigF v)⟩ = F
  obtain ⟨k2, a2, s2, x2, p2, q2, n2, t2, i2, y2, z2, v2⟩ := F
  rintro e w6 ⟨rfl, hb6⟩
  rw [show mvl ⟨k2, a2, s2, x2, p2, q2, n2, t2, i2, y2, z2, v2⟩ = .agg #[.int .i64 k2, .int .i64 a2, .int .i64 s2, .bool x2, .int .i64 p2, .int .i64 q2, .int .i64 n2, .int .i64 t2, .int .i64 i2, .int .i64 y2, .int .i64 z2, .int .i64 v2] from rfl]
  have R6 : Hid (Blk w6 gR 32 #[.int .i64 0, .int .i64 0, .int .i64 0, .bool false, .int .i64 0, .int .i64 0, .int .i64 0, .int .i64 0, .int .i64 0, .int .i64 0, .int .i64 0, .int .i64 0]) := Blk.below' R5.out hb6
  have B6 : Hid (Below w.heap.size w w6) := below_step B5.out hb6
  have HF : Hid (fixM ⟨k, a, s, x, p, q, n, t, i, y, z, v⟩ = ⟨k2, a2, s2, x2, p2, q2, n2, t2, i2, y2, z2, v2⟩) := hF
  clear hF hb6 j0 j1 j2 j3 j4 j5 j6 j7 j8 j9 j10 j11 K8 R5 B5
  obtain ⟨j0, j1, j2, j3, j4, j5, j6, j7, j8, j9, j10, j11, g0, g1, g2, g3, g4, g5, g6, g7, g8, g9, g10, g11⟩ := z12_of R6.out
  have f3 : Blk (st12 w6 gR (.int .i64 k2) (.int .i64 a2) (.int .i64 s2) (.bool x2) (.int .i64 p2) (.int .i64 q2) (.int .i64 n2) (.int .i64 t2) (.int .i64 i2) (.int .i64 y2) (.int .i64 z2) (.int .i64 v2)) gR 32 #[.int .i64 k2, .int .i64 a2, .int .i64 s2, .bool x2, .int .i64 p2, .int .i64 q2, .int .i64 n2, .int .i64 t2, .int .i64 i2, .int .i64 y2, .int .i64 z2, .int .i64 v2] := st12_blk R6.out
  have hfin : Below w.heap.size w (st12 w6 gR (.int .i64 k2) (.int .i64 a2) (.int .i64 s2) (.bool x2) (.int .i64 p2) (.int .i64 q2) (.int .i64 n2) (.int .i64 t2) (.int .i64 i2) (.int .i64 y2) (.int .i64 z2) (.int .i64 v2)) := st12_below B6.out hge.out.2
  go_wp2_with fail
  obtain ⟨d0, d1, d2, d3, d4, d5, d6, d7, d8, d9, d10, d11⟩ := c12_of f3
  clear f3 R6
  unfold st12 at d0 d1 d2 d3 d4 d5 d6 d7 d8 d9 d10 d11 hfin
  exact bodyPost_ret (v := .agg #[.int .i64 k2, .int .i64 a2, .int .i64 s2, .bool x2, .int .i64 p2, .int .i64 q2, .int .i64 n2, .int .i64 t2, .int .i64 i2, .int .i64 y2, .int .i64 z2, .int .i64 v2]) (by simp [results, Try.results5, go_sem, d0, d1, d2, d3, d4, d5, d6, d7, d8, d9, d10, d11]) rfl ⟨by rw [HF.out]; rfl, hfin⟩
end Go.Proofs.Ytkobldddiedmdaa.Wfx
