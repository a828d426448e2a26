/- Texts side by side. -/
import Derived.Laws.StructEq
import Derived.Test.YtmjkhejfhpgiiaaDoorSrqc
set_option linter.unusedVariables false
set_option linter.unusedSimpArgs false
set_option maxRecDepth 100000
set_option maxHeartbeats 16000000
namespace Go.Proofs.YtmjkhejfhpgiiaaDoor
open Go.ChangeShapes Go.WideShapes Go.ChangeAt Go.RowKit Mem Tre Ref3 Law3 Fix3 CrdB Wpl
namespace Wmr
theorem eqP (w : World) (m n : M) : (binOp .eql 54 (mvl m) (mvl n)).run Tryd.prog w = .ok (.bool (eqM m n)) w := by
  have p1 : Tryd.prog.stoodInHeld 54 = false := by kernel_rfl
  have p2 : Tryd.prog.stoodInHeld 52 = false := by kernel_rfl
  have u1 : Tryd.prog.underlying 54 = some (.struct (Tryd.prog.fieldsOf 54)) := by kernel_rfl
  have u2 : Tryd.prog.underlying 52 = some (.struct (Tryd.prog.fieldsOf 52)) := by kernel_rfl
  unfold mvl
  rw [run_eql_struct, run_equalIn_agg _ _ _ _ _ u1 p1]
  simp only [Program.fieldsOf, Tryd.underlying54]
  simp [Op.eqFields, go_sem, Program.fieldsOf, Tryd.underlying54, Tryd.underlying52, Tryd.underlying3, Tryd.underlying2, Tryd.underlying4, part]
  by_cases e0 : m.k = n.k
  case neg => rw [if_neg e0]; simp [eqM, e0]
  rw [if_pos e0]
  by_cases e1 : m.a = n.a
  case neg => rw [if_neg e1]; simp [eqM, e1]
  rw [if_pos e1]
  by_cases e2 : m.s = n.s
  case neg => rw [if_neg e2]; simp [eqM, e2]
  rw [if_pos e2]
  by_cases e3 : m.x = n.x
  case neg => rw [if_neg e3]; simp [eqM, e3]
  rw [if_pos e3]
  by_cases e4 : m.p = n.p
  case neg => rw [if_neg e4]; simp [eqM, e4]
  rw [if_pos e4]
  by_cases e5 : m.q = n.q
  case neg => rw [if_neg e5]; simp [eqM, e5]
  rw [if_pos e5]
  by_cases e6 : m.n = n.n
  case neg => rw [if_neg e6]; simp [eqM, e6]
  rw [if_pos e6]
  by_cases e7 : m.t = n.t
  case neg => rw [if_neg e7]; simp [eqM, e7]
  rw [if_pos e7]
  by_cases e8 : m.i = n.i
  case neg => rw [if_neg e8]; simp [eqM, e8]
  rw [if_pos e8]
  by_cases e9 : m.y = n.y
  case neg => rw [if_neg e9]; simp [eqM, e9]
  rw [if_pos e9]
  by_cases e10 : m.z = n.z
  case neg => rw [if_neg e10]; simp [eqM, e10]
  rw [if_pos e10]
  by_cases e11 : m.v = n.v
  case neg => rw [if_neg e11]; simp [eqM, e11]
  rw [if_pos e11]
  simp [eqM, e0, e1, e2, e3, e4, e5, e6, e7, e8, e9, e10, e11]
theorem eqP12 (k1 a1 s1 p1 q1 n1 t1 i1 y1 z1 v1 k2 a2 s2 p2 q2 n2 t2 i2 y2 z2 v2 : Int) (x1 x2 : Bool) (w : World) : (binOp .eql 54 (.agg #[.int .i64 k1, .int .i64 a1, .int .i64 s1, .bool x1, .int .i64 p1, .int .i64 q1, .int .i64 n1, .int .i64 t1, .int .i64 i1, .int .i64 y1, .int .i64 z1, .int .i64 v1]) (.agg #[.int .i64 k2, .int .i64 a2, .int .i64 s2, .bool x2, .int .i64 p2, .int .i64 q2, .int .i64 n2, .int .i64 t2, .int .i64 i2, .int .i64 y2, .int .i64 z2, .int .i64 v2])).run Tryd.prog w = .ok (.bool (eqM ⟨k1, a1, s1, x1, p1, q1, n1, t1, i1, y1, z1, v1⟩ ⟨k2, a2, s2, x2, p2, q2, n2, t2, i2, y2, z2, v2⟩)) w :=
  eqP w ⟨k1, a1, s1, x1, p1, q1, n1, t1, i1, y1, z1, v1⟩ ⟨k2, a2, s2, x2, p2, q2, n2, t2, i2, y2, z2, v2⟩
theorem neQ (w : World) (m n : M) : (binOp .neq 50 (mvl m) (mvl n)).run Tryd.prog w = .ok (.bool (!eqM m n)) w := by
  have p1 : Tryd.prog.stoodInHeld 50 = false := by kernel_rfl
  have p2 : Tryd.prog.stoodInHeld 48 = false := by kernel_rfl
  have u1 : Tryd.prog.underlying 50 = some (.struct (Tryd.prog.fieldsOf 50)) := by kernel_rfl
  have u2 : Tryd.prog.underlying 48 = some (.struct (Tryd.prog.fieldsOf 48)) := by kernel_rfl
  unfold mvl
  rw [run_neq_struct, run_equalIn_agg _ _ _ _ _ u1 p1]
  simp only [Program.fieldsOf, Tryd.underlying50]
  simp [Op.eqFields, go_sem, Program.fieldsOf, Tryd.underlying50, Tryd.underlying48, Tryd.underlying3, Tryd.underlying2, Tryd.underlying4, part]
  by_cases e0 : m.k = n.k
  case neg => rw [if_neg e0]; simp [eqM, e0]
  rw [if_pos e0]
  by_cases e1 : m.a = n.a
  case neg => rw [if_neg e1]; simp [eqM, e1]
  rw [if_pos e1]
  by_cases e2 : m.s = n.s
  case neg => rw [if_neg e2]; simp [eqM, e2]
  rw [if_pos e2]
  by_cases e3 : m.x = n.x
  case neg => rw [if_neg e3]; simp [eqM, e3]
  rw [if_pos e3]
  by_cases e4 : m.p = n.p
  case neg => rw [if_neg e4]; simp [eqM, e4]
  rw [if_pos e4]
  by_cases e5 : m.q = n.q
  case neg => rw [if_neg e5]; simp [eqM, e5]
  rw [if_pos e5]
  by_cases e6 : m.n = n.n
  case neg => rw [if_neg e6]; simp [eqM, e6]
  rw [if_pos e6]
  by_cases e7 : m.t = n.t
  case neg => rw [if_neg e7]; simp [eqM, e7]
  rw [if_pos e7]
  by_cases e8 : m.i = n.i
  case neg => rw [if_neg e8]; simp [eqM, e8]
  rw [if_pos e8]
  by_cases e9 : m.y = n.y
  case neg => rw [if_neg e9]; simp [eqM, e9]
  rw [if_pos e9]
  by_cases e10 : m.z = n.z
  case neg => rw [if_neg e10]; simp [eqM, e10]
  rw [if_pos e10]
  by_cases e11 : m.v = n.v
  case neg => rw [if_neg e11]; simp [eqM, e11]
  rw [if_pos e11]
  simp [eqM, e0, e1, e2, e3, e4, e5, e6, e7, e8, e9, e10, e11]
def MadeM (m : M) (w : World) (e : Ending) (w' : World) : Prop := e = .returned (mvl m) ∧ Below w.heap.size w w'
theorem alone_any (m : M) (w : World) : Calls Tryd.prog 38 #[mvl m] w (MadeM (alM m) w) := by
  obtain ⟨k, a, s, x, p, q, n, t, i, y, z, v⟩ := m
  show Calls Tryd.prog 38 #[.agg #[.int .i64 k, .int .i64 a, .int .i64 s, .bool x, .int .i64 p, .int .i64 q, .int .i64 n, .int .i64 t, .int .i64 i, .int .i64 y, .int .i64 z, .int .i64 v]] w (MadeM (alM ⟨k, a, s, x, p, q, n, t, i, y, z, v⟩) w)
  by_cases k0 : k = 0
  · have q0 : (k == 0) = true := beq_iff_eq.2 k0
    have hal : alM ⟨k, a, s, x, p, q, n, t, i, y, z, v⟩ = ⟨k, a, s, x, p, q, n, t, 0, 0, 0, 0⟩ := by unfold alM; rw [if_pos k0]; rfl
    rw [hal]
    go_enter Tryd.func38, Tryd.ntmps38
    go_wp2_with fail
    exact bodyPost_ret (v := .agg #[.int .i64 k, .int .i64 a, .int .i64 s, .bool x, .int .i64 p, .int .i64 q, .int .i64 n, .int .i64 t, .int .i64 0, .int .i64 0, .int .i64 0, .int .i64 0]) (by simp [results, Tryd.results38, go_sem, k0]) rfl ⟨rfl, ((Below.refl _ _).alloc (Nat.le_refl _) _).alloc (by simp) _⟩
  · have q0 : (k == 0) = false := beq_eq_false_iff_ne.2 k0
    by_cases k1 : k = 1
    · have q1 : (k == 1) = true := beq_iff_eq.2 k1
      have hal : alM ⟨k, a, s, x, p, q, n, t, i, y, z, v⟩ = ⟨k, 0, 0, false, 0, 0, 0, 0, i, 0, 0, 0⟩ := by unfold alM; rw [if_neg k0, if_pos (.inl k1)]; rfl
      rw [hal]
      go_enter Tryd.func38, Tryd.ntmps38
      go_wp2_with fail
      exact bodyPost_ret (v := .agg #[.int .i64 k, .int .i64 0, .int .i64 0, .bool false, .int .i64 0, .int .i64 0, .int .i64 0, .int .i64 0, .int .i64 i, .int .i64 0, .int .i64 0, .int .i64 0]) (by simp [results, Tryd.results38, go_sem, k1]) rfl ⟨rfl, ((Below.refl _ _).alloc (Nat.le_refl _) _).alloc (by simp) _⟩
    · have q1 : (k == 1) = false := beq_eq_false_iff_ne.2 k1
      by_cases k3 : k = 3
      · have q3 : (k == 3) = true := beq_iff_eq.2 k3
        have hal : alM ⟨k, a, s, x, p, q, n, t, i, y, z, v⟩ = ⟨k, 0, 0, false, 0, 0, 0, 0, i, 0, 0, 0⟩ := by unfold alM; rw [if_neg k0, if_pos (.inr k3)]; rfl
        rw [hal]
        go_enter Tryd.func38, Tryd.ntmps38
        go_wp2_with fail
        exact bodyPost_ret (v := .agg #[.int .i64 k, .int .i64 0, .int .i64 0, .bool false, .int .i64 0, .int .i64 0, .int .i64 0, .int .i64 0, .int .i64 i, .int .i64 0, .int .i64 0, .int .i64 0]) (by simp [results, Tryd.results38, go_sem, k3]) rfl ⟨rfl, ((Below.refl _ _).alloc (Nat.le_refl _) _).alloc (by simp) _⟩
      · have q3 : (k == 3) = false := beq_eq_false_iff_ne.2 k3
        have k13 : ¬ (k = 1 ∨ k = 3) := by omega
        by_cases k2 : k = 2
        · have q2 : (k == 2) = true := beq_iff_eq.2 k2
          have hal : alM ⟨k, a, s, x, p, q, n, t, i, y, z, v⟩ = ⟨k, 0, 0, false, 0, 0, 0, 0, i, y, 0, 0⟩ := by unfold alM; rw [if_neg k0, if_neg k13, if_pos k2]; rfl
          rw [hal]
          go_enter Tryd.func38, Tryd.ntmps38
          go_wp2_with fail
          exact bodyPost_ret (v := .agg #[.int .i64 k, .int .i64 0, .int .i64 0, .bool false, .int .i64 0, .int .i64 0, .int .i64 0, .int .i64 0, .int .i64 i, .int .i64 y, .int .i64 0, .int .i64 0]) (by simp [results, Tryd.results38, go_sem, k2]) rfl ⟨rfl, ((Below.refl _ _).alloc (Nat.le_refl _) _).alloc (by simp) _⟩
        · have q2 : (k == 2) = false := beq_eq_false_iff_ne.2 k2
          by_cases k6 : k = 6
          · have q6 : (k == 6) = true := beq_iff_eq.2 k6
            have hal : alM ⟨k, a, s, x, p, q, n, t, i, y, z, v⟩ = ⟨k, 0, 0, false, 0, 0, 0, 0, 0, 0, z, v⟩ := by unfold alM; rw [if_neg k0, if_neg k13, if_neg k2, if_pos k6]; rfl
            rw [hal]
            go_enter Tryd.func38, Tryd.ntmps38
            go_wp2_with fail
            exact bodyPost_ret (v := .agg #[.int .i64 k, .int .i64 0, .int .i64 0, .bool false, .int .i64 0, .int .i64 0, .int .i64 0, .int .i64 0, .int .i64 0, .int .i64 0, .int .i64 z, .int .i64 v]) (by simp [results, Tryd.results38, go_sem, k6]) rfl ⟨rfl, ((Below.refl _ _).alloc (Nat.le_refl _) _).alloc (by simp) _⟩
          · have q6 : (k == 6) = false := beq_eq_false_iff_ne.2 k6
            have hal : alM ⟨k, a, s, x, p, q, n, t, i, y, z, v⟩ = ⟨k, 0, 0, false, 0, 0, 0, 0, 0, 0, 0, 0⟩ := by unfold alM; rw [if_neg k0, if_neg k13, if_neg k2, if_neg k6]; rfl
            rw [hal]
            go_enter Tryd.func38, Tryd.ntmps38
            go_wp2_with fail
            exact bodyPost_ret (v := .agg #[.int .i64 k, .int .i64 0, .int .i64 0, .bool false, .int .i64 0, .int .i64 0, .int .i64 0, .int .i64 0, .int .i64 0, .int .i64 0, .int .i64 0, .int .i64 0]) (by simp [results, Tryd.results38, go_sem, k0]) rfl ⟨rfl, ((Below.refl _ _).alloc (Nat.le_refl _) _).alloc (by simp) _⟩
end Wmr
end Go.Proofs.YtmjkhejfhpgiiaaDoor
