/- Texts side by side. -/
import Derived.Test.YtmjkhejfhpgiiaaDoorSrqd
set_option linter.unusedVariables false
set_option linter.unusedSimpArgs false
set_option maxRecDepth 100000
set_option maxHeartbeats 16000000
namespace Go.Proofs.YtmjkhejfhpgiiaaDoor
open Go.ChangeShapes Go.WideShapes Go.ChangeAt Go.RowKit Mem Tre Ref3 Law3 Fix3 CrdB Wpl Wmr
namespace Wrt
theorem wbtw_any (a n b : Int) (w : World) : Calls Tryd.prog 37 #[.int .i64 a, .int .i64 n, .int .i64 b] w fun e w' => e = .returned (.bool (decide (a ≤ n) && decide (n ≤ b))) ∧ w = w' := by
  by_cases h0 : a ≤ n
  · have t0 : decide (a ≤ n) = true := by simp; exact h0
    by_cases h1 : n ≤ b
    · have t1 : decide (n ≤ b) = true := by simp; exact h1
      go_enter Tryd.func37, Tryd.ntmps37
      go_wp2
      go_ret
      exact ⟨by first | rfl | (rw [t0, t1]; rfl), rfl⟩
    · have t1 : decide (n ≤ b) = false := by simp; omega
      go_enter Tryd.func37, Tryd.ntmps37
      go_wp2
      go_ret
      exact ⟨by first | rfl | (rw [t0, t1]; rfl), rfl⟩
  · have t0 : decide (a ≤ n) = false := by simp; omega
    go_enter Tryd.func37, Tryd.ntmps37
    go_wp2
    go_ret
    exact ⟨by first | rfl | (rw [t0]; rfl), rfl⟩
def mn (x y : Int) : Int := if y < x then y else x
theorem mn_ge {x y : Int} : 0 ≤ mn x y ↔ 0 ≤ x ∧ 0 ≤ y := by unfold mn; split <;> omega
theorem run_min6 {P : Program} {w : World} (ats : Array TypeId) (ty : TypeId) (p q n t y v : Int) :
    (Builtin.min_ ats ty #[.int .i64 p, .int .i64 q, .int .i64 n, .int .i64 t, .int .i64 y, .int .i64 v]).run P w = .ok (.int .i64 (mn (mn (mn (mn (mn p q) n) t) y) v)) w := by
  simp [Builtin.min_, Builtin.min2, List.foldlM, Sem.run_bind, Sem.run_pure, Result.andThen, mn] <;> rfl
attribute [local go_sem] run_min6
def MadeBl (b : Bool) (w : World) (e : Ending) (w' : World) : Prop := e = .returned (.bool b) ∧ Below w.heap.size w w'
theorem fits_any (m : M) (w : World) : Calls Tryd.prog 39 #[mvl m] w (MadeBl (fitM m) w) := by
  obtain ⟨k, a, s, x, p, q, n, t, i, y, z, v⟩ := m
  show Calls Tryd.prog 39 #[.agg #[.int .i64 k, .int .i64 a, .int .i64 s, .bool x, .int .i64 p, .int .i64 q, .int .i64 n, .int .i64 t, .int .i64 i, .int .i64 y, .int .i64 z, .int .i64 v]] w (MadeBl (fitM ⟨k, a, s, x, p, q, n, t, i, y, z, v⟩) w)
  by_cases ha : 0 ≤ a ∧ a ≤ 65535
  case neg =>
    have e : fitM ⟨k, a, s, x, p, q, n, t, i, y, z, v⟩ = false := by unfold fitM; simp only [decide_eq_false_iff_not]; intro h; exact ha (by omega)
    rw [e]
    have ta : (decide (0 ≤ a) && decide (a ≤ 65535)) = false := by simp; omega
    go_enter Tryd.func39, Tryd.ntmps39
    go_wp2_with (go_at_call 37; refine (wbtw_any _ _ _ _).mono ?_; rintro e w' ⟨rfl, rfl⟩)
    go_ret
    exact ⟨rfl, ((Below.refl _ _).alloc (Nat.le_refl _) _).alloc (by simp) _⟩
  have ta : (decide (0 ≤ a) && decide (a ≤ 65535)) = true := by simp; omega
  by_cases hs : 0 ≤ s ∧ s ≤ 65535
  case neg =>
    have e : fitM ⟨k, a, s, x, p, q, n, t, i, y, z, v⟩ = false := by unfold fitM; simp only [decide_eq_false_iff_not]; intro h; exact hs (by omega)
    rw [e]
    have ts : (decide (0 ≤ s) && decide (s ≤ 65535)) = false := by simp; omega
    go_enter Tryd.func39, Tryd.ntmps39
    go_wp2_with (go_at_call 37; refine (wbtw_any _ _ _ _).mono ?_; rintro e w' ⟨rfl, rfl⟩)
    go_ret
    exact ⟨rfl, ((Below.refl _ _).alloc (Nat.le_refl _) _).alloc (by simp) _⟩
  have ts : (decide (0 ≤ s) && decide (s ≤ 65535)) = true := by simp; omega
  by_cases hz : 0 ≤ z ∧ z ≤ 65535
  case neg =>
    have e : fitM ⟨k, a, s, x, p, q, n, t, i, y, z, v⟩ = false := by unfold fitM; simp only [decide_eq_false_iff_not]; intro h; exact hz (by omega)
    rw [e]
    have tz : (decide (0 ≤ z) && decide (z ≤ 65535)) = false := by simp; omega
    go_enter Tryd.func39, Tryd.ntmps39
    go_wp2_with (go_at_call 37; refine (wbtw_any _ _ _ _).mono ?_; rintro e w' ⟨rfl, rfl⟩)
    go_ret
    exact ⟨rfl, ((Below.refl _ _).alloc (Nat.le_refl _) _).alloc (by simp) _⟩
  have tz : (decide (0 ≤ z) && decide (z ≤ 65535)) = true := by simp; omega
  by_cases hi : 0 ≤ i ∧ i ≤ 4294967295
  case neg =>
    have e : fitM ⟨k, a, s, x, p, q, n, t, i, y, z, v⟩ = false := by unfold fitM; simp only [decide_eq_false_iff_not]; intro h; exact hi (by omega)
    rw [e]
    have ti : (decide (0 ≤ i) && decide (i ≤ 4294967295)) = false := by simp; omega
    go_enter Tryd.func39, Tryd.ntmps39
    go_wp2_with (go_at_call 37; refine (wbtw_any _ _ _ _).mono ?_; rintro e w' ⟨rfl, rfl⟩)
    go_ret
    exact ⟨rfl, ((Below.refl _ _).alloc (Nat.le_refl _) _).alloc (by simp) _⟩
  have ti : (decide (0 ≤ i) && decide (i ≤ 4294967295)) = true := by simp; omega
  by_cases hm : 0 ≤ p ∧ 0 ≤ q ∧ 0 ≤ n ∧ 0 ≤ t ∧ 0 ≤ y ∧ 0 ≤ v
  case neg =>
    have e : fitM ⟨k, a, s, x, p, q, n, t, i, y, z, v⟩ = false := by unfold fitM; simp only [decide_eq_false_iff_not]; intro h; exact hm (by omega)
    rw [e]
    have tm : decide (0 ≤ mn (mn (mn (mn (mn p q) n) t) y) v) = false := by rw [decide_eq_false_iff_not]; simp only [mn_ge]; omega
    go_enter Tryd.func39, Tryd.ntmps39
    go_wp2_with (go_at_call 37; refine (wbtw_any _ _ _ _).mono ?_; rintro e w' ⟨rfl, rfl⟩)
    go_ret
    exact ⟨rfl, ((Below.refl _ _).alloc (Nat.le_refl _) _).alloc (by simp) _⟩
  have tm : decide (0 ≤ mn (mn (mn (mn (mn p q) n) t) y) v) = true := by rw [decide_eq_true_eq]; simp only [mn_ge]; omega
  have e : fitM ⟨k, a, s, x, p, q, n, t, i, y, z, v⟩ = true := by unfold fitM; simp only [decide_eq_true_eq]; omega
  rw [e]
  go_enter Tryd.func39, Tryd.ntmps39
  go_wp2_with (go_at_call 37; refine (wbtw_any _ _ _ _).mono ?_; rintro e w' ⟨rfl, rfl⟩)
  go_ret
  exact ⟨rfl, ((Below.refl _ _).alloc (Nat.le_refl _) _).alloc (by simp) _⟩
theorem c12_of {W : World} {g : Nat} {te : TypeId} {v0 v1 v2 v3 v4 v5 v6 v7 v8 v9 v10 v11 : Value} (h : Blk W g te #[v0, v1, v2, v3, v4, v5, v6, v7, v8, v9, v10, v11]) : W.cell? ⟨g, 0, none⟩ = some v0 ∧ W.cell? ⟨g, 1, none⟩ = some v1 ∧ W.cell? ⟨g, 2, none⟩ = some v2 ∧ W.cell? ⟨g, 3, none⟩ = some v3 ∧ W.cell? ⟨g, 4, none⟩ = some v4 ∧ W.cell? ⟨g, 5, none⟩ = some v5 ∧ W.cell? ⟨g, 6, none⟩ = some v6 ∧ W.cell? ⟨g, 7, none⟩ = some v7 ∧ W.cell? ⟨g, 8, none⟩ = some v8 ∧ W.cell? ⟨g, 9, none⟩ = some v9 ∧ W.cell? ⟨g, 10, none⟩ = some v10 ∧ W.cell? ⟨g, 11, none⟩ = some v11 :=
  ⟨h.cell 0, h.cell 1, h.cell 2, h.cell 3, h.cell 4, h.cell 5, h.cell 6, h.cell 7, h.cell 8, h.cell 9, h.cell 10, h.cell 11⟩
attribute [local go_sem high] eqP12
theorem mvl_mk (m : M) : mvl m = .agg #[.int .i64 m.k, .int .i64 m.a, .int .i64 m.s, .bool m.x, .int .i64 m.p, .int .i64 m.q, .int .i64 m.n, .int .i64 m.t, .int .i64 m.i, .int .i64 m.y, .int .i64 m.z, .int .i64 m.v] := rfl
theorem right_eq (m n : M) (h : alM m = n) : rightM m = ((decide (0 ≤ m.k) && decide (m.k ≤ 6)) && (eqM m n && fitM m)) := by unfold rightM; rw [h]
theorem right_any (m : M) (w : World) : Calls Tryd.prog 24 #[mvl m] w (MadeBl (rightM m) w) := by
  obtain ⟨k, a, s, x, p, q, n, t, i, y, z, v⟩ := m
  show Calls Tryd.prog 24 #[.agg #[.int .i64 k, .int .i64 a, .int .i64 s, .bool x, .int .i64 p, .int .i64 q, .int .i64 n, .int .i64 t, .int .i64 i, .int .i64 y, .int .i64 z, .int .i64 v]] w (MadeBl (rightM ⟨k, a, s, x, p, q, n, t, i, y, z, v⟩) w)
  generalize hA : alM ⟨k, a, s, x, p, q, n, t, i, y, z, v⟩ = A
  obtain ⟨k2, a2, s2, x2, p2, q2, n2, t2, i2, y2, z2, v2⟩ := A
  have hr : rightM ⟨k, a, s, x, p, q, n, t, i, y, z, v⟩ = ((decide (0 ≤ k) && decide (k ≤ 6)) && (eqM ⟨k, a, s, x, p, q, n, t, i, y, z, v⟩ ⟨k2, a2, s2, x2, p2, q2, n2, t2, i2, y2, z2, v2⟩ && fitM ⟨k, a, s, x, p, q, n, t, i, y, z, v⟩)) := right_eq _ _ hA
  generalize h0 : (decide ((0 : Int) ≤ k) && decide (k ≤ 6)) = c0 at hr
  generalize h1 : eqM ⟨k, a, s, x, p, q, n, t, i, y, z, v⟩ ⟨k2, a2, s2, x2, p2, q2, n2, t2, i2, y2, z2, v2⟩ = c1 at hr
  generalize h2 : fitM ⟨k, a, s, x, p, q, n, t, i, y, z, v⟩ = c2 at hr
  rw [hr]
  clear hr
  have b0 : Hid (Below w.heap.size w (w.alloc (.cells #[.int .i64 k, .int .i64 a, .int .i64 s, .bool x, .int .i64 p, .int .i64 q, .int .i64 n, .int .i64 t, .int .i64 i, .int .i64 y, .int .i64 z, .int .i64 v] 54)).drew) := ((Below.refl _ _).alloc (Nat.le_refl _) _).drew
  have K0 : Hid (Blk (w.alloc (.cells #[.int .i64 k, .int .i64 a, .int .i64 s, .bool x, .int .i64 p, .int .i64 q, .int .i64 n, .int .i64 t, .int .i64 i, .int .i64 y, .int .i64 z, .int .i64 v] 54)).drew w.heap.size 54 #[.int .i64 k, .int .i64 a, .int .i64 s, .bool x, .int .i64 p, .int .i64 q, .int .i64 n, .int .i64 t, .int .i64 i, .int .i64 y, .int .i64 z, .int .i64 v]) := Blk.fresh w _ _
  go_enter Tryd.func24, Tryd.ntmps24
  go_upto_region 1 with fail
  have s0 : (w.alloc (.cells #[.int .i64 k, .int .i64 a, .int .i64 s, .bool x, .int .i64 p, .int .i64 q, .int .i64 n, .int .i64 t, .int .i64 i, .int .i64 y, .int .i64 z, .int .i64 v] 54)).cell? ⟨w.heap.size, 0, none⟩ = some (.int .i64 k) ∧ (w.alloc (.cells #[.int .i64 k, .int .i64 a, .int .i64 s, .bool x, .int .i64 p, .int .i64 q, .int .i64 n, .int .i64 t, .int .i64 i, .int .i64 y, .int .i64 z, .int .i64 v] 54)).cell? ⟨w.heap.size, 1, none⟩ = some (.int .i64 a) ∧ (w.alloc (.cells #[.int .i64 k, .int .i64 a, .int .i64 s, .bool x, .int .i64 p, .int .i64 q, .int .i64 n, .int .i64 t, .int .i64 i, .int .i64 y, .int .i64 z, .int .i64 v] 54)).cell? ⟨w.heap.size, 2, none⟩ = some (.int .i64 s) ∧ (w.alloc (.cells #[.int .i64 k, .int .i64 a, .int .i64 s, .bool x, .int .i64 p, .int .i64 q, .int .i64 n, .int .i64 t, .int .i64 i, .int .i64 y, .int .i64 z, .int .i64 v] 54)).cell? ⟨w.heap.size, 3, none⟩ = some (.bool x) ∧ (w.alloc (.cells #[.int .i64 k, .int .i64 a, .int .i64 s, .bool x, .int .i64 p, .int .i64 q, .int .i64 n, .int .i64 t, .int .i64 i, .int .i64 y, .int .i64 z, .int .i64 v] 54)).cell? ⟨w.heap.size, 4, none⟩ = some (.int .i64 p) ∧ (w.alloc (.cells #[.int .i64 k, .int .i64 a, .int .i64 s, .bool x, .int .i64 p, .int .i64 q, .int .i64 n, .int .i64 t, .int .i64 i, .int .i64 y, .int .i64 z, .int .i64 v] 54)).cell? ⟨w.heap.size, 5, none⟩ = some (.int .i64 q) ∧ (w.alloc (.cells #[.int .i64 k, .int .i64 a, .int .i64 s, .bool x, .int .i64 p, .int .i64 q, .int .i64 n, .int .i64 t, .int .i64 i, .int .i64 y, .int .i64 z, .int .i64 v] 54)).cell? ⟨w.heap.size, 6, none⟩ = some (.int .i64 n) ∧ (w.alloc (.cells #[.int .i64 k, .int .i64 a, .int .i64 s, .bool x, .int .i64 p, .int .i64 q, .int .i64 n, .int .i64 t, .int .i64 i, .int .i64 y, .int .i64 z, .int .i64 v] 54)).cell? ⟨w.heap.size, 7, none⟩ = some (.int .i64 t) ∧ (w.alloc (.cells #[.int .i64 k, .int .i64 a, .int .i64 s, .bool x, .int .i64 p, .int .i64 q, .int .i64 n, .int .i64 t, .int .i64 i, .int .i64 y, .int .i64 z, .int .i64 v] 54)).cell? ⟨w.heap.size, 8, none⟩ = some (.int .i64 i) ∧ (w.alloc (.cells #[.int .i64 k, .int .i64 a, .int .i64 s, .bool x, .int .i64 p, .int .i64 q, .int .i64 n, .int .i64 t, .int .i64 i, .int .i64 y, .int .i64 z, .int .i64 v] 54)).cell? ⟨w.heap.size, 9, none⟩ = some (.int .i64 y) ∧ (w.alloc (.cells #[.int .i64 k, .int .i64 a, .int .i64 s, .bool x, .int .i64 p, .int .i64 q, .int .i64 n, .int .i64 t, .int .i64 i, .int .i64 y, .int .i64 z, .int .i64 v] 54)).cell? ⟨w.heap.size, 10, none⟩ = some (.int .i64 z) ∧ (w.alloc (.cells #[.int .i64 k, .int .i64 a, .int .i64 s, .bool x, .int .i64 p, .int .i64 q, .int .i64 n, .int .i64 t, .int .i64 i, .int .i64 y, .int .i64 z, .int .i64 v] 54)).cell? ⟨w.heap.size, 11, none⟩ = some (.int .i64 v) := c12_of K0.out
  generalize w.alloc (.cells #[.int .i64 k, .int .i64 a, .int .i64 s, .bool x, .int .i64 p, .int .i64 q, .int .i64 n, .int .i64 t, .int .i64 i, .int .i64 y, .int .i64 z, .int .i64 v] 54) = w0 at b0 K0 s0 ⊢
  generalize w.heap.size = g0 at K0 s0 ⊢
  by_cases hc0 : c0 = true
  case neg =>
    obtain rfl : c0 = false := by simpa using hc0
    go_region_with (first
        | (go_at_call 37; refine (wbtw_any _ _ _ _).mono ?_; rintro e w1 ⟨rfl, rfl⟩)
        | (go_at_call 38; refine (alone_any ⟨k, a, s, x, p, q, n, t, i, y, z, v⟩ _).mono ?_; rintro e w2 ⟨rfl, hb2⟩; rw [hA, mvl_mk]; have B2 : Hid (Below w.heap.size w w2) := below_step b0.out hb2; have K2 : Hid (Blk w2 g0 54 #[.int .i64 k, .int .i64 a, .int .i64 s, .bool x, .int .i64 p, .int .i64 q, .int .i64 n, .int .i64 t, .int .i64 i, .int .i64 y, .int .i64 z, .int .i64 v]) := Blk.below' K0.out hb2; have q2 : w2.cell? ⟨g0, 0, none⟩ = some (.int .i64 k) ∧ w2.cell? ⟨g0, 1, none⟩ = some (.int .i64 a) ∧ w2.cell? ⟨g0, 2, none⟩ = some (.int .i64 s) ∧ w2.cell? ⟨g0, 3, none⟩ = some (.bool x) ∧ w2.cell? ⟨g0, 4, none⟩ = some (.int .i64 p) ∧ w2.cell? ⟨g0, 5, none⟩ = some (.int .i64 q) ∧ w2.cell? ⟨g0, 6, none⟩ = some (.int .i64 n) ∧ w2.cell? ⟨g0, 7, none⟩ = some (.int .i64 t) ∧ w2.cell? ⟨g0, 8, none⟩ = some (.int .i64 i) ∧ w2.cell? ⟨g0, 9, none⟩ = some (.int .i64 y) ∧ w2.cell? ⟨g0, 10, none⟩ = some (.int .i64 z) ∧ w2.cell? ⟨g0, 11, none⟩ = some (.int .i64 v) := c12_of K2.out)
        | (go_at_call 39; refine (fits_any ⟨k, a, s, x, p, q, n, t, i, y, z, v⟩ _).mono ?_; rintro e w3 ⟨rfl, hb3⟩; rw [h2]; have B3 : Hid (Below w.heap.size w w3) := below_step B2.out hb3; have K3 : Hid (Blk w3 g0 54 #[.int .i64 k, .int .i64 a, .int .i64 s, .bool x, .int .i64 p, .int .i64 q, .int .i64 n, .int .i64 t, .int .i64 i, .int .i64 y, .int .i64 z, .int .i64 v]) := Blk.below' K2.out hb3; have q3 : w3.cell? ⟨g0, 0, none⟩ = some (.int .i64 k) ∧ w3.cell? ⟨g0, 1, none⟩ = some (.int .i64 a) ∧ w3.cell? ⟨g0, 2, none⟩ = some (.int .i64 s) ∧ w3.cell? ⟨g0, 3, none⟩ = some (.bool x) ∧ w3.cell? ⟨g0, 4, none⟩ = some (.int .i64 p) ∧ w3.cell? ⟨g0, 5, none⟩ = some (.int .i64 q) ∧ w3.cell? ⟨g0, 6, none⟩ = some (.int .i64 n) ∧ w3.cell? ⟨g0, 7, none⟩ = some (.int .i64 t) ∧ w3.cell? ⟨g0, 8, none⟩ = some (.int .i64 i) ∧ w3.cell? ⟨g0, 9, none⟩ = some (.int .i64 y) ∧ w3.cell? ⟨g0, 10, none⟩ = some (.int .i64 z) ∧ w3.cell? ⟨g0, 11, none⟩ = some (.int .i64 v) := c12_of K3.out))
    all_goals
      go_wp2_with fail
      go_ret
      exact ⟨rfl, (Hid.out (by assumption))⟩
  subst hc0
  by_cases hc1 : c1 = true
  case neg =>
    obtain rfl : c1 = false := by simpa using hc1
    go_region_with (first
        | (go_at_call 37; refine (wbtw_any _ _ _ _).mono ?_; rintro e w1 ⟨rfl, rfl⟩)
        | (go_at_call 38; refine (alone_any ⟨k, a, s, x, p, q, n, t, i, y, z, v⟩ _).mono ?_; rintro e w2 ⟨rfl, hb2⟩; rw [hA, mvl_mk]; have B2 : Hid (Below w.heap.size w w2) := below_step b0.out hb2; have K2 : Hid (Blk w2 g0 54 #[.int .i64 k, .int .i64 a, .int .i64 s, .bool x, .int .i64 p, .int .i64 q, .int .i64 n, .int .i64 t, .int .i64 i, .int .i64 y, .int .i64 z, .int .i64 v]) := Blk.below' K0.out hb2; have q2 : w2.cell? ⟨g0, 0, none⟩ = some (.int .i64 k) ∧ w2.cell? ⟨g0, 1, none⟩ = some (.int .i64 a) ∧ w2.cell? ⟨g0, 2, none⟩ = some (.int .i64 s) ∧ w2.cell? ⟨g0, 3, none⟩ = some (.bool x) ∧ w2.cell? ⟨g0, 4, none⟩ = some (.int .i64 p) ∧ w2.cell? ⟨g0, 5, none⟩ = some (.int .i64 q) ∧ w2.cell? ⟨g0, 6, none⟩ = some (.int .i64 n) ∧ w2.cell? ⟨g0, 7, none⟩ = some (.int .i64 t) ∧ w2.cell? ⟨g0, 8, none⟩ = some (.int .i64 i) ∧ w2.cell? ⟨g0, 9, none⟩ = some (.int .i64 y) ∧ w2.cell? ⟨g0, 10, none⟩ = some (.int .i64 z) ∧ w2.cell? ⟨g0, 11, none⟩ = some (.int .i64 v) := c12_of K2.out)
        | (go_at_call 39; refine (fits_any ⟨k, a, s, x, p, q, n, t, i, y, z, v⟩ _).mono ?_; rintro e w3 ⟨rfl, hb3⟩; rw [h2]; have B3 : Hid (Below w.heap.size w w3) := below_step B2.out hb3; have K3 : Hid (Blk w3 g0 54 #[.int .i64 k, .int .i64 a, .int .i64 s, .bool x, .int .i64 p, .int .i64 q, .int .i64 n, .int .i64 t, .int .i64 i, .int .i64 y, .int .i64 z, .int .i64 v]) := Blk.below' K2.out hb3; have q3 : w3.cell? ⟨g0, 0, none⟩ = some (.int .i64 k) ∧ w3.cell? ⟨g0, 1, none⟩ = some (.int .i64 a) ∧ w3.cell? ⟨g0, 2, none⟩ = some (.int .i64 s) ∧ w3.cell? ⟨g0, 3, none⟩ = some (.bool x) ∧ w3.cell? ⟨g0, 4, none⟩ = some (.int .i64 p) ∧ w3.cell? ⟨g0, 5, none⟩ = some (.int .i64 q) ∧ w3.cell? ⟨g0, 6, none⟩ = some (.int .i64 n) ∧ w3.cell? ⟨g0, 7, none⟩ = some (.int .i64 t) ∧ w3.cell? ⟨g0, 8, none⟩ = some (.int .i64 i) ∧ w3.cell? ⟨g0, 9, none⟩ = some (.int .i64 y) ∧ w3.cell? ⟨g0, 10, none⟩ = some (.int .i64 z) ∧ w3.cell? ⟨g0, 11, none⟩ = some (.int .i64 v) := c12_of K3.out))
    all_goals
      go_wp2_with fail
      go_ret
      exact ⟨rfl, (Hid.out (by assumption))⟩
  subst hc1
  cases c2
  all_goals
    go_region_held3 (fun w' => w'.cell? ⟨g0, 0, none⟩ = some (.int .i64 k) ∧ w'.cell? ⟨g0, 1, none⟩ = some (.int .i64 a) ∧ w'.cell? ⟨g0, 2, none⟩ = some (.int .i64 s) ∧ w'.cell? ⟨g0, 3, none⟩ = some (.bool x) ∧ w'.cell? ⟨g0, 4, none⟩ = some (.int .i64 p) ∧ w'.cell? ⟨g0, 5, none⟩ = some (.int .i64 q) ∧ w'.cell? ⟨g0, 6, none⟩ = some (.int .i64 n) ∧ w'.cell? ⟨g0, 7, none⟩ = some (.int .i64 t) ∧ w'.cell? ⟨g0, 8, none⟩ = some (.int .i64 i) ∧ w'.cell? ⟨g0, 9, none⟩ = some (.int .i64 y) ∧ w'.cell? ⟨g0, 10, none⟩ = some (.int .i64 z) ∧ w'.cell? ⟨g0, 11, none⟩ = some (.int .i64 v))
      (first | go_keep | (with_reducible assumption) | (exact q2) | (exact q3))
      (first
        | (go_at_call 37; refine (wbtw_any _ _ _ _).mono ?_; rintro e w1 ⟨rfl, rfl⟩)
        | (go_at_call 38; refine (alone_any ⟨k, a, s, x, p, q, n, t, i, y, z, v⟩ _).mono ?_; rintro e w2 ⟨rfl, hb2⟩; rw [hA, mvl_mk]; have B2 : Hid (Below w.heap.size w w2) := below_step b0.out hb2; have K2 : Hid (Blk w2 g0 54 #[.int .i64 k, .int .i64 a, .int .i64 s, .bool x, .int .i64 p, .int .i64 q, .int .i64 n, .int .i64 t, .int .i64 i, .int .i64 y, .int .i64 z, .int .i64 v]) := Blk.below' K0.out hb2; have q2 : w2.cell? ⟨g0, 0, none⟩ = some (.int .i64 k) ∧ w2.cell? ⟨g0, 1, none⟩ = some (.int .i64 a) ∧ w2.cell? ⟨g0, 2, none⟩ = some (.int .i64 s) ∧ w2.cell? ⟨g0, 3, none⟩ = some (.bool x) ∧ w2.cell? ⟨g0, 4, none⟩ = some (.int .i64 p) ∧ w2.cell? ⟨g0, 5, none⟩ = some (.int .i64 q) ∧ w2.cell? ⟨g0, 6, none⟩ = some (.int .i64 n) ∧ w2.cell? ⟨g0, 7, none⟩ = some (.int .i64 t) ∧ w2.cell? ⟨g0, 8, none⟩ = some (.int .i64 i) ∧ w2.cell? ⟨g0, 9, none⟩ = some (.int .i64 y) ∧ w2.cell? ⟨g0, 10, none⟩ = some (.int .i64 z) ∧ w2.cell? ⟨g0, 11, none⟩ = some (.int .i64 v) := c12_of K2.out)
        | (go_at_call 39; refine (fits_any ⟨k, a, s, x, p, q, n, t, i, y, z, v⟩ _).mono ?_; rintro e w3 ⟨rfl, hb3⟩; rw [h2]; have B3 : Hid (Below w.heap.size w w3) := below_step B2.out hb3; have K3 : Hid (Blk w3 g0 54 #[.int .i64 k, .int .i64 a, .int .i64 s, .bool x, .int .i64 p, .int .i64 q, .int .i64 n, .int .i64 t, .int .i64 i, .int .i64 y, .int .i64 z, .int .i64 v]) := Blk.below' K2.out hb3; have q3 : w3.cell? ⟨g0, 0, none⟩ = some (.int .i64 k) ∧ w3.cell? ⟨g0, 1, none⟩ = some (.int .i64 a) ∧ w3.cell? ⟨g0, 2, none⟩ = some (.int .i64 s) ∧ w3.cell? ⟨g0, 3, none⟩ = some (.bool x) ∧ w3.cell? ⟨g0, 4, none⟩ = some (.int .i64 p) ∧ w3.cell? ⟨g0, 5, none⟩ = some (.int .i64 q) ∧ w3.cell? ⟨g0, 6, none⟩ = some (.int .i64 n) ∧ w3.cell? ⟨g0, 7, none⟩ = some (.int .i64 t) ∧ w3.cell? ⟨g0, 8, none⟩ = some (.int .i64 i) ∧ w3.cell? ⟨g0, 9, none⟩ = some (.int .i64 y) ∧ w3.cell? ⟨g0, 10, none⟩ = some (.int .i64 z) ∧ w3.cell? ⟨g0, 11, none⟩ = some (.int .i64 v) := c12_of K3.out))
    all_goals
      go_wp2_with fail
      go_ret
      exact ⟨rfl, (Hid.out (by assumption))⟩
end Wrt
end Go.Proofs.YtmjkhejfhpgiiaaDoor
