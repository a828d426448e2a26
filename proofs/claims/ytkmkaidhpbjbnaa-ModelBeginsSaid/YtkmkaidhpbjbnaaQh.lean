/- Texts side by side: each has its own first line. -/
import Derived.Deep.RegionHeld3
import Derived.Deep.DeepCutAuto
import Derived.Laws.MakeOwn
import Derived.Maps.AppendAt
import Derived.Test.YtkmkaidhpbjbnaaQa
import Derived.Test.YtkmkaidhpbjbnaaQb
import Derived.Test.YtkmkaidhpbjbnaaQc
import Derived.Test.YtkmkaidhpbjbnaaQd
import Derived.Test.YtkmkaidhpbjbnaaQe
import Derived.Test.YtkmkaidhpbjbnaaQf
import Derived.Test.YtkmkaidhpbjbnaaQg
/- Contracts of wire's and the reference's Right: whether a message may be. No condition. -/
namespace Go.Proofs.Ytkmkaidhpbjbnaa.Wrt
set_option maxRecDepth 100000
open Go.ChangeShapes Go.WideShapes Go.ChangeAt Go.RowKit Mem Tre Ref3 Law3 Fix3 CrdB Wpl Wmr
set_option linter.unusedVariables false
set_option linter.unusedSimpArgs false

theorem wbtw_any (a n b : Int) (w : World) : Calls Try.prog 46 #[.int .i64 a, .int .i64 n, .int .i64 b] w fun e w' => e = .returned (.bool (decide (a ≤ n) && decide (n ≤ b))) ∧ w = w' := by
  by_cases h0 : a ≤ n
  · have t0 : decide (a ≤ n) = true := by simp; exact h0
    by_cases h1 : n ≤ b
    · have t1 : decide (n ≤ b) = true := by simp; exact h1
      go_enter Try.func46, Try.ntmps46
      go_wp2
      go_ret
      exact ⟨by first | rfl | (rw [t0, t1]; rfl), rfl⟩
    · have t1 : decide (n ≤ b) = false := by simp; omega
      go_enter Try.func46, Try.ntmps46
      go_wp2
      go_ret
      exact ⟨by first | rfl | (rw [t0, t1]; rfl), rfl⟩
  · have t0 : decide (a ≤ n) = false := by simp; omega
    go_enter Try.func46, Try.ntmps46
    go_wp2
    go_ret
    exact ⟨by first | rfl | (rw [t0]; rfl), rfl⟩
def mn (x y : Int) : Int := if y < x then y else x
theorem mn_ge {x y : Int} : 0 ≤ mn x y ↔ 0 ≤ x ∧ 0 ≤ y := by unfold mn; split <;> omega
theorem run_min6 {P : Program} {w : World} (ats : Array TypeId) (ty : TypeId) (p q n t y v : Int) :
    (Builtin.min_ ats ty #[.int .i64 p, .int .i64 q, .int .i64 n, .int .i64 t, .int .i64 y, .int .i64 v]).run P w = .ok (.int .i64 (mn (mn (mn (mn (mn p q) n) t) y) v)) w := by
  simp [Builtin.min_, Builtin.min2, List.foldlM, Sem.run_bind, Sem.run_pure, Result.andThen, mn] <;> rfl
attribute [local go_sem] run_min6
def MadeBl (b : Bool) (w : World) (e : Ending) (w' : World) : Prop := e = .returned (.bool b) ∧ Below w.heap.size w w'
set_option maxHeartbeats 8000000 in
theorem fits_any (m : M) (w : World) : Calls Try.prog 48 #[mvl m] w (MadeBl (fitM m) w) := by
  obtain ⟨k, a, s, x, p, q, n, t, i, y, z, v⟩ := m
  show Calls Try.prog 48 #[.agg #[.int .i64 k, .int .i64 a, .int .i64 s, .bool x, .int .i64 p, .int .i64 q, .int .i64 n, .int .i64 t, .int .i64 i, .int .i64 y, .int .i64 z, .int .i64 v]] w (MadeBl (fitM ⟨k, a, s, x, p, q, n, t, i, y, z, v⟩) w)
  by_cases ha : 0 ≤ a ∧ a ≤ 65535
  case neg =>
    have e : fitM ⟨k, a, s, x, p, q, n, t, i, y, z, v⟩ = false := by unfold fitM; simp only [decide_eq_false_iff_not]; intro h; exact ha (by omega)
    rw [e]
    have ta : (decide (0 ≤ a) && decide (a ≤ 65535)) = false := by simp; omega
    go_enter Try.func48, Try.ntmps48
    go_wp2_with (go_at_call 46; refine (wbtw_any _ _ _ _).mono ?_; rintro e w' ⟨rfl, rfl⟩)
    go_ret
    exact ⟨rfl, ((Below.refl _ _).alloc (Nat.le_refl _) _).alloc (by simp) _⟩
  have ta : (decide (0 ≤ a) && decide (a ≤ 65535)) = true := by simp; omega
  by_cases hs : 0 ≤ s ∧ s ≤ 65535
  case neg =>
    have e : fitM ⟨k, a, s, x, p, q, n, t, i, y, z, v⟩ = false := by unfold fitM; simp only [decide_eq_false_iff_not]; intro h; exact hs (by omega)
    rw [e]
    have ts : (decide (0 ≤ s) && decide (s ≤ 65535)) = false := by simp; omega
    go_enter Try.func48, Try.ntmps48
    go_wp2_with (go_at_call 46; refine (wbtw_any _ _ _ _).mono ?_; rintro e w' ⟨rfl, rfl⟩)
    go_ret
    exact ⟨rfl, ((Below.refl _ _).alloc (Nat.le_refl _) _).alloc (by simp) _⟩
  have ts : (decide (0 ≤ s) && decide (s ≤ 65535)) = true := by simp; omega
  by_cases hz : 0 ≤ z ∧ z ≤ 65535
  case neg =>
    have e : fitM ⟨k, a, s, x, p, q, n, t, i, y, z, v⟩ = false := by unfold fitM; simp only [decide_eq_false_iff_not]; intro h; exact hz (by omega)
    rw [e]
    have tz : (decide (0 ≤ z) && decide (z ≤ 65535)) = false := by simp; omega
    go_enter Try.func48, Try.ntmps48
    go_wp2_with (go_at_call 46; refine (wbtw_any _ _ _ _).mono ?_; rintro e w' ⟨rfl, rfl⟩)
    go_ret
    exact ⟨rfl, ((Below.refl _ _).alloc (Nat.le_refl _) _).alloc (by simp) _⟩
  have tz : (decide (0 ≤ z) && decide (z ≤ 65535)) = true := by simp; omega
  by_cases hi : 0 ≤ i ∧ i ≤ 4294967295
  case neg =>
    have e : fitM ⟨k, a, s, x, p, q, n, t, i, y, z, v⟩ = false := by unfold fitM; simp only [decide_eq_false_iff_not]; intro h; exact hi (by omega)
    rw [e]
    have ti : (decide (0 ≤ i) && decide (i ≤ 4294967295)) = false := by simp; omega
    go_enter Try.func48, Try.ntmps48
    go_wp2_with (go_at_call 46; refine (wbtw_any _ _ _ _).mono ?_; rintro e w' ⟨rfl, rfl⟩)
    go_ret
    exact ⟨rfl, ((Below.refl _ _).alloc (Nat.le_refl _) _).alloc (by simp) _⟩
  have ti : (decide (0 ≤ i) && decide (i ≤ 4294967295)) = true := by simp; omega
  by_cases hm : 0 ≤ p ∧ 0 ≤ q ∧ 0 ≤ n ∧ 0 ≤ t ∧ 0 ≤ y ∧ 0 ≤ v
  case neg =>
    have e : fitM ⟨k, a, s, x, p, q, n, t, i, y, z, v⟩ = false := by unfold fitM; simp only [decide_eq_false_iff_not]; intro h; exact hm (by omega)
    rw [e]
    have tm : decide (0 ≤ mn (mn (mn (mn (mn p q) n) t) y) v) = false := by rw [decide_eq_false_iff_not]; simp only [mn_ge]; omega
    go_enter Try.func48, Try.ntmps48
    go_wp2_with (go_at_call 46; refine (wbtw_any _ _ _ _).mono ?_; rintro e w' ⟨rfl, rfl⟩)
    go_ret
    exact ⟨rfl, ((Below.refl _ _).alloc (Nat.le_refl _) _).alloc (by simp) _⟩
  have tm : decide (0 ≤ mn (mn (mn (mn (mn p q) n) t) y) v) = true := by rw [decide_eq_true_eq]; simp only [mn_ge]; omega
  have e : fitM ⟨k, a, s, x, p, q, n, t, i, y, z, v⟩ = true := by unfold fitM; simp only [decide_eq_true_eq]; omega
  rw [e]
  go_enter Try.func48, Try.ntmps48
  go_wp2_with (go_at_call 46; refine (wbtw_any _ _ _ _).mono ?_; rintro e w' ⟨rfl, rfl⟩)
  go_ret
  exact ⟨rfl, ((Below.refl _ _).alloc (Nat.le_refl _) _).alloc (by simp) _⟩
theorem c12_of {W : World} {g : Nat} {te : TypeId} {v0 v1 v2 v3 v4 v5 v6 v7 v8 v9 v10 v11 : Value} (h : Blk W g te #[v0, v1, v2, v3, v4, v5, v6, v7, v8, v9, v10, v11]) : W.cell? ⟨g, 0, none⟩ = some v0 ∧ W.cell? ⟨g, 1, none⟩ = some v1 ∧ W.cell? ⟨g, 2, none⟩ = some v2 ∧ W.cell? ⟨g, 3, none⟩ = some v3 ∧ W.cell? ⟨g, 4, none⟩ = some v4 ∧ W.cell? ⟨g, 5, none⟩ = some v5 ∧ W.cell? ⟨g, 6, none⟩ = some v6 ∧ W.cell? ⟨g, 7, none⟩ = some v7 ∧ W.cell? ⟨g, 8, none⟩ = some v8 ∧ W.cell? ⟨g, 9, none⟩ = some v9 ∧ W.cell? ⟨g, 10, none⟩ = some v10 ∧ W.cell? ⟨g, 11, none⟩ = some v11 :=
  ⟨h.cell 0, h.cell 1, h.cell 2, h.cell 3, h.cell 4, h.cell 5, h.cell 6, h.cell 7, h.cell 8, h.cell 9, h.cell 10, h.cell 11⟩
attribute [local go_sem high] eqP12
theorem mvl_mk (m : M) : mvl m = .agg #[.int .i64 m.k, .int .i64 m.a, .int .i64 m.s, .bool m.x, .int .i64 m.p, .int .i64 m.q, .int .i64 m.n, .int .i64 m.t, .int .i64 m.i, .int .i64 m.y, .int .i64 m.z, .int .i64 m.v] := rfl
theorem right_eq (m n : M) (h : alM m = n) : rightM m = ((decide (0 ≤ m.k) && decide (m.k ≤ 6)) && (eqM m n && fitM m)) := by unfold rightM; rw [h]
set_option maxHeartbeats 8000000 in
theorem right_any (m : M) (w : World) : Calls Try.prog 25 #[mvl m] w (MadeBl (rightM m) w) := by
  obtain ⟨k, a, s, x, p, q, n, t, i, y, z, v⟩ := m
  show Calls Try.prog 25 #[.agg #[.int .i64 k, .int .i64 a, .int .i64 s, .bool x, .int .i64 p, .int .i64 q, .int .i64 n, .int .i64 t, .int .i64 i, .int .i64 y, .int .i64 z, .int .i64 v]] w (MadeBl (rightM ⟨k, a, s, x, p, q, n, t, i, y, z, v⟩) w)
  generalize hA : alM ⟨k, a, s, x, p, q, n, t, i, y, z, v⟩ = A
  obtain ⟨k2, a2, s2, x2, p2, q2, n2, t2, i2, y2, z2, v2⟩ := A
  have hr : rightM ⟨k, a, s, x, p, q, n, t, i, y, z, v⟩ = ((decide (0 ≤ k) && decide (k ≤ 6)) && (eqM ⟨k, a, s, x, p, q, n, t, i, y, z, v⟩ ⟨k2, a2, s2, x2, p2, q2, n2, t2, i2, y2, z2, v2⟩ && fitM ⟨k, a, s, x, p, q, n, t, i, y, z, v⟩)) := right_eq _ _ hA
  generalize h0 : (decide ((0 : Int) ≤ k) && decide (k ≤ 6)) = c0 at hr
  generalize h1 : eqM ⟨k, a, s, x, p, q, n, t, i, y, z, v⟩ ⟨k2, a2, s2, x2, p2, q2, n2, t2, i2, y2, z2, v2⟩ = c1 at hr
  generalize h2 : fitM ⟨k, a, s, x, p, q, n, t, i, y, z, v⟩ = c2 at hr
  rw [hr]
  clear hr
  have b0 : Hid (Below w.heap.size w (w.alloc (.cells #[.int .i64 k, .int .i64 a, .int .i64 s, .bool x, .int .i64 p, .int .i64 q, .int .i64 n, .int .i64 t, .int .i64 i, .int .i64 y, .int .i64 z, .int .i64 v] 50)).drew) := ((Below.refl _ _).alloc (Nat.le_refl _) _).drew
  have K0 : Hid (Blk (w.alloc (.cells #[.int .i64 k, .int .i64 a, .int .i64 s, .bool x, .int .i64 p, .int .i64 q, .int .i64 n, .int .i64 t, .int .i64 i, .int .i64 y, .int .i64 z, .int .i64 v] 50)).drew w.heap.size 50 #[.int .i64 k, .int .i64 a, .int .i64 s, .bool x, .int .i64 p, .int .i64 q, .int .i64 n, .int .i64 t, .int .i64 i, .int .i64 y, .int .i64 z, .int .i64 v]) := Blk.fresh w _ _
  go_enter Try.func25, Try.ntmps25
  go_upto_region 1 with fail
  have s0 : (w.alloc (.cells #[.int .i64 k, .int .i64 a, .int .i64 s, .bool x, .int .i64 p, .int .i64 q, .int .i64 n, .int .i64 t, .int .i64 i, .int .i64 y, .int .i64 z, .int .i64 v] 50)).cell? ⟨w.heap.size, 0, none⟩ = some (.int .i64 k) ∧ (w.alloc (.cells #[.int .i64 k, .int .i64 a, .int .i64 s, .bool x, .int .i64 p, .int .i64 q, .int .i64 n, .int .i64 t, .int .i64 i, .int .i64 y, .int .i64 z, .int .i64 v] 50)).cell? ⟨w.heap.size, 1, none⟩ = some (.int .i64 a) ∧ (w.alloc (.cells #[.int .i64 k, .int .i64 a, .int .i64 s, .bool x, .int .i64 p, .int .i64 q, .int .i64 n, .int .i64 t, .int .i64 i, .int .i64 y, .int .i64 z, .int .i64 v] 50)).cell? ⟨w.heap.size, 2, none⟩ = some (.int .i64 s) ∧ (w.alloc (.cells #[.int .i64 k, .int .i64 a, .int .i64 s, .bool x, .int .i64 p, .int .i64 q, .int .i64 n, .int .i64 t, .int .i64 i, .int .i64 y, .int .i64 z, .int .i64 v] 50)).cell? ⟨w.heap.size, 3, none⟩ = some (.bool x) ∧ (w.alloc (.cells #[.int .i64 k, .int .i64 a, .int .i64 s, .bool x, .int .i64 p, .int .i64 q, .int .i64 n, .int .i64 t, .int .i64 i, .int .i64 y, .int .i64 z, .int .i64 v] 50)).cell? ⟨w.heap.size, 4, none⟩ = some (.int .i64 p) ∧ (w.alloc (.cells #[.int .i64 k, .int .i64 a, .int .i64 s, .bool x, .int .i64 p, .int .i64 q, .int .i64 n, .int .i64 t, .int .i64 i, .int .i64 y, .int .i64 z, .int .i64 v] 50)).cell? ⟨w.heap.size, 5, none⟩ = some (.int .i64 q) ∧ (w.alloc (.cells #[.int .i64 k, .int .i64 a, .int .i64 s, .bool x, .int .i64 p, .int .i64 q, .int .i64 n, .int .i64 t, .int .i64 i, .int .i64 y, .int .i64 z, .int .i64 v] 50)).cell? ⟨w.heap.size, 6, none⟩ = some (.int .i64 n) ∧ (w.alloc (.cells #[.int .i64 k, .int .i64 a, .int .i64 s, .bool x, .int .i64 p, .int .i64 q, .int .i64 n, .int .i64 t, .int .i64 i, .int .i64 y, .int .i64 z, .int .i64 v] 50)).cell? ⟨w.heap.size, 7, none⟩ = some (.int .i64 t) ∧ (w.alloc (.cells #[.int .i64 k, .int .i64 a, .int .i64 s, .bool x, .int .i64 p, .int .i64 q, .int .i64 n, .int .i64 t, .int .i64 i, .int .i64 y, .int .i64 z, .int .i64 v] 50)).cell? ⟨w.heap.size, 8, none⟩ = some (.int .i64 i) ∧ (w.alloc (.cells #[.int .i64 k, .int .i64 a, .int .i64 s, .bool x, .int .i64 p, .int .i64 q, .int .i64 n, .int .i64 t, .int .i64 i, .int .i64 y, .int .i64 z, .int .i64 v] 50)).cell? ⟨w.heap.size, 9, none⟩ = some (.int .i64 y) ∧ (w.alloc (.cells #[.int .i64 k, .int .i64 a, .int .i64 s, .bool x, .int .i64 p, .int .i64 q, .int .i64 n, .int .i64 t, .int .i64 i, .int .i64 y, .int .i64 z, .int .i64 v] 50)).cell? ⟨w.heap.size, 10, none⟩ = some (.int .i64 z) ∧ (w.alloc (.cells #[.int .i64 k, .int .i64 a, .int .i64 s, .bool x, .int .i64 p, .int .i64 q, .int .i64 n, .int .i64 t, .int .i64 i, .int .i64 y, .int .i64 z, .int .i64 v] 50)).cell? ⟨w.heap.size, 11, none⟩ = some (.int .i64 v) := c12_of K0.out
  generalize w.alloc (.cells #[.int .i64 k, .int .i64 a, .int .i64 s, .bool x, .int .i64 p, .int .i64 q, .int .i64 n, .int .i64 t, .int .i64 i, .int .i64 y, .int .i64 z, .int .i64 v] 50) = w0 at b0 K0 s0 ⊢
  generalize w.heap.size = g0 at K0 s0 ⊢
  by_cases hc0 : c0 = true
  case neg =>
    obtain rfl : c0 = false := by simpa using hc0
    go_region_with (first
        | (go_at_call 46; refine (wbtw_any _ _ _ _).mono ?_; rintro e w1 ⟨rfl, rfl⟩)
        | (go_at_call 47; refine (alone_any ⟨k, a, s, x, p, q, n, t, i, y, z, v⟩ _).mono ?_; rintro e w2 ⟨rfl, hb2⟩; rw [hA, mvl_mk]; have B2 : Hid (Below w.heap.size w w2) := below_step b0.out hb2; have K2 : Hid (Blk w2 g0 50 #[.int .i64 k, .int .i64 a, .int .i64 s, .bool x, .int .i64 p, .int .i64 q, .int .i64 n, .int .i64 t, .int .i64 i, .int .i64 y, .int .i64 z, .int .i64 v]) := Blk.below' K0.out hb2; have q2 : w2.cell? ⟨g0, 0, none⟩ = some (.int .i64 k) ∧ w2.cell? ⟨g0, 1, none⟩ = some (.int .i64 a) ∧ w2.cell? ⟨g0, 2, none⟩ = some (.int .i64 s) ∧ w2.cell? ⟨g0, 3, none⟩ = some (.bool x) ∧ w2.cell? ⟨g0, 4, none⟩ = some (.int .i64 p) ∧ w2.cell? ⟨g0, 5, none⟩ = some (.int .i64 q) ∧ w2.cell? ⟨g0, 6, none⟩ = some (.int .i64 n) ∧ w2.cell? ⟨g0, 7, none⟩ = some (.int .i64 t) ∧ w2.cell? ⟨g0, 8, none⟩ = some (.int .i64 i) ∧ w2.cell? ⟨g0, 9, none⟩ = some (.int .i64 y) ∧ w2.cell? ⟨g0, 10, none⟩ = some (.int .i64 z) ∧ w2.cell? ⟨g0, 11, none⟩ = some (.int .i64 v) := c12_of K2.out)
        | (go_at_call 48; refine (fits_any ⟨k, a, s, x, p, q, n, t, i, y, z, v⟩ _).mono ?_; rintro e w3 ⟨rfl, hb3⟩; rw [h2]; have B3 : Hid (Below w.heap.size w w3) := below_step B2.out hb3; have K3 : Hid (Blk w3 g0 50 #[.int .i64 k, .int .i64 a, .int .i64 s, .bool x, .int .i64 p, .int .i64 q, .int .i64 n, .int .i64 t, .int .i64 i, .int .i64 y, .int .i64 z, .int .i64 v]) := Blk.below' K2.out hb3; have q3 : w3.cell? ⟨g0, 0, none⟩ = some (.int .i64 k) ∧ w3.cell? ⟨g0, 1, none⟩ = some (.int .i64 a) ∧ w3.cell? ⟨g0, 2, none⟩ = some (.int .i64 s) ∧ w3.cell? ⟨g0, 3, none⟩ = some (.bool x) ∧ w3.cell? ⟨g0, 4, none⟩ = some (.int .i64 p) ∧ w3.cell? ⟨g0, 5, none⟩ = some (.int .i64 q) ∧ w3.cell? ⟨g0, 6, none⟩ = some (.int .i64 n) ∧ w3.cell? ⟨g0, 7, none⟩ = some (.int .i64 t) ∧ w3.cell? ⟨g0, 8, none⟩ = some (.int .i64 i) ∧ w3.cell? ⟨g0, 9, none⟩ = some (.int .i64 y) ∧ w3.cell? ⟨g0, 10, none⟩ = some (.int .i64 z) ∧ w3.cell? ⟨g0, 11, none⟩ = some (.int .i64 v) := c12_of K3.out))
    all_goals
      go_wp2_with fail
      go_ret
      exact ⟨rfl, (Hid.out (by assumption))⟩
  subst hc0
  by_cases hc1 : c1 = true
  case neg =>
    obtain rfl : c1 = false := by simpa using hc1
    go_region_with (first
        | (go_at_call 46; refine (wbtw_any _ _ _ _).mono ?_; rintro e w1 ⟨rfl, rfl⟩)
        | (go_at_call 47; refine (alone_any ⟨k, a, s, x, p, q, n, t, i, y, z, v⟩ _).mono ?_; rintro e w2 ⟨rfl, hb2⟩; rw [hA, mvl_mk]; have B2 : Hid (Below w.heap.size w w2) := below_step b0.out hb2; have K2 : Hid (Blk w2 g0 50 #[.int .i64 k, .int .i64 a, .int .i64 s, .bool x, .int .i64 p, .int .i64 q, .int .i64 n, .int .i64 t, .int .i64 i, .int .i64 y, .int .i64 z, .int .i64 v]) := Blk.below' K0.out hb2; have q2 : w2.cell? ⟨g0, 0, none⟩ = some (.int .i64 k) ∧ w2.cell? ⟨g0, 1, none⟩ = some (.int .i64 a) ∧ w2.cell? ⟨g0, 2, none⟩ = some (.int .i64 s) ∧ w2.cell? ⟨g0, 3, none⟩ = some (.bool x) ∧ w2.cell? ⟨g0, 4, none⟩ = some (.int .i64 p) ∧ w2.cell? ⟨g0, 5, none⟩ = some (.int .i64 q) ∧ w2.cell? ⟨g0, 6, none⟩ = some (.int .i64 n) ∧ w2.cell? ⟨g0, 7, none⟩ = some (.int .i64 t) ∧ w2.cell? ⟨g0, 8, none⟩ = some (.int .i64 i) ∧ w2.cell? ⟨g0, 9, none⟩ = some (.int .i64 y) ∧ w2.cell? ⟨g0, 10, none⟩ = some (.int .i64 z) ∧ w2.cell? ⟨g0, 11, none⟩ = some (.int .i64 v) := c12_of K2.out)
        | (go_at_call 48; refine (fits_any ⟨k, a, s, x, p, q, n, t, i, y, z, v⟩ _).mono ?_; rintro e w3 ⟨rfl, hb3⟩; rw [h2]; have B3 : Hid (Below w.heap.size w w3) := below_step B2.out hb3; have K3 : Hid (Blk w3 g0 50 #[.int .i64 k, .int .i64 a, .int .i64 s, .bool x, .int .i64 p, .int .i64 q, .int .i64 n, .int .i64 t, .int .i64 i, .int .i64 y, .int .i64 z, .int .i64 v]) := Blk.below' K2.out hb3; have q3 : w3.cell? ⟨g0, 0, none⟩ = some (.int .i64 k) ∧ w3.cell? ⟨g0, 1, none⟩ = some (.int .i64 a) ∧ w3.cell? ⟨g0, 2, none⟩ = some (.int .i64 s) ∧ w3.cell? ⟨g0, 3, none⟩ = some (.bool x) ∧ w3.cell? ⟨g0, 4, none⟩ = some (.int .i64 p) ∧ w3.cell? ⟨g0, 5, none⟩ = some (.int .i64 q) ∧ w3.cell? ⟨g0, 6, none⟩ = some (.int .i64 n) ∧ w3.cell? ⟨g0, 7, none⟩ = some (.int .i64 t) ∧ w3.cell? ⟨g0, 8, none⟩ = some (.int .i64 i) ∧ w3.cell? ⟨g0, 9, none⟩ = some (.int .i64 y) ∧ w3.cell? ⟨g0, 10, none⟩ = some (.int .i64 z) ∧ w3.cell? ⟨g0, 11, none⟩ = some (.int .i64 v) := c12_of K3.out))
    all_goals
      go_wp2_with fail
      go_ret
      exact ⟨rfl, (Hid.out (by assumption))⟩
  subst hc1
  cases c2
  all_goals
    go_region_held3 (fun w' => w'.cell? ⟨g0, 0, none⟩ = some (.int .i64 k) ∧ w'.cell? ⟨g0, 1, none⟩ = some (.int .i64 a) ∧ w'.cell? ⟨g0, 2, none⟩ = some (.int .i64 s) ∧ w'.cell? ⟨g0, 3, none⟩ = some (.bool x) ∧ w'.cell? ⟨g0, 4, none⟩ = some (.int .i64 p) ∧ w'.cell? ⟨g0, 5, none⟩ = some (.int .i64 q) ∧ w'.cell? ⟨g0, 6, none⟩ = some (.int .i64 n) ∧ w'.cell? ⟨g0, 7, none⟩ = some (.int .i64 t) ∧ w'.cell? ⟨g0, 8, none⟩ = some (.int .i64 i) ∧ w'.cell? ⟨g0, 9, none⟩ = some (.int .i64 y) ∧ w'.cell? ⟨g0, 10, none⟩ = some (.int .i64 z) ∧ w'.cell? ⟨g0, 11, none⟩ = some (.int .i64 v))
      (first | go_keep | (with_reducible assumption) | (exact q2) | (exact q3))
      (first
        | (go_at_call 46; refine (wbtw_any _ _ _ _).mono ?_; rintro e w1 ⟨rfl, rfl⟩)
        | (go_at_call 47; refine (alone_any ⟨k, a, s, x, p, q, n, t, i, y, z, v⟩ _).mono ?_; rintro e w2 ⟨rfl, hb2⟩; rw [hA, mvl_mk]; have B2 : Hid (Below w.heap.size w w2) := below_step b0.out hb2; have K2 : Hid (Blk w2 g0 50 #[.int .i64 k, .int .i64 a, .int .i64 s, .bool x, .int .i64 p, .int .i64 q, .int .i64 n, .int .i64 t, .int .i64 i, .int .i64 y, .int .i64 z, .int .i64 v]) := Blk.below' K0.out hb2; have q2 : w2.cell? ⟨g0, 0, none⟩ = some (.int .i64 k) ∧ w2.cell? ⟨g0, 1, none⟩ = some (.int .i64 a) ∧ w2.cell? ⟨g0, 2, none⟩ = some (.int .i64 s) ∧ w2.cell? ⟨g0, 3, none⟩ = some (.bool x) ∧ w2.cell? ⟨g0, 4, none⟩ = some (.int .i64 p) ∧ w2.cell? ⟨g0, 5, none⟩ = some (.int .i64 q) ∧ w2.cell? ⟨g0, 6, none⟩ = some (.int .i64 n) ∧ w2.cell? ⟨g0, 7, none⟩ = some (.int .i64 t) ∧ w2.cell? ⟨g0, 8, none⟩ = some (.int .i64 i) ∧ w2.cell? ⟨g0, 9, none⟩ = some (.int .i64 y) ∧ w2.cell? ⟨g0, 10, none⟩ = some (.int .i64 z) ∧ w2.cell? ⟨g0, 11, none⟩ = some (.int .i64 v) := c12_of K2.out)
        | (go_at_call 48; refine (fits_any ⟨k, a, s, x, p, q, n, t, i, y, z, v⟩ _).mono ?_; rintro e w3 ⟨rfl, hb3⟩; rw [h2]; have B3 : Hid (Below w.heap.size w w3) := below_step B2.out hb3; have K3 : Hid (Blk w3 g0 50 #[.int .i64 k, .int .i64 a, .int .i64 s, .bool x, .int .i64 p, .int .i64 q, .int .i64 n, .int .i64 t, .int .i64 i, .int .i64 y, .int .i64 z, .int .i64 v]) := Blk.below' K2.out hb3; have q3 : w3.cell? ⟨g0, 0, none⟩ = some (.int .i64 k) ∧ w3.cell? ⟨g0, 1, none⟩ = some (.int .i64 a) ∧ w3.cell? ⟨g0, 2, none⟩ = some (.int .i64 s) ∧ w3.cell? ⟨g0, 3, none⟩ = some (.bool x) ∧ w3.cell? ⟨g0, 4, none⟩ = some (.int .i64 p) ∧ w3.cell? ⟨g0, 5, none⟩ = some (.int .i64 q) ∧ w3.cell? ⟨g0, 6, none⟩ = some (.int .i64 n) ∧ w3.cell? ⟨g0, 7, none⟩ = some (.int .i64 t) ∧ w3.cell? ⟨g0, 8, none⟩ = some (.int .i64 i) ∧ w3.cell? ⟨g0, 9, none⟩ = some (.int .i64 y) ∧ w3.cell? ⟨g0, 10, none⟩ = some (.int .i64 z) ∧ w3.cell? ⟨g0, 11, none⟩ = some (.int .i64 v) := c12_of K3.out))
    all_goals
      go_wp2_with fail
      go_ret
      exact ⟨rfl, (Hid.out (by assumption))⟩
end Go.Proofs.Ytkmkaidhpbjbnaa.Wrt

/- The contract of a Model's Do. Condition: the Model lies in memory and is one that may be; the numbers are of 64 bits. -/
namespace Go.Proofs.Ytkmkaidhpbjbnaa.Mdd
set_option maxRecDepth 100000
open Go.ChangeShapes Go.WideShapes Go.ChangeAt Go.RowKit Mem Tre Ref3 Law3 Fix3 Cfg Crd CrdB CrdC Rr4 Bkp Bks Bkf Bcl Dlk Stk Apt Bko Bku Bka Bkc Bkq Wpl Mdp Mdz Mds Mdn Mdo Mdk Mdr Mdj Mdl Mdy Lat
open Rul1 hiding below_step
set_option linter.unusedVariables false
set_option linter.unusedSimpArgs false
/-- something that is done -/
structure Opn where
  m : M
  sw : Bool
  sx : Int
  ex : Int
def kilF (p : Pm) : Pm × (Int × Int × List (Int × Int)) := ({ p with off := true }, (0, p.ep, []))
def reaF (p : Pm) : Pm × (Int × Int × List (Int × Int)) := ((rearmF p).1, ((rearmF p).2.1, (rearmF p).2.2, []))
def doF (p : Pm) (o : Opn) : Pm × (Int × Int × List (Int × Int)) :=
  if o.sw = true then swpF p o.sx o.ex
  else if rightM o.m = false then (p, (1, 0, []))
  else if o.m.k = 0 then ordF p ⟨o.m.a, o.m.s, o.m.x, o.m.p, o.m.q, o.m.n, o.m.t⟩
  else if o.m.k = 1 then canF p o.m.i
  else if o.m.k = 2 then filF p o.m.i o.m.y
  else if o.m.k = 3 then akF p o.m.i
  else if o.m.k = 4 then kilF p
  else if o.m.k = 5 then reaF p
  else lmtF p o.m.z o.m.v
theorem do_sw {p : Pm} {o : Opn} (h : o.sw = true) : doF p o = swpF p o.sx o.ex := by unfold doF; rw [if_pos h]
theorem do_bad {p : Pm} {o : Opn} (h : o.sw = false) (hr : rightM o.m = false) : doF p o = (p, (1, 0, [])) := by unfold doF; rw [if_neg (by rw [h]; decide), if_pos hr]
theorem do_0 {p : Pm} {o : Opn} (h : o.sw = false) (hr : rightM o.m = true) (hk : o.m.k = 0) : doF p o = ordF p ⟨o.m.a, o.m.s, o.m.x, o.m.p, o.m.q, o.m.n, o.m.t⟩ := by unfold doF; rw [if_neg (by rw [h]; decide), if_neg (by rw [hr]; decide), if_pos hk]
theorem do_1 {p : Pm} {o : Opn} (h : o.sw = false) (hr : rightM o.m = true) (hk : o.m.k = 1) : doF p o = canF p o.m.i := by unfold doF; rw [if_neg (by rw [h]; decide), if_neg (by rw [hr]; decide), if_neg (by rw [hk]; decide), if_pos hk]
theorem do_2 {p : Pm} {o : Opn} (h : o.sw = false) (hr : rightM o.m = true) (hk : o.m.k = 2) : doF p o = filF p o.m.i o.m.y := by unfold doF; rw [if_neg (by rw [h]; decide), if_neg (by rw [hr]; decide), if_neg (by rw [hk]; decide), if_neg (by rw [hk]; decide), if_pos hk]
theorem do_3 {p : Pm} {o : Opn} (h : o.sw = false) (hr : rightM o.m = true) (hk : o.m.k = 3) : doF p o = akF p o.m.i := by unfold doF; rw [if_neg (by rw [h]; decide), if_neg (by rw [hr]; decide), if_neg (by rw [hk]; decide), if_neg (by rw [hk]; decide), if_neg (by rw [hk]; decide), if_pos hk]
theorem do_4 {p : Pm} {o : Opn} (h : o.sw = false) (hr : rightM o.m = true) (hk : o.m.k = 4) : doF p o = kilF p := by unfold doF; rw [if_neg (by rw [h]; decide), if_neg (by rw [hr]; decide), if_neg (by rw [hk]; decide), if_neg (by rw [hk]; decide), if_neg (by rw [hk]; decide), if_neg (by rw [hk]; decide), if_pos hk]
theorem do_5 {p : Pm} {o : Opn} (h : o.sw = false) (hr : rightM o.m = true) (hk : o.m.k = 5) : doF p o = reaF p := by unfold doF; rw [if_neg (by rw [h]; decide), if_neg (by rw [hr]; decide), if_neg (by rw [hk]; decide), if_neg (by rw [hk]; decide), if_neg (by rw [hk]; decide), if_neg (by rw [hk]; decide), if_neg (by rw [hk]; decide), if_pos hk]
theorem do_6 {p : Pm} {o : Opn} (h : o.sw = false) (hr : rightM o.m = true) (hk : o.m.k = 6) : doF p o = lmtF p o.m.z o.m.v := by unfold doF; rw [if_neg (by rw [h]; decide), if_neg (by rw [hr]; decide), if_neg (by rw [hk]; decide), if_neg (by rw [hk]; decide), if_neg (by rw [hk]; decide), if_neg (by rw [hk]; decide), if_neg (by rw [hk]; decide), if_neg (by rw [hk]; decide)]
theorem q15_of {W : World} {g : Nat} {te : TypeId} {v0 v1 v2 v3 v4 v5 v6 v7 v8 v9 v10 v11 v12 v13 v14 : Value} (hk : Blk W g te #[v0, v1, v2, v3, v4, v5, v6, v7, v8, v9, v10, v11, v12, v13, v14]) : W.cell? ⟨g, 0, none⟩ = some v0 ∧ W.cell? ⟨g, 1, none⟩ = some v1 ∧ W.cell? ⟨g, 2, none⟩ = some v2 ∧ W.cell? ⟨g, 3, none⟩ = some v3 ∧ W.cell? ⟨g, 4, none⟩ = some v4 ∧ W.cell? ⟨g, 5, none⟩ = some v5 ∧ W.cell? ⟨g, 6, none⟩ = some v6 ∧ W.cell? ⟨g, 7, none⟩ = some v7 ∧ W.cell? ⟨g, 8, none⟩ = some v8 ∧ W.cell? ⟨g, 9, none⟩ = some v9 ∧ W.cell? ⟨g, 10, none⟩ = some v10 ∧ W.cell? ⟨g, 11, none⟩ = some v11 ∧ W.cell? ⟨g, 12, none⟩ = some v12 ∧ W.cell? ⟨g, 13, none⟩ = some v13 ∧ W.cell? ⟨g, 14, none⟩ = some v14 := ⟨hk.cell 0, hk.cell 1, hk.cell 2, hk.cell 3, hk.cell 4, hk.cell 5, hk.cell 6, hk.cell 7, hk.cell 8, hk.cell 9, hk.cell 10, hk.cell 11, hk.cell 12, hk.cell 13, hk.cell 14⟩
theorem killD (base g : Nat) (q : Mq) (w : World) (h : Hid (Mm base w g q)) : Calls Try.prog 30 #[.pointer (some ⟨g, 0, none⟩)] w (MadeDo base g q (kilF (plO q)).1 (kilF (plO q)).2.1 (kilF (plO q)).2.2.1 (kilF (plO q)).2.2.2 w) := kill_any base g q w h
theorem rearmD (base g : Nat) (q : Mq) (w : World) (h : Hid (Mm base w g q)) (hep : 0 ≤ q.ep ∧ q.ep ≤ 1000000000) : Calls Try.prog 31 #[.pointer (some ⟨g, 0, none⟩)] w (MadeDo base g q (reaF (plO q)).1 (reaF (plO q)).2.1 (reaF (plO q)).2.2.1 (reaF (plO q)).2.2.2 w) := rearm_any base g q w h hep
/-- what a call made, as the caller's own answer -/
theorem madeDo_up {base g gZ : Nat} {q q' : Mq} {p : Pm} {code id : Int} {outs : List (Int × Int)} {w wc w' : World} {Ao : Option Addr} {no co : Nat} (U : Hid (Below w.heap.size w wc)) (hgz : Hid (w.heap.size ≤ gZ)) (Z : Hid (Blk wc gZ 43 #[.int .i64 0, .int .i64 0])) (MZ : Hid (Mz gZ g q)) (M : Hid (Mm base wc g q))
    (h : no = outs.length ∧ Nds w' w'.heap.size Ao outs ∧ (∀ a, Ao = some a → wc.heap.size ≤ a.block) ∧ Mm base w' g q' ∧ plO q' = p ∧ q'.Ab = q.Ab ∧ Kp wc w' g q.Ab ∧ (∀ z, z < wc.heap.size → Mz z g q → Mz z g q')) :
    Blk w' gZ 43 #[.int .i64 0, .int .i64 0] ∧ MadeDo base g q p code id outs w (.returned (.tuple #[.agg #[.int .i64 code, .int .i64 id], .slice Ao no co])) (st2 w' gZ (.int .i64 code) (.int .i64 id)) := by
  obtain ⟨h1, h2, h3, h4, h5, h6, h7, h8⟩ := h
  have hzl := Z.out.lt
  have hZ : Blk w' gZ 43 #[.int .i64 0, .int .i64 0] := (h7.block gZ hzl MZ.out.ne (fun b hb => by
    intro e
    exact blk_own_ne Z.out M.out.row (by decide) (by rw [hb, e]; rfl))).trans Z.out
  have hm := h8 gZ hzl MZ.out
  refine ⟨hZ, ?_⟩
  unfold st2
  refine ⟨q', Ao, no, co, rfl, h1, ?_, fun a ha => Nat.le_trans U.out.size (h3 a ha), Mm_setz (Mm_setz h4 hm hZ (by decide) 0 _) hm (blk_st hZ 0 _) (by decide) 1 _, h5, h6, Kp_past (Kp_past (Kp_trans (Kp_of_below U.out) h7) hgz.out 0 _) hgz.out 1 _, fun z hz hmz => h8 z (Nat.lt_of_lt_of_le hz U.out.size) hmz⟩
  exact Rd.keep' (Rd.keep' h2 (Nat.lt_succ_self _) (fun a ha => by have := h3 a ha; omega) _) (Nat.lt_succ_self _) (fun a ha => by have := h3 a ha; omega) _
set_option maxHeartbeats 16000000 in
theorem do_any (base g m : Nat) (q : Mq) (mk ma ms mp mq mn mt mi my mz mv sx ex : Int) (mx sw : Bool) (w : World) (h : Hid (Mm base w g q)) (hv : Hid (Vq m q)) (hm : m ≤ 900) (hE : Hid (Vo q)) (hep : 0 ≤ q.ep ∧ q.ep ≤ 1000000000)
    (hp : inI mp) (hq : inI mq) (hy : my ≤ 9223372036854775807) (hV : mv ≤ 9223372036854775807) (hsx : inI sx) (hex0 : -9223372036854775808 ≤ ex) (hex1 : ex ≤ 9223372036854775807) :
    Calls Try.prog 9 #[.pointer (some ⟨g, 0, none⟩), .agg #[.int .i64 mk, .int .i64 ma, .int .i64 ms, .bool mx, .int .i64 mp, .int .i64 mq, .int .i64 mn, .int .i64 mt, .int .i64 mi, .int .i64 my, .int .i64 mz, .int .i64 mv, .bool sw, .int .i64 sx, .int .i64 ex]] w (MadeDo base g q (doF (plO q) ⟨⟨mk, ma, ms, mx, mp, mq, mn, mt, mi, my, mz, mv⟩, sw, sx, ex⟩).1 (doF (plO q) ⟨⟨mk, ma, ms, mx, mp, mq, mn, mt, mi, my, mz, mv⟩, sw, sx, ex⟩).2.1 (doF (plO q) ⟨⟨mk, ma, ms, mx, mp, mq, mn, mt, mi, my, mz, mv⟩, sw, sx, ex⟩).2.2.1 (doF (plO q) ⟨⟨mk, ma, ms, mx, mp, mq, mn, mt, mi, my, mz, mv⟩, sw, sx, ex⟩).2.2.2 w) := by
  have U0 : Hid (Below w.heap.size w ((w.alloc (.cells #[.int .i64 mk, .int .i64 ma, .int .i64 ms, .bool mx, .int .i64 mp, .int .i64 mq, .int .i64 mn, .int .i64 mt, .int .i64 mi, .int .i64 my, .int .i64 mz, .int .i64 mv, .bool sw, .int .i64 sx, .int .i64 ex] 52)).alloc (.cells #[.int .i64 0, .int .i64 0] 43))) := ((Below.refl _ _).alloc (Nat.le_refl _) _).alloc (by simp) _
  have O0 : Hid (Blk ((w.alloc (.cells #[.int .i64 mk, .int .i64 ma, .int .i64 ms, .bool mx, .int .i64 mp, .int .i64 mq, .int .i64 mn, .int .i64 mt, .int .i64 mi, .int .i64 my, .int .i64 mz, .int .i64 mv, .bool sw, .int .i64 sx, .int .i64 ex] 52)).alloc (.cells #[.int .i64 0, .int .i64 0] 43)) w.heap.size 52 #[.int .i64 mk, .int .i64 ma, .int .i64 ms, .bool mx, .int .i64 mp, .int .i64 mq, .int .i64 mn, .int .i64 mt, .int .i64 mi, .int .i64 my, .int .i64 mz, .int .i64 mv, .bool sw, .int .i64 sx, .int .i64 ex]) := (Blk.fresh w _ _).alloc _
  have Z0 : Hid (Blk ((w.alloc (.cells #[.int .i64 mk, .int .i64 ma, .int .i64 ms, .bool mx, .int .i64 mp, .int .i64 mq, .int .i64 mn, .int .i64 mt, .int .i64 mi, .int .i64 my, .int .i64 mz, .int .i64 mv, .bool sw, .int .i64 sx, .int .i64 ex] 52)).alloc (.cells #[.int .i64 0, .int .i64 0] 43)) (w.heap.size + 1) 43 #[.int .i64 0, .int .i64 0]) := blk_hd (by simp)
  have M0 : Hid (Mm base ((w.alloc (.cells #[.int .i64 mk, .int .i64 ma, .int .i64 ms, .bool mx, .int .i64 mp, .int .i64 mq, .int .i64 mn, .int .i64 mt, .int .i64 mi, .int .i64 my, .int .i64 mz, .int .i64 mv, .bool sw, .int .i64 sx, .int .i64 ex] 52)).alloc (.cells #[.int .i64 0, .int .i64 0] 43)) g q) := Mm_below h.out U0.out
  have MZ0 : Hid (Mz (w.heap.size + 1) g q) := Mz_of h.out (by omega)
  obtain ⟨vn, hvn⟩ : ∃ k, k = q.nb := ⟨_, rfl⟩
  have hnb0 : 1 ≤ q.nb := by have h1 := hv.out.nb; have h2 := hv.out.sh; omega
  go_enter Try.func9, Try.ntmps9
  go_upto_region 1 with fail
  obtain ⟨gO, hgO⟩ : ∃ k, k = w.heap.size := ⟨_, rfl⟩
  obtain ⟨gZ, hgZ⟩ : ∃ k, k = w.heap.size + 1 := ⟨_, rfl⟩
  have O1 : Hid (Blk ((w.alloc (.cells #[.int .i64 mk, .int .i64 ma, .int .i64 ms, .bool mx, .int .i64 mp, .int .i64 mq, .int .i64 mn, .int .i64 mt, .int .i64 mi, .int .i64 my, .int .i64 mz, .int .i64 mv, .bool sw, .int .i64 sx, .int .i64 ex] 52)).alloc (.cells #[.int .i64 0, .int .i64 0] 43)) gO 52 #[.int .i64 mk, .int .i64 ma, .int .i64 ms, .bool mx, .int .i64 mp, .int .i64 mq, .int .i64 mn, .int .i64 mt, .int .i64 mi, .int .i64 my, .int .i64 mz, .int .i64 mv, .bool sw, .int .i64 sx, .int .i64 ex]) := by rw [hgO]; exact O0.out
  have Z1 : Hid (Blk ((w.alloc (.cells #[.int .i64 mk, .int .i64 ma, .int .i64 ms, .bool mx, .int .i64 mp, .int .i64 mq, .int .i64 mn, .int .i64 mt, .int .i64 mi, .int .i64 my, .int .i64 mz, .int .i64 mv, .bool sw, .int .i64 sx, .int .i64 ex] 52)).alloc (.cells #[.int .i64 0, .int .i64 0] 43)) gZ 43 #[.int .i64 0, .int .i64 0]) := by rw [hgZ]; exact Z0.out
  have MZ : Hid (Mz gZ g q) := by rw [hgZ]; exact MZ0.out
  have HGZ : Hid (w.heap.size ≤ gZ) := by show _ ≤ _; omega
  simp only [← hgZ]
  simp only [← hgO]
  clear hgO hgZ O0 Z0 MZ0
  generalize ((w.alloc (.cells #[.int .i64 mk, .int .i64 ma, .int .i64 ms, .bool mx, .int .i64 mp, .int .i64 mq, .int .i64 mn, .int .i64 mt, .int .i64 mi, .int .i64 my, .int .i64 mz, .int .i64 mv, .bool sw, .int .i64 sx, .int .i64 ex] 52)).alloc (.cells #[.int .i64 0, .int .i64 0] 43)) = w0 at O1 Z1 U0 M0 ⊢
  have k7 : w0.cell? ⟨g, 7, none⟩ = some (.slice q.Ab vn q.cb) := by rw [hvn]; exact M0.out.blk.cell 7
  have hnb1 : 1 ≤ vn := by omega
  clear hnb0 hvn
  have tn : ((vn : Int) == 0) = false := by simp; omega
  obtain ⟨o0, o1, o2, o3, o4, o5, o6, o7, o8, o9, o10, o11, o12, o13, o14⟩ := q15_of O1.out
  have HDO : Hid (∀ p o, doF p o = doF p o) := fun _ _ => rfl
  cases sw with
  | true =>
    have HD : Hid (doF (plO q) ⟨⟨mk, ma, ms, mx, mp, mq, mn, mt, mi, my, mz, mv⟩, true, sx, ex⟩ = swpF (plO q) sx ex) := do_sw rfl
    obtain ⟨PP, cd, idv, outs, hF⟩ : ∃ a b c d, swpF (plO q) sx ex = (a, b, c, d) := ⟨_, _, _, _, rfl⟩
    have CX := msweep_any base g m q sx ex w0 M0 hv hm hsx hex0 hex1
    rw [hF] at CX
    rw [hF] at HD
    clear hF
    go_wp2_with fail
    refine CX.mono ?_
    rintro e w9 ⟨q', Ao, no, co, rfl, hrest⟩
    have HU := madeDo_up (co := co) (code := cd) (id := idv) U0 HGZ Z1 MZ M0 hrest
    have F3 : Blk (st2 w9 gZ (.int .i64 cd) (.int .i64 idv)) gZ 43 #[.int .i64 cd, .int .i64 idv] := st2_blk HU.1
    have HF := Lib.hid HU.2
    obtain ⟨z0, z1, z2, z3⟩ := q2b HU.1
    have zx : (w9.setCell ⟨gZ, 0, none⟩ (.int .i64 cd)).cell? ⟨gZ, 1, none⟩ = some (.int .i64 0) := (blk_st HU.1 0 (.int .i64 cd)).cell 1
    clear HU hrest CX
    go_wp2_with fail
    obtain ⟨e0, e1, _, _⟩ := q2b F3
    clear F3
    unfold st2 at e0 e1 HF
    exact bodyPost_ret (v := .tuple #[.agg #[.int .i64 cd, .int .i64 idv], .slice Ao no co]) (by simp [results, Try.results9, go_sem, e0, e1]) rfl (by first | exact HF.out | (rw [HD.out]; exact HF.out))
  | false =>
    have RG := Wrt.right_any ⟨mk, ma, ms, mx, mp, mq, mn, mt, mi, my, mz, mv⟩ w0
    simp only [mvl] at RG
    go_upto_region 5 with fail
    go_wp2_with fail
    refine RG.mono ?_
    rintro e w1 ⟨rfl, hb1⟩
    have U1 := Lib.hid (CrdB.below_step U0.out hb1)
    have O2 := Lib.hid (Blk.below' O1.out hb1)
    have Z2 := Lib.hid (Blk.below' Z1.out hb1)
    have M1 := Lib.hid (Mm_below M0.out hb1)
    clear hb1 o0 o1 o2 o3 o4 o5 o6 o7 o8 o9 o10 o11 o12 o13 o14 k7 RG O1
    by_cases hr : rightM ⟨mk, ma, ms, mx, mp, mq, mn, mt, mi, my, mz, mv⟩ = true
    case neg =>
      have hr' : rightM ⟨mk, ma, ms, mx, mp, mq, mn, mt, mi, my, mz, mv⟩ = false := by simpa using hr
      rw [hr']
      have HD : Hid (doF (plO q) ⟨⟨mk, ma, ms, mx, mp, mq, mn, mt, mi, my, mz, mv⟩, false, sx, ex⟩ = (plO q, (1, 0, []))) := do_bad rfl hr'
      go_wp2_with fail
      refine (refused_any 1 _).mono ?_
      rintro e w9 ⟨rfl, hb9⟩
      have HU := madeDo_up (co := 0) (code := 1) (id := 0) (w' := w9) (q' := q) (p := plO q) (outs := []) (Ao := none) (no := 0) U1 HGZ Z2 MZ M1 ⟨rfl, .inl rfl, fun a ha => (by cases ha), Mm_below M1.out hb9, rfl, rfl, Kp_of_below hb9, fun z _ h => h⟩
      have F3 : Blk (st2 w9 gZ (.int .i64 1) (.int .i64 0)) gZ 43 #[.int .i64 1, .int .i64 0] := st2_blk HU.1
      have HF := Lib.hid HU.2
      obtain ⟨z0, z1, z2, z3⟩ := q2b HU.1
      have zx : (w9.setCell ⟨gZ, 0, none⟩ (.int .i64 1)).cell? ⟨gZ, 1, none⟩ = some (.int .i64 0) := (blk_st HU.1 0 (.int .i64 1)).cell 1
      clear HU hb9
      go_wp2_with fail
      obtain ⟨e0, e1, _, _⟩ := q2b F3
      clear F3
      unfold st2 at e0 e1 HF
      exact bodyPost_ret (v := .tuple #[.agg #[.int .i64 1, .int .i64 0], .slice none 0 0]) (by simp [results, Try.results9, go_sem, e0, e1]) rfl (by first | exact HF.out | (rw [HD.out]; exact HF.out))
    case pos =>
      rw [hr]
      obtain ⟨hk0, hk6, heq, hfit⟩ := rightM_of hr
      have HR := Lib.hid hr
      unfold fitP at hfit
      simp only at hk0 hk6 hfit
      obtain ⟨⟨fa0, fa1⟩, ⟨fs0, fs1⟩, ⟨fz0, fz1⟩, ⟨fi0, fi1⟩, fp, fq, fn, ft, fy, fv⟩ := hfit
      clear heq hr
      obtain ⟨o0, o1, o2, o3, o4, o5, o6, o7, o8, o9, o10, o11, o12, o13, o14⟩ := q15_of O2.out
      have V2 : Below w1.heap.size w1 (w1.alloc (.cells #[.int .i64 mk, .int .i64 ma, .int .i64 ms, .bool mx, .int .i64 mp, .int .i64 mq, .int .i64 mn, .int .i64 mt, .int .i64 mi, .int .i64 my, .int .i64 mz, .int .i64 mv] 50)) := (Below.refl _ _).alloc (Nat.le_refl _) _
      have N2 : Hid (Blk (w1.alloc (.cells #[.int .i64 mk, .int .i64 ma, .int .i64 ms, .bool mx, .int .i64 mp, .int .i64 mq, .int .i64 mn, .int .i64 mt, .int .i64 mi, .int .i64 my, .int .i64 mz, .int .i64 mv] 50)) w1.heap.size 50 #[.int .i64 mk, .int .i64 ma, .int .i64 ms, .bool mx, .int .i64 mp, .int .i64 mq, .int .i64 mn, .int .i64 mt, .int .i64 mi, .int .i64 my, .int .i64 mz, .int .i64 mv]) := Blk.fresh _ _ _
      have U2 := Lib.hid (CrdB.below_step U1.out V2)
      have Z3 := Lib.hid (Blk.below' Z2.out V2)
      have M2 := Lib.hid (Mm_below M1.out V2)
      clear V2
      go_upto_region 8 with fail
      obtain ⟨gN, hgN⟩ : ∃ k, k = w1.heap.size := ⟨_, rfl⟩
      have N3 : Hid (Blk (w1.alloc (.cells #[.int .i64 mk, .int .i64 ma, .int .i64 ms, .bool mx, .int .i64 mp, .int .i64 mq, .int .i64 mn, .int .i64 mt, .int .i64 mi, .int .i64 my, .int .i64 mz, .int .i64 mv] 50)) gN 50 #[.int .i64 mk, .int .i64 ma, .int .i64 ms, .bool mx, .int .i64 mp, .int .i64 mq, .int .i64 mn, .int .i64 mt, .int .i64 mi, .int .i64 my, .int .i64 mz, .int .i64 mv]) := by rw [hgN]; exact N2.out
      simp only [← hgN]
      clear hgN N2 o0 o1 o2 o3 o4 o5 o6 o7 o8 o9 o10 o11 o12 o13 o14
      generalize w1.alloc (.cells #[.int .i64 mk, .int .i64 ma, .int .i64 ms, .bool mx, .int .i64 mp, .int .i64 mq, .int .i64 mn, .int .i64 mt, .int .i64 mi, .int .i64 my, .int .i64 mz, .int .i64 mv] 50) = w2 at U2 Z3 M2 N3 ⊢
      obtain ⟨j0, j1, j2, j3, j4, j5, j6, j7, j8, j9, j10, j11, h0, h1, h2, h3, h4, h5, h6, h7, h8, h9, h10, h11⟩ := q12_of N3.out
      have hk : mk = 0 ∨ mk = 1 ∨ mk = 2 ∨ mk = 3 ∨ mk = 4 ∨ mk = 5 ∨ mk = 6 := by omega
      rcases hk with rfl | rfl | rfl | rfl | rfl | rfl | rfl
      · have HD : Hid (doF (plO q) ⟨⟨0, ma, ms, mx, mp, mq, mn, mt, mi, my, mz, mv⟩, false, sx, ex⟩ = ordF (plO q) ⟨ma, ms, mx, mp, mq, mn, mt⟩) := do_0 rfl HR.out rfl
        obtain ⟨PP, cd, idv, outs, hF⟩ : ∃ a b c d, ordF (plO q) ⟨ma, ms, mx, mp, mq, mn, mt⟩ = (a, b, c, d) := ⟨_, _, _, _, rfl⟩
        have CX := order_any base g m q ma ms mp mq mn mt mx w2 M2 hv hm hp hq
        rw [hF] at CX
        rw [hF] at HD
        clear hF
        go_wp2_with fail
        refine CX.mono ?_
        rintro e w9 ⟨q', Ao, no, co, rfl, hrest⟩
        have HU := madeDo_up (co := co) (code := cd) (id := idv) U2 HGZ Z3 MZ M2 hrest
        have F3 : Blk (st2 w9 gZ (.int .i64 cd) (.int .i64 idv)) gZ 43 #[.int .i64 cd, .int .i64 idv] := st2_blk HU.1
        have HF := Lib.hid HU.2
        obtain ⟨z0, z1, z2, z3⟩ := q2b HU.1
        have zx : (w9.setCell ⟨gZ, 0, none⟩ (.int .i64 cd)).cell? ⟨gZ, 1, none⟩ = some (.int .i64 0) := (blk_st HU.1 0 (.int .i64 cd)).cell 1
        clear HU hrest CX
        go_wp2_with fail
        obtain ⟨e0, e1, _, _⟩ := q2b F3
        clear F3
        unfold st2 at e0 e1 HF
        exact bodyPost_ret (v := .tuple #[.agg #[.int .i64 cd, .int .i64 idv], .slice Ao no co]) (by simp [results, Try.results9, go_sem, e0, e1]) rfl (by first | exact HF.out | (rw [HD.out]; exact HF.out))
      · have HD : Hid (doF (plO q) ⟨⟨1, ma, ms, mx, mp, mq, mn, mt, mi, my, mz, mv⟩, false, sx, ex⟩ = canF (plO q) mi) := do_1 rfl HR.out rfl
        obtain ⟨PP, cd, idv, outs, hF⟩ : ∃ a b c d, canF (plO q) mi = (a, b, c, d) := ⟨_, _, _, _, rfl⟩
        have CX := mcancel_any base g m q mi w2 M2 hv hm fi0 (by omega)
        rw [hF] at CX
        rw [hF] at HD
        clear hF
        go_wp2_with fail
        refine CX.mono ?_
        rintro e w9 ⟨q', Ao, no, co, rfl, hrest⟩
        have HU := madeDo_up (co := co) (code := cd) (id := idv) U2 HGZ Z3 MZ M2 hrest
        have F3 : Blk (st2 w9 gZ (.int .i64 cd) (.int .i64 idv)) gZ 43 #[.int .i64 cd, .int .i64 idv] := st2_blk HU.1
        have HF := Lib.hid HU.2
        obtain ⟨z0, z1, z2, z3⟩ := q2b HU.1
        have zx : (w9.setCell ⟨gZ, 0, none⟩ (.int .i64 cd)).cell? ⟨gZ, 1, none⟩ = some (.int .i64 0) := (blk_st HU.1 0 (.int .i64 cd)).cell 1
        clear HU hrest CX
        go_wp2_with fail
        obtain ⟨e0, e1, _, _⟩ := q2b F3
        clear F3
        unfold st2 at e0 e1 HF
        exact bodyPost_ret (v := .tuple #[.agg #[.int .i64 cd, .int .i64 idv], .slice Ao no co]) (by simp [results, Try.results9, go_sem, e0, e1]) rfl (by first | exact HF.out | (rw [HD.out]; exact HF.out))
      · have HD : Hid (doF (plO q) ⟨⟨2, ma, ms, mx, mp, mq, mn, mt, mi, my, mz, mv⟩, false, sx, ex⟩ = filF (plO q) mi my) := do_2 rfl HR.out rfl
        obtain ⟨PP, cd, idv, outs, hF⟩ : ∃ a b c d, filF (plO q) mi my = (a, b, c, d) := ⟨_, _, _, _, rfl⟩
        have CX := mfill_any base g m q mi my w2 M2 hv hm fi0 (by omega) hy hE
        rw [hF] at CX
        rw [hF] at HD
        clear hF
        go_wp2_with fail
        refine CX.mono ?_
        rintro e w9 ⟨q', Ao, no, co, rfl, hrest⟩
        have HU := madeDo_up (co := co) (code := cd) (id := idv) U2 HGZ Z3 MZ M2 hrest
        have F3 : Blk (st2 w9 gZ (.int .i64 cd) (.int .i64 idv)) gZ 43 #[.int .i64 cd, .int .i64 idv] := st2_blk HU.1
        have HF := Lib.hid HU.2
        obtain ⟨z0, z1, z2, z3⟩ := q2b HU.1
        have zx : (w9.setCell ⟨gZ, 0, none⟩ (.int .i64 cd)).cell? ⟨gZ, 1, none⟩ = some (.int .i64 0) := (blk_st HU.1 0 (.int .i64 cd)).cell 1
        clear HU hrest CX
        go_wp2_with fail
        obtain ⟨e0, e1, _, _⟩ := q2b F3
        clear F3
        unfold st2 at e0 e1 HF
        exact bodyPost_ret (v := .tuple #[.agg #[.int .i64 cd, .int .i64 idv], .slice Ao no co]) (by simp [results, Try.results9, go_sem, e0, e1]) rfl (by first | exact HF.out | (rw [HD.out]; exact HF.out))
      · have HD : Hid (doF (plO q) ⟨⟨3, ma, ms, mx, mp, mq, mn, mt, mi, my, mz, mv⟩, false, sx, ex⟩ = akF (plO q) mi) := do_3 rfl HR.out rfl
        obtain ⟨PP, cd, idv, outs, hF⟩ : ∃ a b c d, akF (plO q) mi = (a, b, c, d) := ⟨_, _, _, _, rfl⟩
        have CX := mack_any base g m q mi w2 M2 hv hm fi0 (by omega) hE
        rw [hF] at CX
        rw [hF] at HD
        clear hF
        go_wp2_with fail
        refine CX.mono ?_
        rintro e w9 ⟨q', Ao, no, co, rfl, hrest⟩
        have HU := madeDo_up (co := co) (code := cd) (id := idv) U2 HGZ Z3 MZ M2 hrest
        have F3 : Blk (st2 w9 gZ (.int .i64 cd) (.int .i64 idv)) gZ 43 #[.int .i64 cd, .int .i64 idv] := st2_blk HU.1
        have HF := Lib.hid HU.2
        obtain ⟨z0, z1, z2, z3⟩ := q2b HU.1
        have zx : (w9.setCell ⟨gZ, 0, none⟩ (.int .i64 cd)).cell? ⟨gZ, 1, none⟩ = some (.int .i64 0) := (blk_st HU.1 0 (.int .i64 cd)).cell 1
        clear HU hrest CX
        go_wp2_with fail
        obtain ⟨e0, e1, _, _⟩ := q2b F3
        clear F3
        unfold st2 at e0 e1 HF
        exact bodyPost_ret (v := .tuple #[.agg #[.int .i64 cd, .int .i64 idv], .slice Ao no co]) (by simp [results, Try.results9, go_sem, e0, e1]) rfl (by first | exact HF.out | (rw [HD.out]; exact HF.out))
      · have HD : Hid (doF (plO q) ⟨⟨4, ma, ms, mx, mp, mq, mn, mt, mi, my, mz, mv⟩, false, sx, ex⟩ = kilF (plO q)) := do_4 rfl HR.out rfl
        obtain ⟨PP, cd, idv, outs, hF⟩ : ∃ a b c d, kilF (plO q) = (a, b, c, d) := ⟨_, _, _, _, rfl⟩
        have CX := killD base g q w2 M2
        rw [hF] at CX
        rw [hF] at HD
        clear hF
        go_wp2_with fail
        refine CX.mono ?_
        rintro e w9 ⟨q', Ao, no, co, rfl, hrest⟩
        have HU := madeDo_up (co := co) (code := cd) (id := idv) U2 HGZ Z3 MZ M2 hrest
        have F3 : Blk (st2 w9 gZ (.int .i64 cd) (.int .i64 idv)) gZ 43 #[.int .i64 cd, .int .i64 idv] := st2_blk HU.1
        have HF := Lib.hid HU.2
        obtain ⟨z0, z1, z2, z3⟩ := q2b HU.1
        have zx : (w9.setCell ⟨gZ, 0, none⟩ (.int .i64 cd)).cell? ⟨gZ, 1, none⟩ = some (.int .i64 0) := (blk_st HU.1 0 (.int .i64 cd)).cell 1
        clear HU hrest CX
        go_wp2_with fail
        obtain ⟨e0, e1, _, _⟩ := q2b F3
        clear F3
        unfold st2 at e0 e1 HF
        exact bodyPost_ret (v := .tuple #[.agg #[.int .i64 cd, .int .i64 idv], .slice Ao no co]) (by simp [results, Try.results9, go_sem, e0, e1]) rfl (by first | exact HF.out | (rw [HD.out]; exact HF.out))
      · have HD : Hid (doF (plO q) ⟨⟨5, ma, ms, mx, mp, mq, mn, mt, mi, my, mz, mv⟩, false, sx, ex⟩ = reaF (plO q)) := do_5 rfl HR.out rfl
        obtain ⟨PP, cd, idv, outs, hF⟩ : ∃ a b c d, reaF (plO q) = (a, b, c, d) := ⟨_, _, _, _, rfl⟩
        have CX := rearmD base g q w2 M2 hep
        rw [hF] at CX
        rw [hF] at HD
        clear hF
        go_wp2_with fail
        refine CX.mono ?_
        rintro e w9 ⟨q', Ao, no, co, rfl, hrest⟩
        have HU := madeDo_up (co := co) (code := cd) (id := idv) U2 HGZ Z3 MZ M2 hrest
        have F3 : Blk (st2 w9 gZ (.int .i64 cd) (.int .i64 idv)) gZ 43 #[.int .i64 cd, .int .i64 idv] := st2_blk HU.1
        have HF := Lib.hid HU.2
        obtain ⟨z0, z1, z2, z3⟩ := q2b HU.1
        have zx : (w9.setCell ⟨gZ, 0, none⟩ (.int .i64 cd)).cell? ⟨gZ, 1, none⟩ = some (.int .i64 0) := (blk_st HU.1 0 (.int .i64 cd)).cell 1
        clear HU hrest CX
        go_wp2_with fail
        obtain ⟨e0, e1, _, _⟩ := q2b F3
        clear F3
        unfold st2 at e0 e1 HF
        exact bodyPost_ret (v := .tuple #[.agg #[.int .i64 cd, .int .i64 idv], .slice Ao no co]) (by simp [results, Try.results9, go_sem, e0, e1]) rfl (by first | exact HF.out | (rw [HD.out]; exact HF.out))
      · have HD : Hid (doF (plO q) ⟨⟨6, ma, ms, mx, mp, mq, mn, mt, mi, my, mz, mv⟩, false, sx, ex⟩ = lmtF (plO q) mz mv) := do_6 rfl HR.out rfl
        obtain ⟨PP, cd, idv, outs, hF⟩ : ∃ a b c d, lmtF (plO q) mz mv = (a, b, c, d) := ⟨_, _, _, _, rfl⟩
        have CX := mlimit_any base g m q mz mv w2 M2 hv hm ⟨by omega, by omega⟩ (by omega) hV
        rw [hF] at CX
        rw [hF] at HD
        clear hF
        go_wp2_with fail
        refine CX.mono ?_
        rintro e w9 ⟨q', Ao, no, co, rfl, hrest⟩
        have HU := madeDo_up (co := co) (code := cd) (id := idv) U2 HGZ Z3 MZ M2 hrest
        have F3 : Blk (st2 w9 gZ (.int .i64 cd) (.int .i64 idv)) gZ 43 #[.int .i64 cd, .int .i64 idv] := st2_blk HU.1
        have HF := Lib.hid HU.2
        obtain ⟨z0, z1, z2, z3⟩ := q2b HU.1
        have zx : (w9.setCell ⟨gZ, 0, none⟩ (.int .i64 cd)).cell? ⟨gZ, 1, none⟩ = some (.int .i64 0) := (blk_st HU.1 0 (.int .i64 cd)).cell 1
        clear HU hrest CX
        go_wp2_with fail
        obtain ⟨e0, e1, _, _⟩ := q2b F3
        clear F3
        unfold st2 at e0 e1 HF
        exact bodyPost_ret (v := .tuple #[.agg #[.int .i64 cd, .int .i64 idv], .slice Ao no co]) (by simp [results, Try.results9, go_sem, e0, e1]) rfl (by first | exact HF.out | (rw [HD.out]; exact HF.out))
end Go.Proofs.Ytkmkaidhpbjbnaa.Mdd

/- The contract of the law's From: a State of the program's as the reference has it. Condition: the State lies in memory. -/
namespace Go.Proofs.Ytkmkaidhpbjbnaa.Fr4
set_option maxRecDepth 100000
open Go.ChangeShapes Go.WideShapes Go.ChangeAt Go.RowKit Mem Tre Ref3 Law3 Fix3 Crd CrdB CrdC Cpl Own Res Rr4 Sm4
set_option linter.unusedVariables false

theorem step_app1G {P : Program} {w : World} {ops : Array Oper} {o : Oper} {a : Act} {K : Act → World → Prop} {Q : Exit → Act → World → Prop} {E : Prop} {base : Nat} {e te : TypeId} {size n : Nat} {v : Value} {xs : List Value} {cs : Array Value}
    (hown : Hid (w.ownsRow base e size v n xs)) (hgd : o.guard = none) (s x : Operand) (t : TypeId)
    (ho : o.op = .call { callee := .builtin .append, args := #[s, x], argTypes := #[t, t] })
    (i : TypeInfo) (z : Value) (bytes : Nat) (ht : P.underlying t = some (.slice e)) (hi : P.info? e = some i) (hz : i.zero = some z)
    (hsize : i.size = size) (hby : i.bytes = bytes) (hzs : z.cells.size = size) (hsz : 0 < size)
    (hs : a.eval s = v) {gb : Nat} (hx : a.eval x = .slice (some ⟨gb, 0, none⟩) 1 1) (hgb : gb = w.heap.size) (news : List Value) (hn : cs.toList = news) (hl : news.length = size) (h1 : ∀ u ∈ news, u.oneCell' = true)
    (h63 : n + 1 ≤ maxLen) (hbytes : (n + 1) * bytes ≤ 140737488355328) (hbase : base ≤ w.heap.size)
    (h : ∀ A' c' w', Hid (w'.ownsRow base e size (.slice A' (n + 1) c') (n + 1) (xs ++ news)) → (w.alloc (.cells cs te)).grownBy w' v.ownBlock → K (a.put o.dst (.slice A' (n + 1) c')) w') :
    if Region.wanted o (yielded ops a.tmps) = true then Oper.wp P o a (w.alloc (.cells cs te)) K Q else E := by
  subst hgb
  have hw : Region.wanted o (yielded ops a.tmps) = true := by simp [Region.wanted, hgd]
  rw [if_pos hw]
  refine wp_append_own _ s x t ho base e i z size bytes ht hi hz hsize hby hzs hsz v n xs hs (World.ownsRow.alloc hown.out _) ⟨w.heap.size, 0, none⟩ 1 1 news hx (by omega) (one_cells hn) h1 h63 hbytes (by simp; omega) ?_
  intro v' w' hown' hg _
  obtain ⟨A', c', rfl, _⟩ := own_form hown'
  exact h A' c' w' hown' hg
theorem own_row_ne {w : World} {base : Nat} {e : TypeId} {size n : Nat} {v : Value} {xs : List Value} (h : w.ownsRow base e size v n xs) {g : Nat} (hg : g < base) : some g ≠ v.ownBlock := by
  intro e
  have := World.ownsRow.lt h g e.symm
  omega

end Go.Proofs.Ytkmkaidhpbjbnaa.Fr4

/- Words for a struct of seven cells that is stored, and for a Config in new memory; append to a row beside other blocks. No condition. -/
namespace Go.Proofs.Ytkmkaidhpbjbnaa.St7
set_option maxRecDepth 100000
open Go.ChangeShapes Go.WideShapes Go.ChangeAt Go.RowKit Mem Tre Ref3 Law3 Fix3 Opn Bnd Flo Cfg CrdB CrdC Rr4 Fr4
set_option linter.unusedVariables false
attribute [local go_sem] run_store_float

theorem wpList_app1G {P : Program} {w : World} {ops : Array Oper} {rest : List Oper} {o : Oper} {a : Act} {Q : Exit → Act → World → Prop} {base : Nat} {e te : TypeId} {size n : Nat} {v : Value} {xs : List Value} {cs : Array Value}
    (hown : Hid (w.ownsRow base e size v n xs)) (hgd : o.guard = none) (s x : Operand) (t : TypeId)
    (ho : o.op = .call { callee := .builtin .append, args := #[s, x], argTypes := #[t, t] })
    (i : TypeInfo) (z : Value) (bytes : Nat) (ht : P.underlying t = some (.slice e)) (hi : P.info? e = some i) (hz : i.zero = some z)
    (hsize : i.size = size) (hby : i.bytes = bytes) (hzs : z.cells.size = size) (hsz : 0 < size)
    (hs : a.eval s = v) {gb : Nat} (hx : a.eval x = .slice (some ⟨gb, 0, none⟩) 1 1) (hgb : gb = w.heap.size) (news : List Value) (hn : cs.toList = news) (hl : news.length = size) (h1 : ∀ u ∈ news, u.oneCell' = true)
    (h63 : n + 1 ≤ maxLen) (hbytes : (n + 1) * bytes ≤ 140737488355328) (hbase : base ≤ w.heap.size)
    (h : ∀ A' c' w', Hid (w'.ownsRow base e size (.slice A' (n + 1) c') (n + 1) (xs ++ news)) → (w.alloc (.cells cs te)).grownBy w' v.ownBlock → wpList P ops Q rest (a.put o.dst (.slice A' (n + 1) c')) w') :
    wpList P ops Q (o :: rest) a (w.alloc (.cells cs te)) := by
  subst hgb
  refine wpList_append_own _ hgd s x t ho base e i z size bytes ht hi hz hsize hby hzs hsz v n xs hs (World.ownsRow.alloc hown.out _) ⟨w.heap.size, 0, none⟩ 1 1 news hx (by omega) (one_cells hn) h1 h63 hbytes (by simp; omega) ?_
  intro v' w' hown' hg _
  obtain ⟨A', c', rfl, _⟩ := own_form hown'
  exact h A' c' w' hown' hg

/-- a struct of seven cells is stored -/
def st7 (W : World) (g : Nat) (a b c d e f h : Value) : World :=
  ((((((W.setCell ⟨g, 0, none⟩ a).setCell ⟨g, 1, none⟩ b).setCell ⟨g, 2, none⟩ c).setCell ⟨g, 3, none⟩ d).setCell ⟨g, 4, none⟩ e).setCell ⟨g, 5, none⟩ f).setCell ⟨g, 6, none⟩ h
theorem st7_blk {W : World} {g : Nat} {te : TypeId} {v0 v1 v2 v3 v4 v5 v6 a b c d e f h : Value} (hk : Blk W g te #[v0, v1, v2, v3, v4, v5, v6]) : Blk (st7 W g a b c d e f h) g te #[a, b, c, d, e, f, h] := by
  have k0 : Blk (W.setCell ⟨g, 0, none⟩ a) g te #[a, v1, v2, v3, v4, v5, v6] := blk_set hk 0 a
  have k1 : Blk ((W.setCell ⟨g, 0, none⟩ a).setCell ⟨g, 1, none⟩ b) g te #[a, b, v2, v3, v4, v5, v6] := blk_set k0 1 b
  have k2 : Blk (((W.setCell ⟨g, 0, none⟩ a).setCell ⟨g, 1, none⟩ b).setCell ⟨g, 2, none⟩ c) g te #[a, b, c, v3, v4, v5, v6] := blk_set k1 2 c
  have k3 : Blk ((((W.setCell ⟨g, 0, none⟩ a).setCell ⟨g, 1, none⟩ b).setCell ⟨g, 2, none⟩ c).setCell ⟨g, 3, none⟩ d) g te #[a, b, c, d, v4, v5, v6] := blk_set k2 3 d
  have k4 : Blk (((((W.setCell ⟨g, 0, none⟩ a).setCell ⟨g, 1, none⟩ b).setCell ⟨g, 2, none⟩ c).setCell ⟨g, 3, none⟩ d).setCell ⟨g, 4, none⟩ e) g te #[a, b, c, d, e, v5, v6] := blk_set k3 4 e
  have k5 : Blk ((((((W.setCell ⟨g, 0, none⟩ a).setCell ⟨g, 1, none⟩ b).setCell ⟨g, 2, none⟩ c).setCell ⟨g, 3, none⟩ d).setCell ⟨g, 4, none⟩ e).setCell ⟨g, 5, none⟩ f) g te #[a, b, c, d, e, f, v6] := blk_set k4 5 f
  have k6 : Blk (((((((W.setCell ⟨g, 0, none⟩ a).setCell ⟨g, 1, none⟩ b).setCell ⟨g, 2, none⟩ c).setCell ⟨g, 3, none⟩ d).setCell ⟨g, 4, none⟩ e).setCell ⟨g, 5, none⟩ f).setCell ⟨g, 6, none⟩ h) g te #[a, b, c, d, e, f, h] := blk_set k5 6 h
  exact k6
theorem st7_below {B : Nat} {w0 W : World} {g : Nat} {a b c d e f h : Value} (hb : Below B w0 W) (hg : B ≤ g) : Below B w0 (st7 W g a b c d e f h) :=
  ((((((hb.setCell (p := ⟨g, 0, none⟩) hg a).setCell (p := ⟨g, 1, none⟩) hg b).setCell (p := ⟨g, 2, none⟩) hg c).setCell (p := ⟨g, 3, none⟩) hg d).setCell (p := ⟨g, 4, none⟩) hg e).setCell (p := ⟨g, 5, none⟩) hg f).setCell (p := ⟨g, 6, none⟩) hg h
theorem st7_own {W : World} {g base : Nat} {e : TypeId} {size n : Nat} {v : Value} {xs : List Value} {a b c d e' f h : Value} (ho : W.ownsRow base e size v n xs) (hg : g < base) : (st7 W g a b c d e' f h).ownsRow base e size v n xs :=
  ownsRow_setCell_below (ownsRow_setCell_below (ownsRow_setCell_below (ownsRow_setCell_below (ownsRow_setCell_below (ownsRow_setCell_below (ownsRow_setCell_below ho (a := ⟨g, 0, none⟩) hg a) (a := ⟨g, 1, none⟩) hg b) (a := ⟨g, 2, none⟩) hg c) (a := ⟨g, 3, none⟩) hg d) (a := ⟨g, 4, none⟩) hg e') (a := ⟨g, 5, none⟩) hg f) (a := ⟨g, 6, none⟩) hg h
theorem st7_cells {W : World} {g : Nat} {te : TypeId} {v0 v1 v2 v3 v4 v5 v6 a b c d e f h : Value} (hk : Blk W g te #[v0, v1, v2, v3, v4, v5, v6]) :
    (st7 W g a b c d e f h).cell? ⟨g, 0, none⟩ = some a ∧ (st7 W g a b c d e f h).cell? ⟨g, 1, none⟩ = some b ∧ (st7 W g a b c d e f h).cell? ⟨g, 2, none⟩ = some c ∧ (st7 W g a b c d e f h).cell? ⟨g, 3, none⟩ = some d ∧
    (st7 W g a b c d e f h).cell? ⟨g, 4, none⟩ = some e ∧ (st7 W g a b c d e f h).cell? ⟨g, 5, none⟩ = some f ∧ (st7 W g a b c d e f h).cell? ⟨g, 6, none⟩ = some h :=
  have k := st7_blk (a := a) (b := b) (c := c) (d := d) (e := e) (f := f) (h := h) hk
  ⟨k.cell 0, k.cell 1, k.cell 2, k.cell 3, k.cell 4, k.cell 5, k.cell 6⟩

/-- a Config in new memory -/
def MadeCf (sh wi ra ta : Int) (nd : List (Int × Int)) (ac : List Int) (sy : List (Int × Int × Int × Nat)) (w : World) (e : Ending) (w' : World) : Prop :=
  ∃ A B C c d f, e = .returned (.agg #[.int .i64 sh, .int .i64 wi, .int .i64 ra, .int .i64 ta, .slice A nd.length c, .slice B ac.length d, .slice C sy.length f]) ∧ Nds w' w'.heap.size A nd ∧ Ris w' w'.heap.size B ac ∧ Smb w' w'.heap.size C sy ∧ Below w.heap.size w w'
theorem madeCf_mk {sh wi ra ta : Int} {nd : List (Int × Int)} {ac : List Int} {sy : List (Int × Int × Int × Nat)} {A B C : Option Addr} {n m k c d f : Nat} {w w' : World} (h1 : n = nd.length) (h2 : m = ac.length) (h3 : k = sy.length)
    (hn : Nds w' w'.heap.size A nd) (ha : Ris w' w'.heap.size B ac) (hs : Smb w' w'.heap.size C sy) (hb : Below w.heap.size w w') :
    MadeCf sh wi ra ta nd ac sy w (.returned (.agg #[.int .i64 sh, .int .i64 wi, .int .i64 ra, .int .i64 ta, .slice A n c, .slice B m d, .slice C k f])) w' := by
  subst h1; subst h2; subst h3; exact ⟨A, B, C, c, d, f, rfl, hn, ha, hs, hb⟩
theorem sym_info : (Try.prog.info? 71).map (fun i => (i.zero, i.size, i.bytes)) = some (some (.agg #[.int .i64 0, .int .i64 0, .int .i64 0, .float .f64 0]), 4, 32) := by kernel_rfl

end Go.Proofs.Ytkmkaidhpbjbnaa.St7

/- Contracts of a Config's copy: memory of the call's own. Condition: the Config lies in memory and is not long. -/
namespace Go.Proofs.Ytkmkaidhpbjbnaa.Mdc
set_option maxRecDepth 100000
open Go.ChangeShapes Go.WideShapes Go.ChangeAt Go.RowKit Mem Tre Ref3 Law3 Fix3 Cfg Crd CrdB CrdC Rr4 Bkp Bks Bcl Stk Apt Bko
set_option linter.unusedVariables false
set_option linter.unusedSimpArgs false
theorem smbs_one (l : List (Int × Int × Int × Nat)) : ∀ u ∈ smbs l, u.oneCell' = true := by
  intro u hu
  simp only [smbs, List.mem_flatMap] at hu
  obtain ⟨e, _, he⟩ := hu
  simp only [syV, List.mem_cons, List.not_mem_nil, or_false] at he
  rcases he with rfl | rfl | rfl | rfl <;> rfl
theorem infoD : (Try.prog.info? 99).map (fun i => (i.zero, i.size, i.bytes)) = some (some (.agg #[.int .i64 0, .int .i64 0]), 2, 16) := by kernel_rfl
set_option maxHeartbeats 1000000 in
theorem cloneD (A : Option Addr) (n c : Nat) (l : List (Int × Int)) (w : World) (hn : Hid (n = l.length)) (hl : Hid (Rd w w.heap.size A (nds l))) (hmax : (n : Int) ≤ 1000000) :
    Calls Try.prog 35 #[.slice A n c] w (MadeOw 99 2 n (nds l) w) := by
  obtain ⟨i0, hi, hz0, hz1, hz2⟩ := info_parts infoD
  have hq := fun (W : World) (n c : Nat) => Lib.run_eql_slice_nil (P := Try.prog) W 36 99 A n c 0 0 Try.underlying36
  have hln : Hid ((nds l).length = n * 2) := by show _ = _; rw [hn.out]; exact nds_len l
  cases A with
  | none =>
    have hl0 : nds l = [] := by
      rcases hl.out with h | ⟨b, o, h, _⟩
      · exact h
      · cases h
    have hn0 : n = 0 := by have := hln.out; rw [hl0] at this; simp at this; omega
    have HL := Lib.hid hl0
    clear hn hln hl0
    subst hn0
    go_enter Try.func35, Try.ntmps35
    go_wp2_with fail
    go_ret
    rw [HL.out]
    exact ⟨none, 0, rfl, World.ownsRow_nil _ _ _ _, Below.refl _ _⟩
  | some ad =>
    have hl1 : Hid (Rd (w.alloc (.cells #[] 99)) w.heap.size (some ad) (nds l)) := Rd.below hl.out ((Below.refl _ _).alloc (Nat.le_refl _) _)
    have how : Hid ((w.alloc (.cells #[] 99)).ownsRow w.heap.size 99 2 (.slice (some ⟨w.heap.size, 0, none⟩) 0 0) 0 []) := own_empty (Blk.fresh w _ _) (Nat.le_refl _)
    have hb0 : Below w.heap.size w (w.alloc (.cells #[] 99)) := (Below.refl _ _).alloc (Nat.le_refl _) _
    go_enter Try.func35, Try.ntmps35
    go_wp2_with (at_builtin; go_loud (refine wpList_appR (nm := n) how hb0 hl1 (by simp) rfl _ _ _ rfl i0 (.agg #[.int .i64 0, .int .i64 0]) 16 Try.underlying36 hi hz0 hz1 hz2 rfl (by decide) rfl rfl hln.out (nds_one l) (by unfold maxLen; omega) (by omega) (Nat.le_refl _) (by simp) (by simp) ?_); intro A1 c1 w1 hown1 hbel1 hsz1)
    go_ret
    exact ⟨A1, c1, rfl, hown1, hbel1⟩
theorem infoM : (Try.prog.info? 3).map (fun i => (i.zero, i.size, i.bytes)) = some (some (.int .i64 0), 1, 8) := by kernel_rfl
set_option maxHeartbeats 1000000 in
theorem cloneM (A : Option Addr) (n c : Nat) (l : List Int) (w : World) (hn : Hid (n = l.length)) (hl : Hid (Rd w w.heap.size A (ints l))) (hmax : (n : Int) ≤ 1000000) :
    Calls Try.prog 42 #[.slice A n c] w (MadeOw 3 1 n (ints l) w) := by
  obtain ⟨i0, hi, hz0, hz1, hz2⟩ := info_parts infoM
  have hq := fun (W : World) (n c : Nat) => Lib.run_eql_slice_nil (P := Try.prog) W 23 3 A n c 0 0 Try.underlying23
  have hln : Hid ((ints l).length = n * 1) := by show _ = _; rw [hn.out]; exact ints_len1 l
  cases A with
  | none =>
    have hl0 : ints l = [] := by
      rcases hl.out with h | ⟨b, o, h, _⟩
      · exact h
      · cases h
    have hn0 : n = 0 := by have := hln.out; rw [hl0] at this; simp at this; omega
    have HL := Lib.hid hl0
    clear hn hln hl0
    subst hn0
    go_enter Try.func42, Try.ntmps42
    go_wp2_with fail
    go_ret
    rw [HL.out]
    exact ⟨none, 0, rfl, World.ownsRow_nil _ _ _ _, Below.refl _ _⟩
  | some ad =>
    have hl1 : Hid (Rd (w.alloc (.cells #[] 3)) w.heap.size (some ad) (ints l)) := Rd.below hl.out ((Below.refl _ _).alloc (Nat.le_refl _) _)
    have how : Hid ((w.alloc (.cells #[] 3)).ownsRow w.heap.size 3 1 (.slice (some ⟨w.heap.size, 0, none⟩) 0 0) 0 []) := own_empty (Blk.fresh w _ _) (Nat.le_refl _)
    have hb0 : Below w.heap.size w (w.alloc (.cells #[] 3)) := (Below.refl _ _).alloc (Nat.le_refl _) _
    go_enter Try.func42, Try.ntmps42
    go_wp2_with (at_builtin; go_loud (refine wpList_appR (nm := n) how hb0 hl1 (by simp) rfl _ _ _ rfl i0 (.int .i64 0) 8 Try.underlying23 hi hz0 hz1 hz2 rfl (by decide) rfl rfl hln.out (ints_one l) (by unfold maxLen; omega) (by omega) (Nat.le_refl _) (by simp) (by simp) ?_); intro A1 c1 w1 hown1 hbel1 hsz1)
    go_ret
    exact ⟨A1, c1, rfl, hown1, hbel1⟩
theorem infoY : (Try.prog.info? 85).map (fun i => (i.zero, i.size, i.bytes)) = some (some (.agg #[.int .i64 0, .int .i64 0, .int .i64 0, .float .f64 0]), 4, 32) := by kernel_rfl
set_option maxHeartbeats 1000000 in
theorem cloneY (A : Option Addr) (n c : Nat) (l : List (Int × Int × Int × Nat)) (w : World) (hn : Hid (n = l.length)) (hl : Hid (Rd w w.heap.size A (smbs l))) (hmax : (n : Int) ≤ 1000000) :
    Calls Try.prog 43 #[.slice A n c] w (MadeOw 85 4 n (smbs l) w) := by
  obtain ⟨i0, hi, hz0, hz1, hz2⟩ := info_parts infoY
  have hq := fun (W : World) (n c : Nat) => Lib.run_eql_slice_nil (P := Try.prog) W 37 85 A n c 0 0 Try.underlying37
  have hln : Hid ((smbs l).length = n * 4) := by show _ = _; rw [hn.out]; exact smbs_len l
  cases A with
  | none =>
    have hl0 : smbs l = [] := by
      rcases hl.out with h | ⟨b, o, h, _⟩
      · exact h
      · cases h
    have hn0 : n = 0 := by have := hln.out; rw [hl0] at this; simp at this; omega
    have HL := Lib.hid hl0
    clear hn hln hl0
    subst hn0
    go_enter Try.func43, Try.ntmps43
    go_wp2_with fail
    go_ret
    rw [HL.out]
    exact ⟨none, 0, rfl, World.ownsRow_nil _ _ _ _, Below.refl _ _⟩
  | some ad =>
    have hl1 : Hid (Rd (w.alloc (.cells #[] 85)) w.heap.size (some ad) (smbs l)) := Rd.below hl.out ((Below.refl _ _).alloc (Nat.le_refl _) _)
    have how : Hid ((w.alloc (.cells #[] 85)).ownsRow w.heap.size 85 4 (.slice (some ⟨w.heap.size, 0, none⟩) 0 0) 0 []) := own_empty (Blk.fresh w _ _) (Nat.le_refl _)
    have hb0 : Below w.heap.size w (w.alloc (.cells #[] 85)) := (Below.refl _ _).alloc (Nat.le_refl _) _
    go_enter Try.func43, Try.ntmps43
    go_wp2_with (at_builtin; go_loud (refine wpList_appR (nm := n) how hb0 hl1 (by simp) rfl _ _ _ rfl i0 (.agg #[.int .i64 0, .int .i64 0, .int .i64 0, .float .f64 0]) 32 Try.underlying37 hi hz0 hz1 hz2 rfl (by decide) rfl rfl hln.out (smbs_one l) (by unfold maxLen; omega) (by omega) (Nat.le_refl _) (by simp) (by simp) ?_); intro A1 c1 w1 hown1 hbel1 hsz1)
    go_ret
    exact ⟨A1, c1, rfl, hown1, hbel1⟩
theorem own_st7 {w : World} {base : Nat} {e te : TypeId} {size n g : Nat} {v : Value} {xs : List Value} {u0 u1 u2 u3 u4 u5 u6 v0 v1 v2 v3 v4 v5 v6 : Value} (h : w.ownsRow base e size v n xs) (hk : Blk w g te #[u0, u1, u2, u3, u4, u5, u6]) (hne : e ≠ te) :
    (st7 w g v0 v1 v2 v3 v4 v5 v6).ownsRow base e size v n xs := by
  have k1 : Blk (w.setCell ⟨g, 0, none⟩ v0) g te #[v0, u1, u2, u3, u4, u5, u6] := blk_st hk 0 v0
  have k2 : Blk ((w.setCell ⟨g, 0, none⟩ v0).setCell ⟨g, 1, none⟩ v1) g te #[v0, v1, u2, u3, u4, u5, u6] := blk_st k1 1 v1
  have k3 : Blk (((w.setCell ⟨g, 0, none⟩ v0).setCell ⟨g, 1, none⟩ v1).setCell ⟨g, 2, none⟩ v2) g te #[v0, v1, v2, u3, u4, u5, u6] := blk_st k2 2 v2
  have k4 : Blk ((((w.setCell ⟨g, 0, none⟩ v0).setCell ⟨g, 1, none⟩ v1).setCell ⟨g, 2, none⟩ v2).setCell ⟨g, 3, none⟩ v3) g te #[v0, v1, v2, v3, u4, u5, u6] := blk_st k3 3 v3
  have k5 : Blk (((((w.setCell ⟨g, 0, none⟩ v0).setCell ⟨g, 1, none⟩ v1).setCell ⟨g, 2, none⟩ v2).setCell ⟨g, 3, none⟩ v3).setCell ⟨g, 4, none⟩ v4) g te #[v0, v1, v2, v3, v4, u5, u6] := blk_st k4 4 v4
  have k6 : Blk ((((((w.setCell ⟨g, 0, none⟩ v0).setCell ⟨g, 1, none⟩ v1).setCell ⟨g, 2, none⟩ v2).setCell ⟨g, 3, none⟩ v3).setCell ⟨g, 4, none⟩ v4).setCell ⟨g, 5, none⟩ v5) g te #[v0, v1, v2, v3, v4, v5, u6] := blk_st k5 5 v5
  exact (own_st (own_st (own_st (own_st (own_st (own_st (own_st h hk hne 0 v0) k1 hne 1 v1) k2 hne 2 v2) k3 hne 3 v3) k4 hne 4 v4) k5 hne 5 v5) k6 hne 6 v6)
def MadeCo (sh wi ra ta : Int) (nl al sl : Nat) (nd : List (Int × Int)) (ac : List Int) (sy : List (Int × Int × Int × Nat)) (w : World) (e : Ending) (w' : World) : Prop :=
  ∃ A B C c d f, e = .returned (.agg #[.int .i64 sh, .int .i64 wi, .int .i64 ra, .int .i64 ta, .slice A nl c, .slice B al d, .slice C sl f]) ∧ Nds w' w'.heap.size A nd ∧ Ris w' w'.heap.size B ac ∧ Smb w' w'.heap.size C sy ∧ (∀ a, A = some a → w.heap.size ≤ a.block) ∧ (∀ a, B = some a → w.heap.size ≤ a.block) ∧ (∀ a, C = some a → w.heap.size ≤ a.block) ∧ Below w.heap.size w w'
set_option maxHeartbeats 4000000 in
theorem owncfg_any (sh wi ra ta : Int) (A B C : Option Addr) (nl al sl c d f : Nat) (nd : List (Int × Int)) (ac : List Int) (sy : List (Int × Int × Int × Nat)) (w : World) (h1 : Hid (nl = nd.length)) (h2 : Hid (al = ac.length)) (h3 : Hid (sl = sy.length))
    (hn : Hid (Nds w w.heap.size A nd)) (ha : Hid (Ris w w.heap.size B ac)) (hs : Hid (Smb w w.heap.size C sy)) (m1 : nl ≤ 100000) (m2 : al ≤ 100000) (m3 : sl ≤ 100000) :
    Calls Try.prog 17 #[.agg #[.int .i64 sh, .int .i64 wi, .int .i64 ra, .int .i64 ta, .slice A nl c, .slice B al d, .slice C sl f]] w (MadeCo sh wi ra ta nl al sl nd ac sy w) := by
  have b0 : Hid (Below w.heap.size w ((w.alloc (.cells #[.int .i64 sh, .int .i64 wi, .int .i64 ra, .int .i64 ta, .slice A nl c, .slice B al d, .slice C sl f] 39)).alloc (.cells #[.int .i64 0, .int .i64 0, .int .i64 0, .int .i64 0, .slice none 0 0, .slice none 0 0, .slice none 0 0] 39))) := ((Below.refl _ _).alloc (Nat.le_refl _) _).alloc (by simp) _
  have K0 : Hid (Blk ((w.alloc (.cells #[.int .i64 sh, .int .i64 wi, .int .i64 ra, .int .i64 ta, .slice A nl c, .slice B al d, .slice C sl f] 39)).alloc (.cells #[.int .i64 0, .int .i64 0, .int .i64 0, .int .i64 0, .slice none 0 0, .slice none 0 0, .slice none 0 0] 39)) w.heap.size 39 #[.int .i64 sh, .int .i64 wi, .int .i64 ra, .int .i64 ta, .slice A nl c, .slice B al d, .slice C sl f]) := (Blk.fresh w _ _).alloc _
  have R0 : Hid (Blk ((w.alloc (.cells #[.int .i64 sh, .int .i64 wi, .int .i64 ra, .int .i64 ta, .slice A nl c, .slice B al d, .slice C sl f] 39)).alloc (.cells #[.int .i64 0, .int .i64 0, .int .i64 0, .int .i64 0, .slice none 0 0, .slice none 0 0, .slice none 0 0] 39)) (w.heap.size + 1) 39 #[.int .i64 0, .int .i64 0, .int .i64 0, .int .i64 0, .slice none 0 0, .slice none 0 0, .slice none 0 0]) := blk_hd (by simp)
  go_enter Try.func17, Try.ntmps17
  go_upto_region 1 with fail
  generalize ((w.alloc (.cells #[.int .i64 sh, .int .i64 wi, .int .i64 ra, .int .i64 ta, .slice A nl c, .slice B al d, .slice C sl f] 39)).alloc (.cells #[.int .i64 0, .int .i64 0, .int .i64 0, .int .i64 0, .slice none 0 0, .slice none 0 0, .slice none 0 0] 39)) = w0 at b0 K0 R0 ⊢
  obtain ⟨gB, hgB⟩ : ∃ g, g = w.heap.size := ⟨_, rfl⟩
  obtain ⟨gZ, hgR⟩ : ∃ g, g = w.heap.size + 1 := ⟨_, rfl⟩
  have hBR : Hid (gZ ≠ gB) := by show _ ≠ _; omega
  have hLB : Hid (w.heap.size ≤ gB) := by show _ ≤ _; omega
  have hLR : Hid (w.heap.size ≤ gZ) := by show _ ≤ _; omega
  have K1 : Hid (Blk w0 gB 39 #[.int .i64 sh, .int .i64 wi, .int .i64 ra, .int .i64 ta, .slice A nl c, .slice B al d, .slice C sl f]) := by rw [hgB]; exact K0.out
  have R1 : Hid (Blk w0 gZ 39 #[.int .i64 0, .int .i64 0, .int .i64 0, .int .i64 0, .slice none 0 0, .slice none 0 0, .slice none 0 0]) := by rw [hgR]; exact R0.out
  simp only [← hgR]
  simp only [← hgB]
  clear hgB hgR K0 R0
  obtain ⟨k0, k1, k2, k3, k4, k5, k6⟩ := q7_of K1.out
  go_wp2_with fail
  refine (cloneD A nl c nd _ h1 (Rd.below' hn.out b0.out b0.out.size) (by omega)).mono ?_
  rintro e w1 ⟨A1, c1, rfl, how, hb1⟩
  have KK := Lib.hid (Blk.below' K1.out hb1)
  have RR := Lib.hid (Blk.below' R1.out hb1)
  obtain ⟨x0, x1, x2, x3, x4, x5, x6, f0, f1', f2, f3, f4, f5, f6⟩ := z7_of KK.out
  have K2 : Hid (Blk (w1.setCell ⟨gB, 4, none⟩ (.slice A1 nl c1)) gB 39 #[.int .i64 sh, .int .i64 wi, .int .i64 ra, .int .i64 ta, .slice A1 nl c1, .slice B al d, .slice C sl f]) := blk_st KK.out 4 _
  have R2 : Hid (Blk (w1.setCell ⟨gB, 4, none⟩ (.slice A1 nl c1)) gZ 39 #[.int .i64 0, .int .i64 0, .int .i64 0, .int .i64 0, .slice none 0 0, .slice none 0 0, .slice none 0 0]) := far_st RR.out hBR.out _
  have b2 : Hid (Below w.heap.size w (w1.setCell ⟨gB, 4, none⟩ (.slice A1 nl c1))) := (below_step b0.out hb1).setCell (p := ⟨gB, 4, none⟩) hLB.out _
  have n1 : Hid (((w1.setCell ⟨gB, 4, none⟩ (.slice A1 nl c1))).ownsRow w.heap.size 99 2 (.slice A1 nl c1) nl (nds nd)) := own_st (own_mono how b0.out.size) KK.out (by decide) 4 _
  go_upto_region 2 with fail
  clear k0 k1 k2 k3 k4 k5 k6 x0 x1 x2 x3 x4 x5 x6 f0 f1' f2 f3 f4 f5 f6 KK RR how hb1 K1 R1 b0 
  generalize (w1.setCell ⟨gB, 4, none⟩ (.slice A1 nl c1)) = w2 at K2 R2 b2 n1  ⊢
  obtain ⟨k0, k1, k2, k3, k4, k5, k6⟩ := q7_of K2.out
  go_wp2_with fail
  refine (cloneM B al d ac _ h2 (Rd.below' ha.out b2.out b2.out.size) (by omega)).mono ?_
  rintro e w3 ⟨B1, d1, rfl, how, hb1⟩
  have KK := Lib.hid (Blk.below' K2.out hb1)
  have RR := Lib.hid (Blk.below' R2.out hb1)
  obtain ⟨x0, x1, x2, x3, x4, x5, x6, f0, f1', f2, f3, f4, f5, f6⟩ := z7_of KK.out
  have K3 : Hid (Blk (w3.setCell ⟨gB, 5, none⟩ (.slice B1 al d1)) gB 39 #[.int .i64 sh, .int .i64 wi, .int .i64 ra, .int .i64 ta, .slice A1 nl c1, .slice B1 al d1, .slice C sl f]) := blk_st KK.out 5 _
  have R3 : Hid (Blk (w3.setCell ⟨gB, 5, none⟩ (.slice B1 al d1)) gZ 39 #[.int .i64 0, .int .i64 0, .int .i64 0, .int .i64 0, .slice none 0 0, .slice none 0 0, .slice none 0 0]) := far_st RR.out hBR.out _
  have b4 : Hid (Below w.heap.size w (w3.setCell ⟨gB, 5, none⟩ (.slice B1 al d1))) := (below_step b2.out hb1).setCell (p := ⟨gB, 5, none⟩) hLB.out _
  have n2 : Hid (((w3.setCell ⟨gB, 5, none⟩ (.slice B1 al d1))).ownsRow w.heap.size 3 1 (.slice B1 al d1) al (ints ac)) := own_st (own_mono how b2.out.size) KK.out (by decide) 5 _
  have n1' : Hid (((w3.setCell ⟨gB, 5, none⟩ (.slice B1 al d1))).ownsRow w.heap.size 99 2 (.slice A1 nl c1) nl (nds nd)) := own_st (own_below n1 hb1) KK.out (by decide) 5 _
  go_upto_region 3 with fail
  clear k0 k1 k2 k3 k4 k5 k6 x0 x1 x2 x3 x4 x5 x6 f0 f1' f2 f3 f4 f5 f6 KK RR how hb1 K2 R2 b2 n1
  generalize (w3.setCell ⟨gB, 5, none⟩ (.slice B1 al d1)) = w4 at K3 R3 b4 n2 n1' ⊢
  have n1 := n1'
  clear n1'
  obtain ⟨k0, k1, k2, k3, k4, k5, k6⟩ := q7_of K3.out
  go_wp2_with fail
  refine (cloneY C sl f sy _ h3 (Rd.below' hs.out b4.out b4.out.size) (by omega)).mono ?_
  rintro e w5 ⟨C1, f1, rfl, how, hb1⟩
  have KK := Lib.hid (Blk.below' K3.out hb1)
  have RR := Lib.hid (Blk.below' R3.out hb1)
  obtain ⟨x0, x1, x2, x3, x4, x5, x6, f0, f1', f2, f3, f4, f5, f6⟩ := z7_of KK.out
  have K4 : Hid (Blk (w5.setCell ⟨gB, 6, none⟩ (.slice C1 sl f1)) gB 39 #[.int .i64 sh, .int .i64 wi, .int .i64 ra, .int .i64 ta, .slice A1 nl c1, .slice B1 al d1, .slice C1 sl f1]) := blk_st KK.out 6 _
  have R4 : Hid (Blk (w5.setCell ⟨gB, 6, none⟩ (.slice C1 sl f1)) gZ 39 #[.int .i64 0, .int .i64 0, .int .i64 0, .int .i64 0, .slice none 0 0, .slice none 0 0, .slice none 0 0]) := far_st RR.out hBR.out _
  have b6 : Hid (Below w.heap.size w (w5.setCell ⟨gB, 6, none⟩ (.slice C1 sl f1))) := (below_step b4.out hb1).setCell (p := ⟨gB, 6, none⟩) hLB.out _
  have n3 : Hid (((w5.setCell ⟨gB, 6, none⟩ (.slice C1 sl f1))).ownsRow w.heap.size 85 4 (.slice C1 sl f1) sl (smbs sy)) := own_st (own_mono how b4.out.size) KK.out (by decide) 6 _
  have n1' : Hid (((w5.setCell ⟨gB, 6, none⟩ (.slice C1 sl f1))).ownsRow w.heap.size 99 2 (.slice A1 nl c1) nl (nds nd)) := own_st (own_below n1 hb1) KK.out (by decide) 6 _
  have n2' : Hid (((w5.setCell ⟨gB, 6, none⟩ (.slice C1 sl f1))).ownsRow w.heap.size 3 1 (.slice B1 al d1) al (ints ac)) := own_st (own_below n2 hb1) KK.out (by decide) 6 _
  go_upto_region 4 with fail
  clear k0 k1 k2 k3 k4 k5 k6 x0 x1 x2 x3 x4 x5 x6 f0 f1' f2 f3 f4 f5 f6 KK RR how hb1 K3 R3 b4 n1 n2
  generalize (w5.setCell ⟨gB, 6, none⟩ (.slice C1 sl f1)) = w6 at K4 R4 b6 n3 n1' n2' ⊢
  have n1 := n1'
  clear n1'
  have n2 := n2'
  clear n2'
  have F3 : Blk (st7 w6 gZ (.int .i64 sh) (.int .i64 wi) (.int .i64 ra) (.int .i64 ta) (.slice A1 nl c1) (.slice B1 al d1) (.slice C1 sl f1)) gZ 39 #[.int .i64 sh, .int .i64 wi, .int .i64 ra, .int .i64 ta, .slice A1 nl c1, .slice B1 al d1, .slice C1 sl f1] := st7_blk R4.out
  have hfin : MadeCo sh wi ra ta nl al sl nd ac sy w (.returned (.agg #[.int .i64 sh, .int .i64 wi, .int .i64 ra, .int .i64 ta, .slice A1 nl c1, .slice B1 al d1, .slice C1 sl f1])) (st7 w6 gZ (.int .i64 sh) (.int .i64 wi) (.int .i64 ra) (.int .i64 ta) (.slice A1 nl c1) (.slice B1 al d1) (.slice C1 sl f1)) :=
    ⟨A1, B1, C1, c1, d1, f1, rfl, Rd.of_own (own_st7 n1.out R4.out (by decide)), Rd.of_own (own_st7 n2.out R4.out (by decide)), Rd.of_own (own_st7 n3.out R4.out (by decide)), own_fresh n1.out, own_fresh n2.out, own_fresh n3.out, st7_below b6.out hLR.out⟩
  have HF := Lib.hid hfin
  clear hfin
  obtain ⟨k0, k1, k2, k3, k4, k5, k6⟩ := q7_of K4.out
  obtain ⟨z0, z1, z2, z3, z4, z5, z6, f0, f1', f2, f3, f4, f5, f6⟩ := z7_of R4.out
  go_wp2_with fail
  obtain ⟨e0, e1, e2, e3, e4, e5, e6⟩ := q7_of F3
  clear F3
  unfold st7 at e0 e1 e2 e3 e4 e5 e6 HF
  exact bodyPost_ret (v := .agg #[.int .i64 sh, .int .i64 wi, .int .i64 ra, .int .i64 ta, .slice A1 nl c1, .slice B1 al d1, .slice C1 sl f1]) (by simp [results, Try.results17, go_sem, e0, e1, e2, e3, e4, e5, e6]) rfl HF.out
end Go.Proofs.Ytkmkaidhpbjbnaa.Mdc

/- Contract of book's Begin: a book in which nothing came. Condition: the Config has not too many accounts. -/
namespace Go.Proofs.Ytkmkaidhpbjbnaa.Bkj
set_option maxRecDepth 100000
open Go.ChangeShapes Go.WideShapes Go.ChangeAt Go.RowKit Mem Tre Ref3 Law3 Crd CrdB CrdC Bkp Bks Bcl Stk
set_option linter.unusedVariables false
set_option linter.unusedSimpArgs false
def zRow : Array Value := #[.slice none 0 0, .int .i64 0, .int .i64 0]
theorem made_rows (n : Nat) : (madeCells zRow (n * 3)).toList = rcs (List.replicate n rc0) := by
  apply List.ext_getElem?
  intro i
  by_cases h : i < n * 3
  · have e1 : (rcs (List.replicate n rc0))[i]? = (rcV rc0)[i % 3]? := by
      have h3 := rcs_get (List.replicate n rc0) (i / 3) (i % 3) (by rw [List.length_replicate]; omega) (by omega)
      have e2 : gC (List.replicate n rc0) (i / 3) = rc0 := by
        have : i / 3 < n := by omega
        simp [gC, this]
      rw [e2] at h3
      rw [← h3]
      congr 1
      omega
    rw [e1]
    have e4 : (madeCells zRow (n * 3)).toList[i]? = some (zRow[i % 3]!) := by
      unfold madeCells
      have e5 : zRow.size = 3 := rfl
      simp [e5, h]
    rw [e4]
    rcases (by omega : i % 3 = 0 ∨ i % 3 = 1 ∨ i % 3 = 2) with h0 | h0 | h0 <;> rw [h0] <;> rfl
  · rw [List.getElem?_eq_none (by simp [madeCells]; omega), List.getElem?_eq_none (by rw [rcs_len, List.length_replicate]; omega)]
def beginF (n : Nat) (sh : Int) : Bk := ⟨sh, 0, List.replicate n ro0, []⟩
end Go.Proofs.Ytkmkaidhpbjbnaa.Bkj

/- A Model's row grows by a book; the contract of model.Begin. Condition: the Config is one that may be. -/
namespace Go.Proofs.Ytkmkaidhpbjbnaa.Mdb
set_option maxRecDepth 100000
open Go.ChangeShapes Go.WideShapes Go.ChangeAt Go.RowKit Mem Tre Ref3 Law3 Fix3 Cfg Crd CrdB CrdC Rr4 Cfr Bkp Bks Bcl Dlk Stk Apt Bko Bku Bka Bkc Bkj Mdc Mdp Mdz Mds Lat
open Rul1 hiding below_step
set_option linter.unusedVariables false
set_option linter.unusedSimpArgs false
theorem step_appA {P : Program} {w : World} {ops : Array Oper} {o : Oper} {a : Act} {K : Act → World → Prop} {Q : Exit → Act → World → Prop} {E : Prop} {Bx : Nat} {base : Nat} {e : TypeId} {size n m nm c : Nat} {v : Value} {xs news : List Value} {ad : Addr}
    (hown : Hid (w.ownsRow base e size v n xs)) (hr : Hid (Rd w Bx (some ad) news)) (hnm : nm = n + m) (hgd : o.guard = none) (s x : Operand) (t : TypeId)
    (ho : o.op = .call { callee := .builtin .append, args := #[s, x], argTypes := #[t, t] })
    (i : TypeInfo) (z : Value) (bytes : Nat) (ht : P.underlying t = some (.slice e)) (hi : P.info? e = some i) (hz : i.zero = some z)
    (hsize : i.size = size) (hby : i.bytes = bytes) (hzs : z.cells.size = size) (hsz : 0 < size)
    (hs : a.eval s = v) (hx : a.eval x = .slice (some ad) m c) (hl : news.length = m * size) (h1 : ∀ u ∈ news, u.oneCell' = true)
    (h63 : n + m ≤ maxLen) (hbytes : (n + m) * bytes ≤ 140737488355328) (hbase : base ≤ w.heap.size)
    (h : ∀ A' c' w', Hid (w'.ownsRow base e size (.slice A' nm c') nm (xs ++ news)) → Hid (w.grownBy w' v.ownBlock) → Hid ((Value.slice A' nm c').ownBlock = v.ownBlock ∨ (Value.slice A' nm c').ownBlock = some w.heap.size) → K (a.put o.dst (.slice A' nm c')) w') :
    if Region.wanted o (yielded ops a.tmps) = true then Oper.wp P o a w K Q else E := by
  subst hnm
  have hw : Region.wanted o (yielded ops a.tmps) = true := by simp [Region.wanted, hgd]
  rw [if_pos hw]
  have hnews : ∀ j u, news[j]? = some u → w.cell? (ad.add j) = some u := by
    intro j u hj
    rcases hr.out with h | ⟨b, o, h, _, hc⟩
    · subst h; simp at hj
    · injection h with h
      subst h
      rw [show (⟨b, o, none⟩ : Addr).add j = ⟨b, o + j, none⟩ by unfold Addr.add; split <;> simp_all]
      exact hc j u hj
  obtain ⟨v', w', hrun, hown', hg, _, hob⟩ := run_append_own_at (P := P) (w := w) base t o.type e i z size bytes ht hi hz hsize hby hzs hsz v n xs hown.out ad m c news hl hnews h1 h63 hbytes hbase
  obtain ⟨A', c', rfl, _⟩ := own_form hown'
  unfold Oper.wp execOp
  simp only [ho, resolve, invoke, builtin, Sem.run_bind, Sem.run_pure, Result.andThen_ok, List.map_toArray, List.map_cons, List.map_nil, hs, hx, hrun]
  exact h A' c' w' hown' hg hob
/-- what lies off the row that grew -/
theorem Rd_grown {w w' : World} {r : Option Nat} {X : Option Addr} {xs : List Value} (h : Rd w w.heap.size X xs) (hg : w.grownBy w' r) (hf : xs = [] ∨ ∀ a, X = some a → r ≠ some a.block) : Rd w' w'.heap.size X xs := by
  rcases hf with hf | hf
  · exact .inl hf
  · rcases h with h | ⟨b, o, hA, hb, hc⟩
    · exact .inl h
    · refine .inr ⟨b, o, hA, by have := hg.size; omega, fun i v hi => ?_⟩
      rw [World.cell?_of_block (a := ⟨b, o + i, none⟩) (hg.block b hb (fun e => hf _ hA e.symm))]
      exact hc i v hi
theorem Far_off {g : Nat} {Ab X : Option Addr} {ys : List Value} {n c : Nat} (h : Far g Ab X ys) : ys = [] ∨ ∀ a, X = some a → (Value.slice Ab n c).ownBlock ≠ some a.block := by
  rcases h with h | h
  · exact .inl h
  · refine .inr fun a ha e => ?_
    cases hA : Ab with
    | none => rw [hA] at e; simp [Value.ownBlock] at e
    | some b =>
      rw [hA] at e
      simp only [Value.ownBlock, Option.some.injEq] at e
      exact (h a ha).2 b hA e.symm
theorem Far_push {w : World} {g : Nat} {Ab A6 X : Option Addr} {ys : List Value} {n c n' c' : Nat} (h : Far g Ab X ys) (hr : Rd w w.heap.size X ys) (hob : (Value.slice A6 n' c').ownBlock = (Value.slice Ab n c).ownBlock ∨ (Value.slice A6 n' c').ownBlock = some w.heap.size) : Far g A6 X ys := by
  rcases h with h | h
  · exact .inl h
  · rcases hr with hr | ⟨b, o, hA, hb, _⟩
    · exact .inl hr
    · refine .inr fun a ha => ⟨(h a ha).1, fun b6 h6 e => ?_⟩
      subst h6
      simp only [Value.ownBlock] at hob
      rcases hob with ho | ho
      · cases hAb : Ab with
        | none => rw [hAb] at ho; simp at ho
        | some b0 =>
          rw [hAb] at ho
          simp only [Option.some.injEq] at ho
          exact (h a ha).2 b0 hAb (by rw [e, ho])
      · simp only [Option.some.injEq] at ho
        rw [hA] at ha
        injection ha with ha
        subst ha
        have e' : b = b6.block := e
        omega
/-- one book more -/
theorem Mm_push {base : Nat} {w w' : World} {g : Nat} {q : Mq} (h : Mm base w g q) {x : Bx} (hx : Bm w x.A x.C x.rl x.b) (fx : FarX g q.Ab x) {A6 : Option Addr} {n6 c6 : Nat} (hn : n6 = q.nb + 1)
    (ho : w'.ownsRow base 58 4 (.slice A6 n6 c6) n6 (bxs q.xs ++ bxV x)) (hg : w.grownBy w' (Value.slice q.Ab q.nb q.cb).ownBlock) (hob : (Value.slice A6 n6 c6).ownBlock = (Value.slice q.Ab q.nb q.cb).ownBlock ∨ (Value.slice A6 n6 c6).ownBlock = some w.heap.size) :
    Mm base (w'.setCell ⟨g, 7, none⟩ (.slice A6 n6 c6)) g { q with Ab := A6, nb := n6, cb := c6, xs := q.xs ++ [x] } := by
  have k1 := blk_own_grown h.blk h.row (by decide) hg
  have s := fun {X : Option Addr} {ys : List Value} (hy : Rd w w.heap.size X ys) (hf : Far g q.Ab X ys) => Rd_setg (Rd_grown hy hg (Far_off hf)) (Far_push hf hy hob) 7 (.slice A6 n6 c6)
  have sb : ∀ (y : Bx), Bm w y.A y.C y.rl y.b → FarX g q.Ab y → Bm (w'.setCell ⟨g, 7, none⟩ (.slice A6 n6 c6)) y.A y.C y.rl y.b ∧ FarX g A6 y := fun y hy hf =>
    ⟨⟨s hy.r hf.1, hy.e, fun i hi => s (hy.n i hi) (hf.2.2 i hi), s hy.o hf.2.1⟩, ⟨Far_push hf.1 hy.r hob, Far_push hf.2.1 hy.o hob, fun j hj => Far_push (hf.2.2 j hj) (hy.n j hj) hob⟩⟩
  have all : ∀ i, i < (q.xs ++ [x]).length → Bm (w'.setCell ⟨g, 7, none⟩ (.slice A6 n6 c6)) (gX (q.xs ++ [x]) i).A (gX (q.xs ++ [x]) i).C (gX (q.xs ++ [x]) i).rl (gX (q.xs ++ [x]) i).b ∧ FarX g A6 (gX (q.xs ++ [x]) i) := by
    intro i hi
    have hi' : i < q.xs.length + 1 := by simpa using hi
    rw [gX_snoc _ _ _ hi']
    by_cases e : i = q.xs.length
    · rw [if_pos e]; exact sb x hx fx
    · rw [if_neg e]; exact sb _ (h.bm i (by omega)) (h.fx i (by omega))
  refine ⟨?_, ?_, h.gb, h.l1, h.l2, h.l3, ?_, h.l5, h.l6, s h.nds h.f1, s h.ris h.f2, s h.smb h.f3, s h.cn h.f4, s h.cr h.f5, fun i hi => (all i hi).1, Far_push h.f1 h.nds hob, Far_push h.f2 h.ris hob, Far_push h.f3 h.smb hob, Far_push h.f4 h.cn hob, Far_push h.f5 h.cr hob, fun i hi => (all i hi).2⟩
  · exact blk_st k1 7 _
  · show World.ownsRow _ _ _ _ _ _ (bxs (q.xs ++ [x]))
    rw [bxs_snoc]
    exact own_st ho k1 (by decide) 7 _
  · show n6 = (q.xs ++ [x]).length
    rw [hn, h.l4]; simp
end Go.Proofs.Ytkmkaidhpbjbnaa.Mdb

/- The contract of book's Begin, with where the rows that it makes lie: the last block of the heap that it leaves. Condition: the Config has not too many accounts. -/
namespace Go.Proofs.Ytkmkaidhpbjbnaa.Mdf
set_option maxRecDepth 100000
open Go.ChangeShapes Go.WideShapes Go.ChangeAt Go.RowKit Mem Tre Ref3 Law3 Crd CrdB CrdC Bkp Bks Bcl Stk Bkj Bka
set_option linter.unusedVariables false
set_option linter.unusedSimpArgs false
def MadeBg (n : Nat) (sh : Int) (w : World) (e : Ending) (w' : World) : Prop :=
  e = .returned (bkA (some ⟨w.heap.size + 1 + 1, 0, none⟩) none n 0 (beginF n sh)) ∧ Bm w' (some ⟨w.heap.size + 1 + 1, 0, none⟩) none (List.replicate n rc0) (beginF n sh) ∧ Below w.heap.size w w'
set_option maxHeartbeats 4000000 in
theorem bbegin_fresh (sk wi ra ta : Int) (A1 A2 A3 : Option Addr) (n1 n2 n3 c1 c2 c3 : Nat) (sh : Int) (w : World) (hmax : n2 ≤ 1000) :
    Calls Try.prog 19 #[.agg #[.int .i64 sk, .int .i64 wi, .int .i64 ra, .int .i64 ta, .slice A1 n1 c1, .slice A2 n2 c2, .slice A3 n3 c3], .int .i64 sh] w (MadeBg n2 sh w) := by
  obtain ⟨i0, hi, hz0, hz1, hz2⟩ := info_parts infoR
  have hmk := fun (W : World) => run_make (P := Try.prog) W 55 138 i0 _ Try.underlying55 hi hz0 .i64 .i64 (n2 : Int) (n2 : Int) (by omega) (by omega) (by rw [hz2]; omega) (by omega)
  simp only [Int.toNat_natCast, hz1] at hmk
  have hmk2 : ∀ W : World, (Instr.makeSlice 55 (.int .i64 (n2 : Int)) (.int .i64 (n2 : Int))).run Try.prog W = .ok (.slice (some ⟨W.heap.size, 0, none⟩) n2 n2) (W.alloc (.cells (madeCells zRow (n2 * 3)) 138)) := fun W => by first | exact hmk W | simpa [zRow] using hmk W
  have b0 : Hid (Below w.heap.size w (((w.alloc (.cells #[.int .i64 sk, .int .i64 wi, .int .i64 ra, .int .i64 ta, .slice A1 n1 c1, .slice A2 n2 c2, .slice A3 n3 c3] 39)).alloc (.cells #[.int .i64 sh, .int .i64 0, .slice (some ⟨w.heap.size + 1 + 1, 0, none⟩) n2 n2, .slice none 0 0] 58)).alloc (.cells (madeCells zRow (n2 * 3)) 138))) := (((Below.refl _ _).alloc (Nat.le_refl _) _).alloc (by simp) _).alloc (by simp <;> omega) _
  have K0 : Hid (Blk (((w.alloc (.cells #[.int .i64 sk, .int .i64 wi, .int .i64 ra, .int .i64 ta, .slice A1 n1 c1, .slice A2 n2 c2, .slice A3 n3 c3] 39)).alloc (.cells #[.int .i64 sh, .int .i64 0, .slice (some ⟨w.heap.size + 1 + 1, 0, none⟩) n2 n2, .slice none 0 0] 58)).alloc (.cells (madeCells zRow (n2 * 3)) 138)) (w.heap.size + 1) 58 #[.int .i64 sh, .int .i64 0, .slice (some ⟨w.heap.size + 1 + 1, 0, none⟩) n2 n2, .slice none 0 0]) := Blk.alloc (blk_hd (by simp)) _
  have Z0 : Hid (Blk (((w.alloc (.cells #[.int .i64 sk, .int .i64 wi, .int .i64 ra, .int .i64 ta, .slice A1 n1 c1, .slice A2 n2 c2, .slice A3 n3 c3] 39)).alloc (.cells #[.int .i64 sh, .int .i64 0, .slice (some ⟨w.heap.size + 1 + 1, 0, none⟩) n2 n2, .slice none 0 0] 58)).alloc (.cells (madeCells zRow (n2 * 3)) 138)) (w.heap.size + 1 + 1) 138 (madeCells zRow (n2 * 3))) := blk_hd (by simp)
  clear hmk
  go_enter Try.func19, Try.ntmps19
  go_wp2_with fail
  obtain ⟨k0, k1, k2, k3⟩ := q4_of K0.out
  have hfin : MadeBg n2 sh w (.returned (.agg #[.int .i64 sh, .int .i64 0, .slice (some ⟨w.heap.size + 1 + 1, 0, none⟩) n2 n2, .slice none 0 0])) (((w.alloc (.cells #[.int .i64 sk, .int .i64 wi, .int .i64 ra, .int .i64 ta, .slice A1 n1 c1, .slice A2 n2 c2, .slice A3 n3 c3] 39)).alloc (.cells #[.int .i64 sh, .int .i64 0, .slice (some ⟨w.heap.size + 1 + 1, 0, none⟩) n2 n2, .slice none 0 0] 58)).alloc (.cells (madeCells zRow (n2 * 3)) 138)) := by
    refine ⟨?_, ⟨Z0.out.rd' (made_rows n2), ?_, ?_, .inl rfl⟩, b0.out⟩
    · simp [bkA, beginF]
    · simp [beginF, rc0]
    · intro i hi
      have e : gC (List.replicate n2 rc0) i = rc0 := by
        rw [List.length_replicate] at hi
        simp [gC, hi]
      rw [e]
      exact .inl rfl
  exact bodyPost_ret (v := .agg #[.int .i64 sh, .int .i64 0, .slice (some ⟨w.heap.size + 1 + 1, 0, none⟩) n2 n2, .slice none 0 0]) (by simp [results, Try.results19, go_sem, k0, k1, k2, k3]) rfl hfin
theorem Fb_begin (base n : Nat) (w : World) (h : base ≤ w.heap.size) : Fb base (some ⟨w.heap.size + 1 + 1, 0, none⟩) none (List.replicate n rc0) := by
  refine ⟨fun a e => ?_, fun a e => (by cases e), fun i hi a e => ?_⟩
  · injection e with e
    rw [← e]
    show base ≤ w.heap.size + 1 + 1
    omega
  · have e2 : gC (List.replicate n rc0) i = rc0 := by
      rw [List.length_replicate] at hi
      simp [gC, hi]
    rw [e2] at e
    cases e
end Go.Proofs.Ytkmkaidhpbjbnaa.Mdf

/- The contract of model.Begin. Condition: the Config lies in memory, its numbers are of 64 bits. -/
namespace Go.Proofs.Ytkmkaidhpbjbnaa.Mdg
set_option maxRecDepth 100000
open Go.ChangeShapes Go.WideShapes Go.ChangeAt Go.RowKit Mem Tre Ref3 Law3 Fix3 Cfg Crd CrdB CrdC Rr4 Cfr Bkp Bks Bkf Bcl Dlk Stk Apt Bko Bku Bka Bkc Bkq Bkj Mdc Mdp Mdz Mds Mdb Mdf Lat
open Rul1 hiding below_step
open Mdo hiding gB
set_option linter.unusedVariables false
set_option linter.unusedSimpArgs false
theorem infoBk : (Try.prog.info? 58).map (fun i => (i.zero, i.size, i.bytes)) = some (some (.agg #[.int .i64 0, .int .i64 0, .slice none 0 0, .slice none 0 0]), 4, 64) := by kernel_rfl
theorem q7_of {W : World} {g : Nat} {te : TypeId} {v0 v1 v2 v3 v4 v5 v6 : Value} (hk : Blk W g te #[v0, v1, v2, v3, v4, v5, v6]) : W.cell? ⟨g, 0, none⟩ = some v0 ∧ W.cell? ⟨g, 1, none⟩ = some v1 ∧ W.cell? ⟨g, 2, none⟩ = some v2 ∧ W.cell? ⟨g, 3, none⟩ = some v3 ∧ W.cell? ⟨g, 4, none⟩ = some v4 ∧ W.cell? ⟨g, 5, none⟩ = some v5 ∧ W.cell? ⟨g, 6, none⟩ = some v6 := ⟨hk.cell 0, hk.cell 1, hk.cell 2, hk.cell 3, hk.cell 4, hk.cell 5, hk.cell 6⟩
/-- a Model to which nothing came -/
def bgnP (sh wi ra ta : Int) (nd : List (Int × Int)) (ac : List Int) (sy : List (Int × Int × Int × Nat)) : Pm :=
  ⟨sh, wi, ra, ta, nd, ac, sy, (List.range sh.toNat).map (fun k : Nat => beginF ac.length (k : Int)), nd, zeros nd.length, 0, false⟩
def MadeMd (sh wi ra ta : Int) (nd : List (Int × Int)) (ac : List Int) (sy : List (Int × Int × Int × Nat)) (w : World) (e : Ending) (w' : World) : Prop :=
  Below w.heap.size w w' ∧ (cfgF sh wi ra ta nd ac sy ≠ 0 → e = .returned (.tuple #[.pointer none, .int .i64 (cfgF sh wi ra ta nd ac sy)])) ∧
  (cfgF sh wi ra ta nd ac sy = 0 → ∃ g q, e = .returned (.tuple #[.pointer (some ⟨g, 0, none⟩), .int .i64 0]) ∧ Mm w.heap.size w' g q ∧ plO q = bgnP sh wi ra ta nd ac sy)
theorem Mm_new {base : Nat} {w : World} {sh wi ra ta : Int} {A1 B1 C1 An Au : Option Addr} {nl al sl c1 d1 f1 n1 n2 dn du : Nat} {nd cl : List (Int × Int)} {ac cu : List Int} {sy : List (Int × Int × Int × Nat)} (hn : Nds w w.heap.size A1 nd) (ha : Ris w w.heap.size B1 ac) (hs : Smb w w.heap.size C1 sy) (hcn : Nds w w.heap.size An cl) (hcu : Ris w w.heap.size Au cu)
    (l1 : nl = nd.length) (l2 : al = ac.length) (l3 : sl = sy.length) (l5 : n1 = cl.length) (l6 : n2 = cu.length) (hb : base ≤ w.heap.size) :
    Mm base (w.alloc (.cells #[.int .i64 sh, .int .i64 wi, .int .i64 ra, .int .i64 ta, .slice A1 nl c1, .slice B1 al d1, .slice C1 sl f1, .slice none 0 0, .slice An n1 dn, .slice Au n2 du, .int .i64 0, .bool false] 82)) w.heap.size ⟨sh, wi, ra, ta, A1, B1, C1, nl, al, sl, c1, d1, f1, nd, ac, sy, none, 0, 0, [], An, Au, n1, n2, dn, du, cl, cu, 0, false⟩ := by
  have U : Below w.heap.size w (w.alloc (.cells #[.int .i64 sh, .int .i64 wi, .int .i64 ra, .int .i64 ta, .slice A1 nl c1, .slice B1 al d1, .slice C1 sl f1, .slice none 0 0, .slice An n1 dn, .slice Au n2 du, .int .i64 0, .bool false] 82)) := (Below.refl _ _).alloc (Nat.le_refl _) _
  have f : ∀ {X : Option Addr} {ys : List Value}, Rd w w.heap.size X ys → Far w.heap.size none X ys := fun h => Far_of h (.inl (Nat.le_refl _)) (fun b hb => by cases hb)
  exact ⟨Blk.fresh _ _ _, World.ownsRow_nil _ _ _ _, hb, l1, l2, l3, rfl, l5, l6, Rd.below' hn U U.size, Rd.below' ha U U.size, Rd.below' hs U U.size, Rd.below' hcn U U.size, Rd.below' hcu U U.size, fun i hi => absurd hi (Nat.not_lt_zero _), f hn, f ha, f hs, f hcn, f hcu, fun i hi => absurd hi (Nat.not_lt_zero _)⟩
theorem cfg_ok {sh wi ra ta : Int} {nd : List (Int × Int)} {ac : List Int} {sy : List (Int × Int × Int × Nat)} (h : cfgF sh wi ra ta nd ac sy = 0) :
    sizB sh wi ra ta = true ∧ (chk nd).1 = 0 ∧ 1 ≤ ac.length ∧ ac.length ≤ 32 ∧ accB nd.length ac = true ∧ 1 ≤ sy.length ∧ sy.length ≤ 16 ∧ tabB sy = true := by
  cases h1 : sizB sh wi ra ta with
  | false => rw [cfgF_1 h1] at h; cases h
  | true =>
    by_cases h2 : (chk nd).1 = 0
    · by_cases h3 : ac.length = 0 ∨ 32 < ac.length
      · rw [cfgF_3 h1 h2 h3] at h; cases h
      · cases h4 : accB nd.length ac with
        | false => rw [cfgF_4 h1 h2 h3 h4] at h; cases h
        | true =>
          by_cases h5 : sy.length = 0 ∨ 16 < sy.length
          · rw [cfgF_5 h1 h2 h3 h4 h5] at h; cases h
          · cases h6 : tabB sy with
            | false => rw [cfgF_6 h1 h2 h3 h4 h5 h6] at h; cases h
            | true => exact ⟨rfl, h2, by omega, by omega, rfl, by omega, by omega, rfl⟩
    · rw [cfgF_2 h1 h2] at h; exact absurd h h2
theorem siz_ok {sh wi ra ta : Int} (h : sizB sh wi ra ta = true) : 1 ≤ sh ∧ sh ≤ 4 ∧ 0 ≤ wi ∧ wi ≤ 16 ∧ 1 ≤ ra ∧ ra ≤ 1000 ∧ 1 ≤ ta ∧ ta ≤ 64 := by
  unfold sizB btwB at h
  simp only [Bool.and_eq_true, decide_eq_true_eq] at h
  omega
set_option maxHeartbeats 8000000 in
theorem mbegin_any (sh wi ra ta : Int) (A B C : Option Addr) (nl al sl c d f : Nat) (nd : List (Int × Int)) (ac : List Int) (sy : List (Int × Int × Int × Nat)) (w : World) (L1 : Hid (nl = nd.length)) (L2 : Hid (al = ac.length)) (L3 : Hid (sl = sy.length))
    (hn : Hid (Nds w w.heap.size A nd)) (ha : Hid (Ris w w.heap.size B ac)) (hs : Hid (Smb w w.heap.size C sy)) (hw : Hid (WfN nd)) (m1 : nl ≤ 100000) (m2 : al ≤ 100000) (m3 : sl ≤ 100000) :
    Calls Try.prog 6 #[.agg #[.int .i64 sh, .int .i64 wi, .int .i64 ra, .int .i64 ta, .slice A nl c, .slice B al d, .slice C sl f]] w (MadeMd sh wi ra ta nd ac sy w) := by
  have U0 : Hid (Below w.heap.size w (w.alloc (.cells #[.int .i64 sh, .int .i64 wi, .int .i64 ra, .int .i64 ta, .slice A nl c, .slice B al d, .slice C sl f] 39))) := (Below.refl _ _).alloc (Nat.le_refl _) _
  have C0 : Hid (Blk (w.alloc (.cells #[.int .i64 sh, .int .i64 wi, .int .i64 ra, .int .i64 ta, .slice A nl c, .slice B al d, .slice C sl f] 39)) w.heap.size 39 #[.int .i64 sh, .int .i64 wi, .int .i64 ra, .int .i64 ta, .slice A nl c, .slice B al d, .slice C sl f]) := Blk.fresh _ _ _
  have N0 : Hid (Nds (w.alloc (.cells #[.int .i64 sh, .int .i64 wi, .int .i64 ra, .int .i64 ta, .slice A nl c, .slice B al d, .slice C sl f] 39)) (w.alloc (.cells #[.int .i64 sh, .int .i64 wi, .int .i64 ra, .int .i64 ta, .slice A nl c, .slice B al d, .slice C sl f] 39)).heap.size A nd) := Rd.below' hn.out U0.out U0.out.size
  have R0 : Hid (Ris (w.alloc (.cells #[.int .i64 sh, .int .i64 wi, .int .i64 ra, .int .i64 ta, .slice A nl c, .slice B al d, .slice C sl f] 39)) (w.alloc (.cells #[.int .i64 sh, .int .i64 wi, .int .i64 ra, .int .i64 ta, .slice A nl c, .slice B al d, .slice C sl f] 39)).heap.size B ac) := Rd.below' ha.out U0.out U0.out.size
  have S0 : Hid (Smb (w.alloc (.cells #[.int .i64 sh, .int .i64 wi, .int .i64 ra, .int .i64 ta, .slice A nl c, .slice B al d, .slice C sl f] 39)) (w.alloc (.cells #[.int .i64 sh, .int .i64 wi, .int .i64 ra, .int .i64 ta, .slice A nl c, .slice B al d, .slice C sl f] 39)).heap.size C sy) := Rd.below' hs.out U0.out U0.out.size
  go_enter Try.func6, Try.ntmps6
  go_upto_region 1 with fail
  obtain ⟨gC, hgC⟩ : ∃ k, k = w.heap.size := ⟨_, rfl⟩
  have C1' : Hid (Blk (w.alloc (.cells #[.int .i64 sh, .int .i64 wi, .int .i64 ra, .int .i64 ta, .slice A nl c, .slice B al d, .slice C sl f] 39)) gC 39 #[.int .i64 sh, .int .i64 wi, .int .i64 ra, .int .i64 ta, .slice A nl c, .slice B al d, .slice C sl f]) := by rw [hgC]; exact C0.out
  have HGC : Hid (w.heap.size ≤ gC) := by show _ ≤ _; omega
  simp only [← hgC]
  clear hgC C0
  generalize (w.alloc (.cells #[.int .i64 sh, .int .i64 wi, .int .i64 ra, .int .i64 ta, .slice A nl c, .slice B al d, .slice C sl f] 39)) = w0 at U0 C1' N0 R0 S0 ⊢
  have CK := check5_any sh wi ra ta A B C c d f nd ac sy w0 N0 R0 S0 hw (by rw [← L1.out]; omega) (by rw [← L2.out]; omega) (by rw [← L3.out]; omega)
  obtain ⟨cc, hcc⟩ : ∃ k, k = cfgF sh wi ra ta nd ac sy := ⟨_, rfl⟩
  rw [← hcc, ← L1.out, ← L2.out, ← L3.out] at CK
  have HCC := Lib.hid hcc
  clear hcc
  obtain ⟨k0, k1, k2, k3, k4, k5, k6⟩ := q7_of C1'.out
  go_wp2_with fail
  refine CK.mono ?_
  rintro e w1 ⟨rfl, hb1⟩
  have U1 := Lib.hid (CrdB.below_step U0.out hb1)
  have C2 := Lib.hid (Blk.below' C1'.out hb1)
  have N1 : Hid (Nds w1 w1.heap.size A nd) := Rd.below' N0.out hb1 hb1.size
  have R1 : Hid (Ris w1 w1.heap.size B ac) := Rd.below' R0.out hb1 hb1.size
  have S1 : Hid (Smb w1 w1.heap.size C sy) := Rd.below' S0.out hb1 hb1.size
  clear hb1 k0 k1 k2 k3 k4 k5 k6 N0 R0 S0 C1' U0 CK
  by_cases hc0 : cc = 0
  case neg =>
    have t1 : (cc != 0) = true := by simp [hc0]
    have hfin : MadeMd sh wi ra ta nd ac sy w (.returned (.tuple #[.pointer none, .int .i64 cc])) w1 := ⟨U1.out, fun _ => by rw [HCC.out], fun h => absurd (HCC.out.trans h) hc0⟩
    have HF := Lib.hid hfin
    clear hfin
    go_wp2_with fail
    exact bodyPost_ret (v := .tuple #[.pointer none, .int .i64 cc]) (by simp [results, Try.results6, go_sem]) rfl HF.out
  case pos =>
    have t1 : (cc != 0) = false := by simp [hc0]
    obtain ⟨hsz, hchk, ha1, ha2, hacc, hs1, hs2, htab⟩ := cfg_ok (HCC.out.symm.trans hc0)
    obtain ⟨z1, z2, z3, z4, z5, z6, z7, z8⟩ := siz_ok hsz
    have hal : al ≤ 1000 := by rw [L2.out]; omega
    obtain ⟨sN, hsN⟩ : ∃ k : Nat, sh = k := ⟨sh.toNat, by omega⟩
    subst hsN
    have HC0 : Hid (cfgF (sN : Int) wi ra ta nd ac sy = 0) := HCC.out.symm.trans hc0
    clear hsz hchk ha1 ha2 hacc hs1 hs2 htab hc0 HCC z3 z4 z5 z6 z7 z8
    go_upto_region 4 with fail
    have OC := fun W hn ha hs => owncfg_any (sN : Int) wi ra ta A B C nl al sl c d f nd ac sy W L1 L2 L3 hn ha hs m1 m2 m3
    have BG := fun W hn => begin_fresh A c nd W hn (by rw [← L1.out]; omega)
    unfold MadeStF at BG
    rw [show (zeros nd.length).length = nd.length from List.length_replicate] at BG
    rw [← L1.out] at BG
    go_cut [5] (fun sM wx => ∃ (gM : Nat) (A1 B1 C1 An Au : Option Addr) (c1 d1 f1 dn du : Nat), sM = .pointer (some ⟨gM, 0, none⟩) ∧ Hid (Mm w.heap.size wx gM ⟨(sN : Int), wi, ra, ta, A1, B1, C1, nl, al, sl, c1, d1, f1, nd, ac, sy, none, 0, 0, [], An, Au, nl, nl, dn, du, nd, zeros nl, 0, false⟩) ∧ Hid (Blk wx gC 39 #[.int .i64 (sN : Int), .int .i64 wi, .int .i64 ra, .int .i64 ta, .slice A nl c, .slice B al d, .slice C sl f]) ∧ Hid (Below w.heap.size w wx))
    case first =>
      have HT : Hid (w1.drew.cell? ⟨gC, 0, none⟩ = some (.int .i64 (sN : Int)) ∧ w1.drew.cell? ⟨gC, 1, none⟩ = some (.int .i64 wi) ∧ w1.drew.cell? ⟨gC, 2, none⟩ = some (.int .i64 ra) ∧ w1.drew.cell? ⟨gC, 3, none⟩ = some (.int .i64 ta) ∧ w1.drew.cell? ⟨gC, 4, none⟩ = some (.slice A nl c) ∧ w1.drew.cell? ⟨gC, 5, none⟩ = some (.slice B al d) ∧ w1.drew.cell? ⟨gC, 6, none⟩ = some (.slice C sl f)) := ⟨C2.out.cell 0, C2.out.cell 1, C2.out.cell 2, C2.out.cell 3, C2.out.cell 4, C2.out.cell 5, C2.out.cell 6⟩
      have Cd : Hid (Blk w1.drew gC 39 #[.int .i64 (sN : Int), .int .i64 wi, .int .i64 ra, .int .i64 ta, .slice A nl c, .slice B al d, .slice C sl f]) := C2.out
      have Ud : Hid (Below w.heap.size w w1.drew) := Below.drew U1.out
      have Bd : Hid (Below w1.heap.size w1 w1.drew) := Below.drew (Below.refl _ _)
      refine wp_region_noPanic ?_
      refine wp_region_L (T := (fun w' => w'.cell? ⟨gC, 0, none⟩ = some (.int .i64 (sN : Int)) ∧ w'.cell? ⟨gC, 1, none⟩ = some (.int .i64 wi) ∧ w'.cell? ⟨gC, 2, none⟩ = some (.int .i64 ra) ∧ w'.cell? ⟨gC, 3, none⟩ = some (.int .i64 ta) ∧ w'.cell? ⟨gC, 4, none⟩ = some (.slice A nl c) ∧ w'.cell? ⟨gC, 5, none⟩ = some (.slice B al d) ∧ w'.cell? ⟨gC, 6, none⟩ = some (.slice C sl f))) (st := []) (by kernel_rfl) ?_
      refine wpL_load (i := 0) (v := ?_) rfl (by kernel_rfl) (fun _ _ _ h => h) (by kernel_rfl) (by kernel_rfl) _ _ _ _ (by kernel_rfl) (by kernel_rfl) (Or.inl ⟨by rfl, ?_⟩) (by kernel_rfl) HT.out ?_
      rotate_left
      · intro w' hS
        (try dsimp only at hS)
        obtain ⟨x1, x2, x3, x4, x5, x6, x7⟩ := hS
        go_simp
        try with_reducible rfl
      (try simp only [Act.put, List.getElem_toArray, List.getElem_cons_succ, List.getElem_cons_zero, List.setIfInBounds_toArray, List.set_cons_zero, List.set_cons_succ])
      refine wpL_word (i := 2) (v := ?_) rfl (by kernel_rfl) (fun _ _ _ h => h) (by kernel_rfl) _ _ _ _ (by kernel_rfl) (by kernel_rfl) (Or.inl ⟨by rfl, ?_⟩) (fun _ => HT.out) ?_
      rotate_left
      · intro w' _
        go_simp
        try with_reducible rfl
      (try simp only [Act.put, List.getElem_toArray, List.getElem_cons_succ, List.getElem_cons_zero, List.setIfInBounds_toArray, List.set_cons_zero, List.set_cons_succ])
      refine wpL_load (i := 3) (v := ?_) rfl (by kernel_rfl) (fun _ _ _ h => h) (by kernel_rfl) (by kernel_rfl) _ _ _ _ (by kernel_rfl) (by kernel_rfl) (Or.inl ⟨by rfl, ?_⟩) (by kernel_rfl) HT.out ?_
      rotate_left
      · intro w' hS
        (try dsimp only at hS)
        obtain ⟨x1, x2, x3, x4, x5, x6, x7⟩ := hS
        go_simp
        try with_reducible rfl
      (try simp only [Act.put, List.getElem_toArray, List.getElem_cons_succ, List.getElem_cons_zero, List.setIfInBounds_toArray, List.set_cons_zero, List.set_cons_succ])
      refine wpL_next (n := 1) (by kernel_rfl) rfl (fun K' hK => ?_)
      go_simp
      refine (OC _ (Lib.hid (Rd.below' N1.out Bd.out Bd.out.size)) (Lib.hid (Rd.below' R1.out Bd.out Bd.out.size)) (Lib.hid (Rd.below' S1.out Bd.out Bd.out.size))).mono ?_
      rintro e w2 ⟨A1, B1, C1, c1, d1, f1, rfl, hn1, ha1, hs1, fa1, fb1, fc1, hbb⟩
      have Bw2 : Hid (Below w1.heap.size w1 w2) := CrdB.below_step Bd.out hbb
      have Uw2 : Hid (Below w.heap.size w w2) := CrdB.below_step Ud.out hbb
      have Cw2 := Lib.hid (Blk.below' Cd.out hbb)
      have HT2 : Hid (w2.cell? ⟨gC, 0, none⟩ = some (.int .i64 (sN : Int)) ∧ w2.cell? ⟨gC, 1, none⟩ = some (.int .i64 wi) ∧ w2.cell? ⟨gC, 2, none⟩ = some (.int .i64 ra) ∧ w2.cell? ⟨gC, 3, none⟩ = some (.int .i64 ta) ∧ w2.cell? ⟨gC, 4, none⟩ = some (.slice A nl c) ∧ w2.cell? ⟨gC, 5, none⟩ = some (.slice B al d) ∧ w2.cell? ⟨gC, 6, none⟩ = some (.slice C sl f)) := ⟨Cw2.out.cell 0, Cw2.out.cell 1, Cw2.out.cell 2, Cw2.out.cell 3, Cw2.out.cell 4, Cw2.out.cell 5, Cw2.out.cell 6⟩
      have NA := Lib.hid hn1
      have NB := Lib.hid ha1
      have NC := Lib.hid hs1
      clear hn1 ha1 hs1 fa1 fb1 fc1 hbb
      go_wp2_with fail
      refine hK.out _ _ HT2.out ?_
      clear hK K'
      (try simp only [Act.put, List.getElem_toArray, List.getElem_cons_succ, List.getElem_cons_zero, List.setIfInBounds_toArray, List.set_cons_zero, List.set_cons_succ])
      refine wpL_next (n := 4) (by kernel_rfl) rfl (fun K' hK => ?_)
      go_simp
      refine (BG _ (Lib.hid (Rd.below' N1.out Bw2.out Bw2.out.size))).mono ?_
      rintro e w3 ⟨An, dn, Au, du, rfl, hcn, hcu, hbb, fn1, fu1⟩
      have Bw3 : Hid (Below w1.heap.size w1 w3) := CrdB.below_step Bw2.out hbb
      have Uw3 : Hid (Below w.heap.size w w3) := CrdB.below_step Uw2.out hbb
      have Cw3 := Lib.hid (Blk.below' Cw2.out hbb)
      have HT3 : Hid (w3.cell? ⟨gC, 0, none⟩ = some (.int .i64 (sN : Int)) ∧ w3.cell? ⟨gC, 1, none⟩ = some (.int .i64 wi) ∧ w3.cell? ⟨gC, 2, none⟩ = some (.int .i64 ra) ∧ w3.cell? ⟨gC, 3, none⟩ = some (.int .i64 ta) ∧ w3.cell? ⟨gC, 4, none⟩ = some (.slice A nl c) ∧ w3.cell? ⟨gC, 5, none⟩ = some (.slice B al d) ∧ w3.cell? ⟨gC, 6, none⟩ = some (.slice C sl f)) := ⟨Cw3.out.cell 0, Cw3.out.cell 1, Cw3.out.cell 2, Cw3.out.cell 3, Cw3.out.cell 4, Cw3.out.cell 5, Cw3.out.cell 6⟩
      have NN := Lib.hid hcn
      have NU := Lib.hid hcu
      have hb23 : Hid (Below w2.heap.size w2 w3) := hbb
      replace NA : Hid (Nds w3 w3.heap.size A1 nd) := Rd.below' NA.out hb23.out hb23.out.size
      replace NB : Hid (Ris w3 w3.heap.size B1 ac) := Rd.below' NB.out hb23.out hb23.out.size
      replace NC : Hid (Smb w3 w3.heap.size C1 sy) := Rd.below' NC.out hb23.out hb23.out.size
      clear hcn hcu hbb fn1 fu1
      go_wp2_with fail
      refine hK.out _ _ HT3.out ?_
      clear hK K'
      (try simp only [Act.put, List.getElem_toArray, List.getElem_cons_succ, List.getElem_cons_zero, List.setIfInBounds_toArray, List.set_cons_zero, List.set_cons_succ])
      refine wpL_word (i := 5) (v := ?_) rfl (by kernel_rfl) (fun _ _ _ h => h) (by kernel_rfl) _ _ _ _ (by kernel_rfl) (by kernel_rfl) (Or.inl ⟨by rfl, ?_⟩) (fun _ => HT3.out) ?_
      rotate_left
      · intro w' _
        go_simp
        try with_reducible rfl
      (try simp only [Act.put, List.getElem_toArray, List.getElem_cons_succ, List.getElem_cons_zero, List.setIfInBounds_toArray, List.set_cons_zero, List.set_cons_succ])
      have UA : Hid (Below w3.heap.size w3 (w3.alloc (.cells #[.int .i64 (sN : Int), .int .i64 wi, .int .i64 ra, .int .i64 ta, .slice A1 nl c1, .slice B1 al d1, .slice C1 sl f1, .slice none 0 0, .slice An nl dn, .slice Au nl du, .int .i64 0, .bool false] 82))) := (Below.refl _ _).alloc (Nat.le_refl _) _
      have CA := Lib.hid (Blk.below' Cw3.out UA.out)
      have HTA : Hid ((w3.alloc (.cells #[.int .i64 (sN : Int), .int .i64 wi, .int .i64 ra, .int .i64 ta, .slice A1 nl c1, .slice B1 al d1, .slice C1 sl f1, .slice none 0 0, .slice An nl dn, .slice Au nl du, .int .i64 0, .bool false] 82)).cell? ⟨gC, 0, none⟩ = some (.int .i64 (sN : Int)) ∧ (w3.alloc (.cells #[.int .i64 (sN : Int), .int .i64 wi, .int .i64 ra, .int .i64 ta, .slice A1 nl c1, .slice B1 al d1, .slice C1 sl f1, .slice none 0 0, .slice An nl dn, .slice Au nl du, .int .i64 0, .bool false] 82)).cell? ⟨gC, 1, none⟩ = some (.int .i64 wi) ∧ (w3.alloc (.cells #[.int .i64 (sN : Int), .int .i64 wi, .int .i64 ra, .int .i64 ta, .slice A1 nl c1, .slice B1 al d1, .slice C1 sl f1, .slice none 0 0, .slice An nl dn, .slice Au nl du, .int .i64 0, .bool false] 82)).cell? ⟨gC, 2, none⟩ = some (.int .i64 ra) ∧ (w3.alloc (.cells #[.int .i64 (sN : Int), .int .i64 wi, .int .i64 ra, .int .i64 ta, .slice A1 nl c1, .slice B1 al d1, .slice C1 sl f1, .slice none 0 0, .slice An nl dn, .slice Au nl du, .int .i64 0, .bool false] 82)).cell? ⟨gC, 3, none⟩ = some (.int .i64 ta) ∧ (w3.alloc (.cells #[.int .i64 (sN : Int), .int .i64 wi, .int .i64 ra, .int .i64 ta, .slice A1 nl c1, .slice B1 al d1, .slice C1 sl f1, .slice none 0 0, .slice An nl dn, .slice Au nl du, .int .i64 0, .bool false] 82)).cell? ⟨gC, 4, none⟩ = some (.slice A nl c) ∧ (w3.alloc (.cells #[.int .i64 (sN : Int), .int .i64 wi, .int .i64 ra, .int .i64 ta, .slice A1 nl c1, .slice B1 al d1, .slice C1 sl f1, .slice none 0 0, .slice An nl dn, .slice Au nl du, .int .i64 0, .bool false] 82)).cell? ⟨gC, 5, none⟩ = some (.slice B al d) ∧ (w3.alloc (.cells #[.int .i64 (sN : Int), .int .i64 wi, .int .i64 ra, .int .i64 ta, .slice A1 nl c1, .slice B1 al d1, .slice C1 sl f1, .slice none 0 0, .slice An nl dn, .slice Au nl du, .int .i64 0, .bool false] 82)).cell? ⟨gC, 6, none⟩ = some (.slice C sl f)) := ⟨CA.out.cell 0, CA.out.cell 1, CA.out.cell 2, CA.out.cell 3, CA.out.cell 4, CA.out.cell 5, CA.out.cell 6⟩
      refine wpL_next (n := 6) (by kernel_rfl) rfl (fun K' hK => ?_)
      go_simp
      refine hK.out _ _ HTA.out ?_
      clear hK K'
      (try simp only [Act.put, List.getElem_toArray, List.getElem_cons_succ, List.getElem_cons_zero, List.setIfInBounds_toArray, List.set_cons_zero, List.set_cons_succ])
      refine wpL_word (i := 7) (v := ?_) rfl (by kernel_rfl) (fun _ _ _ h => h) (by kernel_rfl) _ _ _ _ (by kernel_rfl) (by kernel_rfl) (Or.inl ⟨by rfl, ?_⟩) (fun _ => HTA.out) ?_
      rotate_left
      · intro w' _
        go_simp
        try with_reducible rfl
      (try simp only [Act.put, List.getElem_toArray, List.getElem_cons_succ, List.getElem_cons_zero, List.setIfInBounds_toArray, List.set_cons_zero, List.set_cons_succ])
      refine wpL_done (by kernel_rfl) ?_ _
      refine NoPanic.normal ?_
      have HMN : Hid (Mm w.heap.size (w3.alloc (.cells #[.int .i64 (sN : Int), .int .i64 wi, .int .i64 ra, .int .i64 ta, .slice A1 nl c1, .slice B1 al d1, .slice C1 sl f1, .slice none 0 0, .slice An nl dn, .slice Au nl du, .int .i64 0, .bool false] 82)) w3.heap.size ⟨(sN : Int), wi, ra, ta, A1, B1, C1, nl, al, sl, c1, d1, f1, nd, ac, sy, none, 0, 0, [], An, Au, nl, nl, dn, du, nd, zeros nl, 0, false⟩) := Mm_new NA.out NB.out NC.out NN.out NU.out L1.out L2.out L3.out L1.out (by rw [L1.out]; exact List.length_replicate.symm) Uw3.out.size
      go_wp2_with fail
      go_meet
      exact ⟨w3.heap.size, A1, B1, C1, An, Au, c1, d1, f1, dn, du, rfl, HMN, CA, CrdB.below_step Uw3.out UA.out⟩
    case rest =>
      obtain ⟨gM, A1, B1, C1, An, Au, c1, d1, f1, dn, du, rfl, M2, C3, U2⟩ := hcut
      rename World => w2
      clear OC BG N1 R1 S1
      obtain ⟨i0, hi0, hz0, hz1, hz2⟩ := info_parts infoBk
      obtain ⟨k0, k1, k2, k3, k4, k5, k6⟩ := q7_of C3.out
      go_upto_region 6 with fail
      clear k0 k1 k2 k3 k4 k5 k6
      have CM : Hid (gC ≠ gM) := fun e => by
        have h1 := C3.out
        have h2 := M2.out.blk
        rw [e] at h1
        unfold Blk at h1 h2
        rw [h1] at h2
        injection h2 with h2
        injection h2 with _ h3 _
        revert h3
        decide
      go_loopg [21] sN (fun g9 s21 w' => ∃ (j : Nat) (Ab : Option Addr) (nb cb : Nat) (xs : List Bx), j + g9 = sN ∧ s21 = .int .i64 j ∧ Hid (nb = j) ∧ Hid (xs.map Bx.b = (List.range j).map (fun k : Nat => beginF al (k : Int))) ∧ Hid (Mm w.heap.size w' gM ⟨(sN : Int), wi, ra, ta, A1, B1, C1, nl, al, sl, c1, d1, f1, nd, ac, sy, Ab, nb, cb, xs, An, Au, nl, nl, dn, du, nd, zeros nl, 0, false⟩) ∧ Hid (Blk w' gC 39 #[.int .i64 (sN : Int), .int .i64 wi, .int .i64 ra, .int .i64 ta, .slice A nl c, .slice B al d, .slice C sl f]) ∧ Hid (Below w.heap.size w w'))
      case atStart => exact ⟨0, none, 0, 0, [], by omega, rfl, rfl, rfl, M2, C3, U2⟩
      case round =>
        clear M2 C3 U2
        obtain ⟨j, Ab, nb, cb, xs, hg0, rfl, HNB, HXB, Mr, Cr, Ur⟩ := hrel
        by_cases hlt : j < sN
        · obtain ⟨g8, rfl⟩ : ∃ g8, gk = g8 + 1 := ⟨gk - 1, by omega⟩
          have t0 : decide ((j : Int) < (sN : Int)) = true := by simp; omega
          have hnb9 : nb ≤ 1000 := by have := HNB.out; omega
          go_upto_region 8 with fail
          have BB := bbegin_fresh (sN : Int) wi ra ta A B C nl al sl c d f (j : Int) wr.drew hal
          unfold MadeBg at BB
          rw [show bkA (some ⟨wr.drew.heap.size + 1 + 1, 0, none⟩) none al 0 (beginF al (j : Int)) = .agg #[.int .i64 (j : Int), .int .i64 0, .slice (some ⟨wr.drew.heap.size + 1 + 1, 0, none⟩) al al, .slice none 0 0] from by simp [bkA, beginF]] at BB
          have Md : Hid (Mm w.heap.size wr.drew gM ⟨(sN : Int), wi, ra, ta, A1, B1, C1, nl, al, sl, c1, d1, f1, nd, ac, sy, Ab, nb, cb, xs, An, Au, nl, nl, dn, du, nd, zeros nl, 0, false⟩) := Mm_below Mr.out (Below.drew (Below.refl _ _))
          have Cd : Hid (Blk wr.drew gC 39 #[.int .i64 (sN : Int), .int .i64 wi, .int .i64 ra, .int .i64 ta, .slice A nl c, .slice B al d, .slice C sl f]) := Cr.out
          have HT : Hid (wr.drew.cell? ⟨gM, 7, none⟩ = some (.slice Ab nb cb) ∧ wr.drew.cell? ⟨gC, 0, none⟩ = some (.int .i64 (sN : Int)) ∧ wr.drew.cell? ⟨gC, 1, none⟩ = some (.int .i64 wi) ∧ wr.drew.cell? ⟨gC, 2, none⟩ = some (.int .i64 ra) ∧ wr.drew.cell? ⟨gC, 3, none⟩ = some (.int .i64 ta) ∧ wr.drew.cell? ⟨gC, 4, none⟩ = some (.slice A nl c) ∧ wr.drew.cell? ⟨gC, 5, none⟩ = some (.slice B al d) ∧ wr.drew.cell? ⟨gC, 6, none⟩ = some (.slice C sl f)) := ⟨Md.out.blk.cell 7, Cd.out.cell 0, Cd.out.cell 1, Cd.out.cell 2, Cd.out.cell 3, Cd.out.cell 4, Cd.out.cell 5, Cd.out.cell 6⟩
          have Ud : Hid (Below w.heap.size w wr.drew) := Below.drew Ur.out
          have LTr := Lib.hid (Mm_lt Md.out)
          refine wp_region_noPanic ?_
          refine wp_region_L (T := (fun w' => w'.cell? ⟨gM, 7, none⟩ = some (.slice Ab nb cb) ∧ w'.cell? ⟨gC, 0, none⟩ = some (.int .i64 (sN : Int)) ∧ w'.cell? ⟨gC, 1, none⟩ = some (.int .i64 wi) ∧ w'.cell? ⟨gC, 2, none⟩ = some (.int .i64 ra) ∧ w'.cell? ⟨gC, 3, none⟩ = some (.int .i64 ta) ∧ w'.cell? ⟨gC, 4, none⟩ = some (.slice A nl c) ∧ w'.cell? ⟨gC, 5, none⟩ = some (.slice B al d) ∧ w'.cell? ⟨gC, 6, none⟩ = some (.slice C sl f))) (st := [12]) (by kernel_rfl) ?_
          refine wpL_word (i := 0) (v := ?_) rfl (by kernel_rfl) (fun _ _ _ h => h) (by kernel_rfl) _ _ _ _ (by kernel_rfl) (by kernel_rfl) (Or.inl ⟨by rfl, ?_⟩) (fun _ => HT.out) ?_
          rotate_left
          · intro w' _
            go_simp
            try with_reducible rfl
          (try simp only [Act.put, List.getElem_toArray, List.getElem_cons_succ, List.getElem_cons_zero, List.setIfInBounds_toArray, List.set_cons_zero, List.set_cons_succ])
          refine wpL_word (i := 1) (v := ?_) rfl (by kernel_rfl) (fun _ _ _ h => h) (by kernel_rfl) _ _ _ _ (by kernel_rfl) (by kernel_rfl) (Or.inl ⟨by rfl, ?_⟩) (fun _ => HT.out) ?_
          rotate_left
          · intro w' _
            go_simp
            try with_reducible rfl
          (try simp only [Act.put, List.getElem_toArray, List.getElem_cons_succ, List.getElem_cons_zero, List.setIfInBounds_toArray, List.set_cons_zero, List.set_cons_succ])
          refine wpL_word (i := 2) (v := ?_) rfl (by kernel_rfl) (fun _ _ _ h => h) (by kernel_rfl) _ _ _ _ (by kernel_rfl) (by kernel_rfl) (Or.inl ⟨by rfl, ?_⟩) (fun _ => HT.out) ?_
          rotate_left
          · intro w' _
            go_simp
            try with_reducible rfl
          (try simp only [Act.put, List.getElem_toArray, List.getElem_cons_succ, List.getElem_cons_zero, List.setIfInBounds_toArray, List.set_cons_zero, List.set_cons_succ])
          refine wpL_word (i := 3) (v := ?_) rfl (by kernel_rfl) (fun _ _ _ h => h) (by kernel_rfl) _ _ _ _ (by kernel_rfl) (by kernel_rfl) (Or.inl ⟨by rfl, ?_⟩) (fun _ => HT.out) ?_
          rotate_left
          · intro w' _
            go_simp
            try with_reducible rfl
          (try simp only [Act.put, List.getElem_toArray, List.getElem_cons_succ, List.getElem_cons_zero, List.setIfInBounds_toArray, List.set_cons_zero, List.set_cons_succ])
          refine wpL_load (i := 4) (v := ?_) rfl (by kernel_rfl) (fun _ _ _ h => h) (by kernel_rfl) (by kernel_rfl) _ _ _ _ (by kernel_rfl) (by kernel_rfl) (Or.inl ⟨by rfl, ?_⟩) (by kernel_rfl) HT.out ?_
          rotate_left
          · intro w' hS
            (try dsimp only at hS)
            obtain ⟨x1, x2, x3, x4, x5, x6, x7, x8⟩ := hS
            go_simp
            try with_reducible rfl
          (try simp only [Act.put, List.getElem_toArray, List.getElem_cons_succ, List.getElem_cons_zero, List.setIfInBounds_toArray, List.set_cons_zero, List.set_cons_succ])
          refine wpL_load (i := 5) (v := ?_) rfl (by kernel_rfl) (fun _ _ _ h => h) (by kernel_rfl) (by kernel_rfl) _ _ _ _ (by kernel_rfl) (by kernel_rfl) (Or.inl ⟨by rfl, ?_⟩) (by kernel_rfl) HT.out ?_
          rotate_left
          · intro w' hS
            (try dsimp only at hS)
            obtain ⟨x1, x2, x3, x4, x5, x6, x7, x8⟩ := hS
            go_simp
            try with_reducible rfl
          (try simp only [Act.put, List.getElem_toArray, List.getElem_cons_succ, List.getElem_cons_zero, List.setIfInBounds_toArray, List.set_cons_zero, List.set_cons_succ])
          refine wpL_word (i := 6) (v := ?_) rfl (by kernel_rfl) (fun _ _ _ h => h) (by kernel_rfl) _ _ _ _ (by kernel_rfl) (by kernel_rfl) (Or.inl ⟨by rfl, ?_⟩) (fun _ => HT.out) ?_
          rotate_left
          · intro w' _
            go_simp
            try with_reducible rfl
          (try simp only [Act.put, List.getElem_toArray, List.getElem_cons_succ, List.getElem_cons_zero, List.setIfInBounds_toArray, List.set_cons_zero, List.set_cons_succ])
          refine wpL_next (n := 7) (by kernel_rfl) rfl (fun K' hK => ?_)
          go_simp
          refine BB.mono ?_
          rintro e w4 ⟨rfl, hbm, hb4⟩
          have M4 : Hid (Mm w.heap.size w4 gM ⟨(sN : Int), wi, ra, ta, A1, B1, C1, nl, al, sl, c1, d1, f1, nd, ac, sy, Ab, nb, cb, xs, An, Au, nl, nl, dn, du, nd, zeros nl, 0, false⟩) := Mm_below Md.out hb4
          have C4 := Lib.hid (Blk.below' Cd.out hb4)
          have U4 := Lib.hid (CrdB.below_step Ud.out hb4)
          have hb4s : Hid (wr.heap.size ≤ w4.heap.size) := hb4.size
          have HT2 : Hid (w4.cell? ⟨gM, 7, none⟩ = some (.slice Ab nb cb) ∧ w4.cell? ⟨gC, 0, none⟩ = some (.int .i64 (sN : Int)) ∧ w4.cell? ⟨gC, 1, none⟩ = some (.int .i64 wi) ∧ w4.cell? ⟨gC, 2, none⟩ = some (.int .i64 ra) ∧ w4.cell? ⟨gC, 3, none⟩ = some (.int .i64 ta) ∧ w4.cell? ⟨gC, 4, none⟩ = some (.slice A nl c) ∧ w4.cell? ⟨gC, 5, none⟩ = some (.slice B al d) ∧ w4.cell? ⟨gC, 6, none⟩ = some (.slice C sl f)) := ⟨M4.out.blk.cell 7, C4.out.cell 0, C4.out.cell 1, C4.out.cell 2, C4.out.cell 3, C4.out.cell 4, C4.out.cell 5, C4.out.cell 6⟩
          have BM := Lib.hid hbm
          clear hbm hb4
          go_wp2_with fail
          refine hK.out _ _ HT2.out ?_
          clear hK K'
          (try simp only [Act.put, List.getElem_toArray, List.getElem_cons_succ, List.getElem_cons_zero, List.setIfInBounds_toArray, List.set_cons_zero, List.set_cons_succ])
          have V5 : Below w4.heap.size w4 (w4.alloc (.cells #[.int .i64 (j : Int), .int .i64 0, .slice (some ⟨wr.heap.size + 1 + 1, 0, none⟩) al al, .slice none 0 0] 58)) := (Below.refl _ _).alloc (Nat.le_refl _) _
          have M5 : Hid (Mm w.heap.size (w4.alloc (.cells #[.int .i64 (j : Int), .int .i64 0, .slice (some ⟨wr.heap.size + 1 + 1, 0, none⟩) al al, .slice none 0 0] 58)) gM ⟨(sN : Int), wi, ra, ta, A1, B1, C1, nl, al, sl, c1, d1, f1, nd, ac, sy, Ab, nb, cb, xs, An, Au, nl, nl, dn, du, nd, zeros nl, 0, false⟩) := Mm_below M4.out V5
          have C5 := Lib.hid (Blk.below' C4.out V5)
          have U5 := Lib.hid (CrdB.below_step U4.out V5)
          have HT5 : Hid ((w4.alloc (.cells #[.int .i64 (j : Int), .int .i64 0, .slice (some ⟨wr.heap.size + 1 + 1, 0, none⟩) al al, .slice none 0 0] 58)).cell? ⟨gM, 7, none⟩ = some (.slice Ab nb cb) ∧ (w4.alloc (.cells #[.int .i64 (j : Int), .int .i64 0, .slice (some ⟨wr.heap.size + 1 + 1, 0, none⟩) al al, .slice none 0 0] 58)).cell? ⟨gC, 0, none⟩ = some (.int .i64 (sN : Int)) ∧ (w4.alloc (.cells #[.int .i64 (j : Int), .int .i64 0, .slice (some ⟨wr.heap.size + 1 + 1, 0, none⟩) al al, .slice none 0 0] 58)).cell? ⟨gC, 1, none⟩ = some (.int .i64 wi) ∧ (w4.alloc (.cells #[.int .i64 (j : Int), .int .i64 0, .slice (some ⟨wr.heap.size + 1 + 1, 0, none⟩) al al, .slice none 0 0] 58)).cell? ⟨gC, 2, none⟩ = some (.int .i64 ra) ∧ (w4.alloc (.cells #[.int .i64 (j : Int), .int .i64 0, .slice (some ⟨wr.heap.size + 1 + 1, 0, none⟩) al al, .slice none 0 0] 58)).cell? ⟨gC, 3, none⟩ = some (.int .i64 ta) ∧ (w4.alloc (.cells #[.int .i64 (j : Int), .int .i64 0, .slice (some ⟨wr.heap.size + 1 + 1, 0, none⟩) al al, .slice none 0 0] 58)).cell? ⟨gC, 4, none⟩ = some (.slice A nl c) ∧ (w4.alloc (.cells #[.int .i64 (j : Int), .int .i64 0, .slice (some ⟨wr.heap.size + 1 + 1, 0, none⟩) al al, .slice none 0 0] 58)).cell? ⟨gC, 5, none⟩ = some (.slice B al d) ∧ (w4.alloc (.cells #[.int .i64 (j : Int), .int .i64 0, .slice (some ⟨wr.heap.size + 1 + 1, 0, none⟩) al al, .slice none 0 0] 58)).cell? ⟨gC, 6, none⟩ = some (.slice C sl f)) := ⟨M5.out.blk.cell 7, C5.out.cell 0, C5.out.cell 1, C5.out.cell 2, C5.out.cell 3, C5.out.cell 4, C5.out.cell 5, C5.out.cell 6⟩
          have R5 : Hid (Rd (w4.alloc (.cells #[.int .i64 (j : Int), .int .i64 0, .slice (some ⟨wr.heap.size + 1 + 1, 0, none⟩) al al, .slice none 0 0] 58)) (w4.alloc (.cells #[.int .i64 (j : Int), .int .i64 0, .slice (some ⟨wr.heap.size + 1 + 1, 0, none⟩) al al, .slice none 0 0] 58)).heap.size (some ⟨w4.heap.size, 0, none⟩) [.int .i64 (j : Int), .int .i64 0, .slice (some ⟨wr.heap.size + 1 + 1, 0, none⟩) al al, .slice none 0 0]) := rd_new rfl
          have B5 : Hid (Bm (w4.alloc (.cells #[.int .i64 (j : Int), .int .i64 0, .slice (some ⟨wr.heap.size + 1 + 1, 0, none⟩) al al, .slice none 0 0] 58)) (some ⟨wr.heap.size + 1 + 1, 0, none⟩) none (List.replicate al rc0) (beginF al (j : Int))) := BM.out.below V5
          obtain ⟨n6, hn6⟩ : ∃ k, k = nb + 1 := ⟨_, rfl⟩
          have HN6 := Lib.hid hn6
          have O5 : Hid (World.ownsRow (w4.alloc (.cells #[.int .i64 (j : Int), .int .i64 0, .slice (some ⟨wr.heap.size + 1 + 1, 0, none⟩) al al, .slice none 0 0] 58)) w.heap.size 58 4 (.slice Ab nb cb) nb (bxs xs)) := M5.out.row
          have Z5 : w.heap.size ≤ (w4.alloc (.cells #[.int .i64 (j : Int), .int .i64 0, .slice (some ⟨wr.heap.size + 1 + 1, 0, none⟩) al al, .slice none 0 0] 58)).heap.size := U5.out.size
          clear hn6 V5
          refine wpL_next (n := 8) (by kernel_rfl) rfl (fun K' hK => ?_)
          go_simp
          refine hK.out _ _ HT5.out ?_
          clear hK K'
          (try simp only [Act.put, List.getElem_toArray, List.getElem_cons_succ, List.getElem_cons_zero, List.setIfInBounds_toArray, List.set_cons_zero, List.set_cons_succ])
          refine wpL_next (n := 9) (by kernel_rfl) rfl (fun K' hK => ?_)
          refine step_appA O5 R5 HN6.out rfl _ _ _ rfl i0 (.agg #[.int .i64 0, .int .i64 0, .slice none 0 0, .slice none 0 0]) 64 Try.underlying80 hi0 hz0 hz1 hz2 rfl (by decide) rfl rfl rfl (by simp [Value.oneCell']) (by unfold maxLen; omega) (by omega) Z5 ?_
          intro A6 c6 w6 hown6 hgr6 hob6
          have K6 : Hid (Blk w6 gM 82 #[.int .i64 (sN : Int), .int .i64 wi, .int .i64 ra, .int .i64 ta, .slice A1 nl c1, .slice B1 al d1, .slice C1 sl f1, .slice Ab nb cb, .slice An nl dn, .slice Au nl du, .int .i64 0, .bool false]) := blk_own_grown M5.out.blk M5.out.row (by decide) hgr6.out
          have C6 : Hid (Blk w6 gC 39 #[.int .i64 (sN : Int), .int .i64 wi, .int .i64 ra, .int .i64 ta, .slice A nl c, .slice B al d, .slice C sl f]) := blk_own_grown C5.out M5.out.row (by decide) hgr6.out
          have U6 : Hid (Below w.heap.size w w6) := grown_below U5.out M5.out.row hgr6.out (Nat.le_refl _) U5.out.size
          have HT6 : Hid (w6.cell? ⟨gM, 7, none⟩ = some (.slice Ab nb cb) ∧ w6.cell? ⟨gC, 0, none⟩ = some (.int .i64 (sN : Int)) ∧ w6.cell? ⟨gC, 1, none⟩ = some (.int .i64 wi) ∧ w6.cell? ⟨gC, 2, none⟩ = some (.int .i64 ra) ∧ w6.cell? ⟨gC, 3, none⟩ = some (.int .i64 ta) ∧ w6.cell? ⟨gC, 4, none⟩ = some (.slice A nl c) ∧ w6.cell? ⟨gC, 5, none⟩ = some (.slice B al d) ∧ w6.cell? ⟨gC, 6, none⟩ = some (.slice C sl f)) := ⟨K6.out.cell 7, C6.out.cell 0, C6.out.cell 1, C6.out.cell 2, C6.out.cell 3, C6.out.cell 4, C6.out.cell 5, C6.out.cell 6⟩
          have x7 : w6.cell? ⟨gM, 7, none⟩ = some (.slice Ab nb cb) := K6.out.cell 7
          have y7 : w6.frozen? ⟨gM, 7, none⟩ = false := K6.out.thaw 7
          refine hK.out _ _ HT6.out ?_
          clear hK K'
          (try simp only [Act.put, List.getElem_toArray, List.getElem_cons_succ, List.getElem_cons_zero, List.setIfInBounds_toArray, List.set_cons_zero, List.set_cons_succ])
          refine wpL_word (i := 10) (v := ?_) rfl (by kernel_rfl) (fun _ _ _ h => h) (by kernel_rfl) _ _ _ _ (by kernel_rfl) (by kernel_rfl) (Or.inl ⟨by rfl, ?_⟩) (fun _ => HT6.out) ?_
          rotate_left
          · intro w' _
            go_simp
            try with_reducible rfl
          (try simp only [Act.put, List.getElem_toArray, List.getElem_cons_succ, List.getElem_cons_zero, List.setIfInBounds_toArray, List.set_cons_zero, List.set_cons_succ])
          refine wpL_word (i := 11) (v := ?_) rfl (by kernel_rfl) (fun _ _ _ h => h) (by kernel_rfl) _ _ _ _ (by kernel_rfl) (by kernel_rfl) (Or.inl ⟨by rfl, ?_⟩) (fun _ => HT6.out) ?_
          rotate_left
          · intro w' _
            go_simp
            try with_reducible rfl
          (try simp only [Act.put, List.getElem_toArray, List.getElem_cons_succ, List.getElem_cons_zero, List.setIfInBounds_toArray, List.set_cons_zero, List.set_cons_succ])
          refine wpL_late (n := 12) (by kernel_rfl) rfl (by kernel_rfl) (fun K' hK => ?_)
          go_simp
          refine hK.out _ _ ?_
          clear hK K'
          (try simp only [Act.put, List.getElem_toArray, List.getElem_cons_succ, List.getElem_cons_zero, List.setIfInBounds_toArray, List.set_cons_zero, List.set_cons_succ])
          refine wpL_done (by kernel_rfl) ?_ _
          refine NoPanic.normal ?_
          have M7 : Hid (Mm w.heap.size (w6.setCell ⟨gM, 7, none⟩ (.slice A6 n6 c6)) gM ⟨(sN : Int), wi, ra, ta, A1, B1, C1, nl, al, sl, c1, d1, f1, nd, ac, sy, A6, n6, c6, (xs ++ [⟨some ⟨wr.heap.size + 1 + 1, 0, none⟩, none, al, 0, List.replicate al rc0, beginF al (j : Int)⟩]), An, Au, nl, nl, dn, du, nd, zeros nl, 0, false⟩) := Mm_push M5.out (x := ⟨some ⟨wr.heap.size + 1 + 1, 0, none⟩, none, al, 0, List.replicate al rc0, beginF al (j : Int)⟩) B5.out (FarX_new (base := wr.heap.size) LTr.out.1 LTr.out.2 (Fb_begin _ al wr (Nat.le_refl _))) HN6.out (by rw [show bxV ⟨some ⟨wr.heap.size + 1 + 1, 0, none⟩, none, al, 0, List.replicate al rc0, beginF al (j : Int)⟩ = [.int .i64 (j : Int), .int .i64 0, .slice (some ⟨wr.heap.size + 1 + 1, 0, none⟩) al al, .slice none 0 0] from by simp [bxV, beginF]]; exact hown6.out) hgr6.out hob6.out
          have C7 : Hid (Blk (w6.setCell ⟨gM, 7, none⟩ (.slice A6 n6 c6)) gC 39 #[.int .i64 (sN : Int), .int .i64 wi, .int .i64 ra, .int .i64 ta, .slice A nl c, .slice B al d, .slice C sl f]) := far_st C6.out CM.out _
          have U7 : Hid (Below w.heap.size w (w6.setCell ⟨gM, 7, none⟩ (.slice A6 n6 c6))) := U6.out.setCell (p := ⟨gM, 7, none⟩) M5.out.gb _
          have HX7 : Hid ((xs ++ [(⟨some ⟨wr.heap.size + 1 + 1, 0, none⟩, none, al, 0, List.replicate al rc0, beginF al (j : Int)⟩ : Bx)]).map Bx.b = (List.range (j + 1)).map (fun k : Nat => beginF al (k : Int))) := by
            show _ = _
            rw [List.map_append, HXB.out, List.range_succ, List.map_append]
            rfl
          have HN7 : Hid (n6 = j + 1) := by show _ = _; rw [HN6.out, HNB.out]
          clear x7 y7 HT HT2 HT5 HT6 K6 C6 U6 M5 C5 U5 O5 R5 B5 hown6 hgr6 hob6 M4 C4 U4 BM Md Cd Ud BB Z5
          generalize (w6.setCell ⟨gM, 7, none⟩ (.slice A6 n6 c6)) = w7 at M7 C7 U7 ⊢
          go_wp2_with fail
          go_roundg g8
          case measure => omega
          case rel => exact ⟨j + 1, A6, n6, c6, _, by omega, by rw [Int.natCast_add]; rfl, HN7, HX7, M7, C7, U7⟩
        · have t0 : decide ((j : Int) < (sN : Int)) = false := by simp; omega
          have hjn : j = sN := by omega
          have hfin : MadeMd (sN : Int) wi ra ta nd ac sy w (.returned (.tuple #[.pointer (some ⟨gM, 0, none⟩), .int .i64 0])) wr := by
            refine ⟨Ur.out, fun h => absurd HC0.out h, fun _ => ⟨gM, ⟨(sN : Int), wi, ra, ta, A1, B1, C1, nl, al, sl, c1, d1, f1, nd, ac, sy, Ab, nb, cb, xs, An, Au, nl, nl, dn, du, nd, zeros nl, 0, false⟩, rfl, Mr.out, ?_⟩⟩
            unfold plO bgnP
            simp only [HXB.out, hjn, Int.toNat_natCast, L1.out, L2.out]
          have HF := Lib.hid hfin
          clear hfin
          go_wp2_with fail
          exact bodyPost_ret (v := .tuple #[.pointer (some ⟨gM, 0, none⟩), .int .i64 0]) (by simp [results, Try.results6, go_sem]) rfl HF.out
end Go.Proofs.Ytkmkaidhpbjbnaa.Mdg

/- A Model, as plain functions: what may be stays so, whatever is done. No program but by the types, no condition. -/
namespace Go.Proofs.Ytkmkaidhpbjbnaa.Mdq
set_option maxRecDepth 100000
open Go.ChangeShapes Go.WideShapes Go.ChangeAt Go.RowKit Mem Tre Ref3 Law3 Fix3 Cfg Crd CrdB CrdC Cpl Res Bkp Bks Bkf Bkg Bcl Dlk Stk Apt Bko Bku Bka Bkc Bkq Bkj Bkw Wpl Mdp Mdz Mds Mdn Mdo Mdk Mdr Mdj Mdl Mdy Mdd
open Mdg hiding Mm_new
set_option linter.unusedVariables false
set_option linter.unusedSimpArgs false
/-- a Model that may be, without where it lies -/
structure Vp (m : Nat) (p : Pm) : Prop where
  n : p.nd.length ≤ 100
  a : p.ac.length ≤ 100
  a1 : 1 ≤ p.ac.length
  s : p.sy.length ≤ 100
  ws : WfS p.sy
  wa : WfI p.ac
  sh : 1 ≤ p.sh ∧ p.sh ≤ 1000
  nb : (p.bs.length : Int) = p.sh
  wi : 0 ≤ p.wi ∧ p.wi ≤ 1000
  bk : ∀ b ∈ p.bs, (Fw m b ∧ b.rows.length = p.ac.length) ∧ ∀ e ∈ b.op, EnK p.ac.length e
  cr : GoodSt p.cl p.cu
  ep : 0 ≤ p.ep ∧ p.ep ≤ m
theorem gX_mem {q : Mq} {i : Nat} (h : i < q.xs.length) : (gX q.xs i).b ∈ (plO q).bs := by
  show _ ∈ q.xs.map Bx.b
  have e : gX q.xs i = q.xs[i] := by simp [gX, h]
  rw [e]
  exact List.mem_map_of_mem (List.getElem_mem h)
theorem Vq_of {base g m : Nat} {w : World} {q : Mq} (h : Mm base w g q) (hv : Vp m (plO q)) : Vq m q ∧ Vo q := by
  have e2 : (plO q).ac.length = q.al := h.l2.symm
  refine ⟨⟨by rw [h.l1]; exact hv.n, by rw [h.l2]; exact hv.a, by rw [h.l2]; exact hv.a1, by rw [h.l3]; exact hv.s, hv.ws, hv.wa, hv.sh, ?_, hv.wi, fun i hi => ?_, hv.cr⟩, fun i hi e he => ?_⟩
  · have h1 := hv.nb
    rw [show (plO q).bs.length = q.nb from by show (q.xs.map Bx.b).length = _; rw [List.length_map]; exact h.l4.symm] at h1
    exact h1
  · have h1 := (hv.bk _ (gX_mem hi)).1
    rw [e2] at h1
    exact h1
  · have h1 := (hv.bk _ (gX_mem hi)).2 e he
    rw [e2] at h1
    exact h1
theorem gB_mem {l : List Bk} {i : Nat} (h : i < l.length) : gB l i ∈ l := by
  unfold gB
  rw [List.getD, List.getElem?_eq_getElem h]
  exact List.getElem_mem h
theorem Vp.mono {m m' : Nat} {p : Pm} (h : Vp m p) (hm : m ≤ m') : Vp m' p :=
  ⟨h.n, h.a, h.a1, h.s, h.ws, h.wa, h.sh, h.nb, h.wi, fun b hb => ⟨⟨(h.bk b hb).1.1.mono hm, (h.bk b hb).1.2⟩, (h.bk b hb).2⟩, h.cr, by have := h.ep; omega⟩
/-- another book -/
theorem Vp_set {m : Nat} {p : Pm} (h : Vp m p) (i : Nat) (b : Bk) (hb : (Fw m b ∧ b.rows.length = p.ac.length) ∧ ∀ e ∈ b.op, EnK p.ac.length e) : Vp m { p with bs := p.bs.set i b } :=
  ⟨h.n, h.a, h.a1, h.s, h.ws, h.wa, h.sh, by show ((p.bs.set i b).length : Int) = _; rw [List.length_set]; exact h.nb, h.wi, fun c hc => by
    rcases List.mem_or_eq_of_mem_set hc with h1 | h1
    · exact h.bk c h1
    · rw [h1]; exact hb, h.cr, h.ep⟩
theorem Vp_cu {m : Nat} {p : Pm} (h : Vp m p) (u : List Int) (hu : GoodSt p.cl u) : Vp m { p with cu := u } :=
  ⟨h.n, h.a, h.a1, h.s, h.ws, h.wa, h.sh, h.nb, h.wi, h.bk, hu, h.ep⟩
theorem Vp_cl {m : Nat} {p : Pm} (h : Vp m p) (l : List (Int × Int)) (hl : GoodSt l p.cu) : Vp m { p with cl := l } :=
  ⟨h.n, h.a, h.a1, h.s, h.ws, h.wa, h.sh, h.nb, h.wi, h.bk, hl, h.ep⟩
theorem g_res {l : List (Int × Int)} {u : List Int} (h : GoodSt l u) (n x : Int) : GoodSt l (resU l u n x) :=
  have := uok_res h.okt h.len h.uok n x
  ⟨h.okt, h.one, h.few, this.2.trans h.len, this.1⟩
theorem EnK_le {al : Nat} {e : En} (h : EnK al e) {x : Int} (h1 : 1 ≤ x) (h2 : x ≤ e.lf) : EnK al (setL e x) := by
  obtain ⟨a1, a2, a3, a4, a5⟩ := h
  have b1 : e.o.p * x ≤ e.o.p * e.lf := Int.mul_le_mul_of_nonneg_left h2 (by omega)
  exact ⟨a1, a2, a3, h1, Int.le_trans b1 a5⟩
theorem rows_fill (b : Bk) (k y : Int) : (fillF b k y).1.rows = b.rows := by
  unfold fillF
  split
  · rfl
  · split
    · split
      · rfl
      · split <;> rfl
    · rfl
theorem rows_ack (b : Bk) (k : Int) : (ackF b k).1.rows = b.rows := by
  unfold ackF
  split
  · split <;> rfl
  · rfl
theorem rows_cancel (b : Bk) (k : Int) : (cancelF b k).1.rows = b.rows := by
  unfold cancelF
  split
  · split <;> rfl
  · rfl
theorem en_fill {al : Nat} {b : Bk} (h : ∀ e ∈ b.op, EnK al e) (k y : Int) : ∀ e ∈ (fillF b k y).1.op, EnK al e := by
  unfold fillF
  split
  · exact h
  · rename_i hy
    split
    · rename_i hp
      split
      · exact h
      · rename_i hl
        split
        · exact fun e he => h e (delE_mem he)
        · rename_i h0
          intro e he
          rcases List.mem_or_eq_of_mem_set he with h1 | h1
          · exact h e h1
          · rw [h1]
            have h2 := h _ (gE_mem hp)
            exact EnK_le h2 (by omega) (by omega)
    · exact h
theorem en_ack {al : Nat} {b : Bk} (h : ∀ e ∈ b.op, EnK al e) (k : Int) : ∀ e ∈ (ackF b k).1.op, EnK al e := by
  unfold ackF
  split
  · split
    · exact h
    · exact fun e he => h e (delE_mem he)
  · exact h
theorem en_cancel {al : Nat} {b : Bk} (h : ∀ e ∈ b.op, EnK al e) (k : Int) : ∀ e ∈ (cancelF b k).1.op, EnK al e := by
  unfold cancelF
  split
  · rename_i hp
    split
    · exact h
    · intro e he
      rcases List.mem_or_eq_of_mem_set he with h1 | h1
      · exact h e h1
      · rw [h1]
        exact (h _ (gE_mem hp) : EnK al (gE b.op (posE b.op k)))
  · exact h
theorem sweep_e (ep : Int) (e : En) : (swE ep e).o = e.o ∧ (swE ep e).lf = e.lf := by
  unfold swE
  split <;> exact ⟨rfl, rfl⟩
theorem en_sweep {al : Nat} {b : Bk} (h : ∀ e ∈ b.op, EnK al e) (ep : Int) : ∀ e ∈ (sweepF b ep).op, EnK al e := by
  intro e he
  obtain ⟨e0, he0, rfl⟩ := List.mem_map.1 (show e ∈ b.op.map (swE ep) from he)
  obtain ⟨h1, h2⟩ := sweep_e ep e0
  have h3 := h e0 he0
  unfold EnK at h3 ⊢
  rw [h1, h2]
  exact h3
theorem Fw_swp {m : Nat} {b : Bk} (h : Fw m b) (ep : Int) : Fw m (sweepF b ep) := by
  refine Fw_op h _ (by rw [List.length_map]; exact h.ol) (fun e he => ?_)
  obtain ⟨e0, he0, rfl⟩ := List.mem_map.1 he
  obtain ⟨h1, h2⟩ := sweep_e ep e0
  have h3 := h.en e0 he0
  unfold EOk at h3 ⊢
  rw [h1, h2]
  exact h3
theorem shN_lt {m : Nat} {p : Pm} (h : Vp m p) {i : Int} (hi : 0 ≤ i) : shN p i < p.bs.length := by
  have h1 := h.nb
  have h2 := h.sh
  obtain ⟨k, hk, hk2⟩ := tmod_at i p.bs.length hi (by omega)
  rw [shN_of rfl hk]
  exact hk2
theorem lok_ok2 {ac : List Int} {sy : List (Int × Int × Int × Nat)} {a s p q n t : Int} (h : ¬ (lokF ac sy a s p q n t).1 ≠ 0) : 1 ≤ p ∧ 1 ≤ q ∧ 0 ≤ a ∧ a < (ac.length : Int) ∧ p * q ≤ 9223372036854775807 ∧ 0 ≤ p * q ∧ (lokF ac sy a s p q n t).2 = p * q := by
  have h' : (lokF ac sy a s p q n t).1 = 0 := by omega
  unfold lokF at h' ⊢
  split at h'
  · simp at h'
  · rename_i c1
    rw [if_neg c1]
    split at h'
    · simp at h'
    · rename_i c2
      rw [if_neg c2]
      split at h'
      · simp at h'
      · rename_i c3
        rw [if_neg c3]
        split at h'
        · simp at h'
        · rename_i c4
          rw [if_neg c4]
          split at h'
          · simp at h'
          · rename_i c5
            rw [if_neg c5]
            split at h'
            · simp at h'
            · rename_i c6
              rw [if_neg c6]
              split at h'
              · simp at h'
              · rename_i c7
                rw [if_neg c7]
                have h5 : Fix.inB (p * q) = true := by simpa using c5
                simp only [Fix.inB, Bool.and_eq_true, decide_eq_true_eq] at h5
                have h6 : inR ac.length a = true := by simpa using c2
                obtain ⟨h7, h8⟩ := inR_of h6
                exact ⟨by omega, by omega, h7, h8, h5.2, Int.mul_nonneg (by omega) (by omega), rfl⟩
theorem Vp_off {m : Nat} {p : Pm} (h : Vp m p) (b : Bool) : Vp m { p with off := b } := ⟨h.n, h.a, h.a1, h.s, h.ws, h.wa, h.sh, h.nb, h.wi, h.bk, h.cr, h.ep⟩
theorem Vp_ep {m : Nat} {p : Pm} (h : Vp m p) (b : Bool) (x : Int) (h0 : 0 ≤ x ∧ x ≤ m) : Vp m { p with off := b, ep := x } := ⟨h.n, h.a, h.a1, h.s, h.ws, h.wa, h.sh, h.nb, h.wi, h.bk, h.cr, h0⟩
theorem Vp_ord {m : Nat} {p : Pm} (h : Vp m p) (o : Od) (ht : inI o.t) (hp : inI o.p) (hq : inI o.q) : Vp (m + 1) (ordF p o).1 := by
  have hm := h.mono (Nat.le_succ m)
  unfold ordF
  split
  · exact hm
  · split
    · exact hm
    · rename_i h1
      split
      · exact hm
      · split
        · exact hm
        · obtain ⟨g1, g2, g3, g4, g5, g6, g7⟩ := lok_ok2 (ac := p.ac) (sy := p.sy) (a := o.a) (s := o.s) (p := o.p) (q := o.q) (n := o.n) (t := o.t) h1
          have hb : ∀ s, s < p.bs.length → (Fw (m + 1) (Bks.addF p.sh p.wi (gB p.bs s) o p.ep) ∧ (Bks.addF p.sh p.wi (gB p.bs s) o p.ep).rows.length = p.ac.length) ∧ ∀ e ∈ (Bks.addF p.sh p.wi (gB p.bs s) o p.ep).op, EnK p.ac.length e := by
            intro s hs
            have h2 := h.bk _ (gB_mem hs)
            refine ⟨⟨Fw_add h2.1.1 p.sh p.wi o p.ep ht hp hq, ?_⟩, fun e he => ?_⟩
            · show (List.set _ _ _).length = _
              rw [List.length_set]; exact h2.1.2
            · have he' : e ∈ (gB p.bs s).op ++ [_] := he
              rcases List.mem_append.1 he' with h3 | h3
              · exact h2.2 e h3
              · simp only [List.mem_cons, List.not_mem_nil, or_false] at h3
                rw [h3]
                exact ⟨g3, g4, g1, g2, g5⟩
          by_cases hs : shaP p o < p.bs.length
          · have k1 := Vp_set hm (shaP p o) _ (hb _ hs)
            exact Vp_cu k1 _ (g_res h.cr _ _)
          · have e : p.bs.set (shaP p o) (Bks.addF p.sh p.wi (gB p.bs (shaP p o)) o p.ep) = p.bs := List.set_eq_of_length_le (Nat.le_of_not_lt hs)
            rw [e]
            exact Vp_cu hm _ (g_res h.cr _ _)
theorem Vp_do {m : Nat} {p : Pm} (h : Vp m p) (o : Opn) (ht : inI o.m.t) (hp : inI o.m.p) (hq : inI o.m.q) : Vp (m + 1) (doF p o).1 := by
  have hm := h.mono (Nat.le_succ m)
  have all : ∀ s, s < p.bs.length → (Fw m (gB p.bs s) ∧ (gB p.bs s).rows.length = p.ac.length) ∧ ∀ e ∈ (gB p.bs s).op, EnK p.ac.length e := fun s hs => h.bk _ (gB_mem hs)
  unfold doF
  split
  · unfold swpF
    split
    · rename_i h1
      have h2 : 0 ≤ o.sx ∧ o.sx < (p.bs.length : Int) := by simpa [hasF] using h1
      have h3 := all o.sx.toNat (by omega)
      exact (Vp_set h _ _ ⟨⟨Fw_swp h3.1.1 _, h3.1.2⟩, en_sweep h3.2 _⟩).mono (Nat.le_succ m)
    · exact hm
  · split
    · exact hm
    · rename_i hr
      have hr' : rightM o.m = true := by simpa using hr
      obtain ⟨_, _, _, hfit⟩ := rightM_of hr'
      have hi0 : 0 ≤ o.m.i := hfit.2.2.2.1.1
      have hs := shN_lt h hi0
      have h3 := all _ hs
      split
      · exact Vp_ord h _ ht hp hq
      · split
        · unfold canF
          split
          · exact hm
          · exact (Vp_set h _ _ ⟨⟨Fw_cancel h3.1.1 _, by rw [rows_cancel]; exact h3.1.2⟩, en_cancel h3.2 _⟩).mono (Nat.le_succ m)
        · split
          · unfold filF
            split
            · exact hm
            · have k1 := Vp_set h (shN p o.m.i) (fillF (gB p.bs (shN p o.m.i)) o.m.i o.m.y).1 ⟨⟨Fw_fill h3.1.1 _ _, by rw [rows_fill]; exact h3.1.2⟩, en_fill h3.2 _ _⟩
              exact (Vp_cu k1 _ ⟨h.cr.okt, h.cr.one, h.cr.few, (uok_rel h.cr.uok _ _).2.trans h.cr.len, (uok_rel h.cr.uok _ _).1⟩).mono (Nat.le_succ m)
          · split
            · unfold akF
              split
              · exact hm
              · have k1 := Vp_set h (shN p o.m.i) (ackF (gB p.bs (shN p o.m.i)) o.m.i).1 ⟨⟨Fw_ack h3.1.1 _, by rw [rows_ack]; exact h3.1.2⟩, en_ack h3.2 _⟩
                exact (Vp_cu k1 _ ⟨h.cr.okt, h.cr.one, h.cr.few, (uok_rel h.cr.uok _ _).2.trans h.cr.len, (uok_rel h.cr.uok _ _).1⟩).mono (Nat.le_succ m)
            · split
              · exact Vp_off hm true
              · split
                · show Vp (m + 1) (rearmF p).1
                  unfold rearmF
                  split
                  · exact Vp_ep hm false _ (by have := h.ep; omega)
                  · exact hm
                · unfold lmtF
                  split
                  · exact hm
                  · exact Vp_cl hm _ ⟨(okt_lim h.cr.okt _ _).1, by rw [(okt_lim h.cr.okt _ _).2]; exact h.cr.one, by rw [(okt_lim h.cr.okt _ _).2]; exact h.cr.few, by rw [(okt_lim h.cr.okt _ _).2]; exact h.cr.len, h.cr.uok⟩
theorem Vp_begin {sh wi ra ta : Int} {nd : List (Int × Int)} {ac : List Int} {sy : List (Int × Int × Int × Nat)} (hc : cfgF sh wi ra ta nd ac sy = 0) (ho : Okt nd) (h1 : 1 ≤ nd.length) (h2 : nd.length ≤ 32) (hw : WfS sy) (ha : WfI ac) : Vp 0 (bgnP sh wi ra ta nd ac sy) := by
  obtain ⟨hsz, hchk, ha1, ha2, hacc, hs1, hs2, htab⟩ := cfg_ok hc
  obtain ⟨z1, z2, z3, z4, z5, z6, z7, z8⟩ := siz_ok hsz
  refine ⟨by show nd.length ≤ 100; omega, by show ac.length ≤ 100; omega, ha1, by show sy.length ≤ 100; omega, hw, ha, ⟨z1, by show sh ≤ 1000; omega⟩, ?_, ⟨z3, by show wi ≤ 1000; omega⟩, ?_, ?_, ⟨Int.le_refl _, Int.le_refl _⟩⟩
  · show (((List.range sh.toNat).map _).length : Int) = sh
    rw [List.length_map, List.length_range]
    omega
  · intro b hb
    obtain ⟨k, hk, rfl⟩ := List.mem_map.1 (show b ∈ (List.range sh.toNat).map (fun k : Nat => beginF ac.length (k : Int)) from hb)
    have hk' := List.mem_range.1 hk
    refine ⟨⟨Fw_begin (n := ac.length) (sh := (k : Int)) (by omega) (by omega) (by omega), by show (List.replicate ac.length ro0).length = _; rw [List.length_replicate]; rfl⟩, fun e he => by cases he⟩
  · exact ⟨ho, h1, h2, List.length_replicate, fun i hi => by
      have hi' : i < nd.length := by
        have h : i < (zeros nd.length).length := hi
        rwa [show (zeros nd.length).length = nd.length from List.length_replicate] at h
      show 0 ≤ gI (zeros nd.length) i ∧ _
      simp [gI, zeros, hi', bgnP]⟩
end Go.Proofs.Ytkmkaidhpbjbnaa.Mdq

/- A Model's Do for a law: what it makes, and that nothing else turns; a nil Model. Condition: the Model lies in memory and is one that may be. -/
namespace Go.Proofs.Ytkmkaidhpbjbnaa.Mde
set_option maxRecDepth 100000
open Go.ChangeShapes Go.WideShapes Go.ChangeAt Go.RowKit Mem Tre Ref3 Law3 Fix3 Cfg Crd CrdB CrdC Bkp Bks Bkf Bcl Dlk Stk Apt Bko Bku Bka Bkc Bkq Wpl Mdp Mdz Mds Mdd Mdq
open Mdo hiding gB
set_option linter.unusedVariables false
set_option linter.unusedSimpArgs false
theorem blk_ne {w : World} {a b : Nat} {ta tb : TypeId} {ca cb : Array Value} (h : Blk w a ta ca) (k : Blk w b tb cb) (ht : ta ≠ tb) : a ≠ b := by
  intro e
  subst e
  unfold Blk at h k
  rw [h] at k
  injection k with k
  injection k with _ k2 _
  exact ht k2
/-- a block of another type stays -/
theorem blk_do {base g z : Nat} {q : Mq} {w w' : World} {te : TypeId} {cs : Array Value} (h : Blk w z te cs) (M : Mm base w g q) (h1 : te ≠ 82) (h2 : te ≠ 58) (k : Kp w w' g q.Ab) : Blk w' z te cs :=
  (k.block z h.lt (blk_ne h M.blk h1) (fun b hb e => blk_own_ne h M.row h2 (by rw [hb, e]; rfl))).trans h
theorem below_kp {base g : Nat} {q : Mq} {w0 w w' : World} (hb : Below w0.heap.size w0 w) (M : Mm base w g q) (k : Kp w w' g q.Ab) (hbase : w0.heap.size ≤ base) : Below w0.heap.size w0 w' := by
  refine ⟨k.os.trans hb.os, k.tape.trans hb.tape, k.output.trans hb.output, Nat.le_trans hb.size k.size, fun i hi => ?_⟩
  have h1 := M.gb
  refine (k.block i (Nat.lt_of_lt_of_le hi hb.size) (by omega) (fun b hb' => ?_)).trans (hb.block i hi)
  have h2 := (World.ownsRow.lt M.row b.block (by rw [hb']; rfl)).1
  omega
/-- what Do makes, for a law: the answer, what goes out, the Model then; nothing else turns -/
def MadeE (base g m : Nat) (q : Mq) (P : Pm) (cd id : Int) (outs : List (Int × Int)) (w0 w : World) (e : Ending) (w' : World) : Prop :=
  ∃ q' Ao no co, e = .returned (.tuple #[.agg #[.int .i64 cd, .int .i64 id], .slice Ao no co]) ∧ no = outs.length ∧ Nds w' w'.heap.size Ao outs ∧ (∀ a, Ao = some a → w.heap.size ≤ a.block) ∧ Mm base w' g q' ∧ plO q' = P ∧ Vp (m + 1) (plO q') ∧ Below w0.heap.size w0 w' ∧ q'.Ab = q.Ab ∧ Kp w w' g q.Ab
theorem do_e (base g m : Nat) (q : Mq) (mk ma ms mp mq mn mt mi my mz mv sx ex : Int) (mx sw : Bool) (w0 w : World) (h : Hid (Mm base w g q)) (hv : Hid (Vp m (plO q))) (hm : m ≤ 900) (hb : Below w0.heap.size w0 w) (hbase : w0.heap.size ≤ base)
    (hp : inI mp) (hq : inI mq) (ht : inI mt) (hy : my ≤ 9223372036854775807) (hV : mv ≤ 9223372036854775807) (hsx : inI sx) (hex0 : -9223372036854775808 ≤ ex) (hex1 : ex ≤ 9223372036854775807)
    {P : Pm} {cd id : Int} {outs : List (Int × Int)} (hd : doF (plO q) ⟨⟨mk, ma, ms, mx, mp, mq, mn, mt, mi, my, mz, mv⟩, sw, sx, ex⟩ = (P, (cd, id, outs))) :
    Calls Try.prog 9 #[.pointer (some ⟨g, 0, none⟩), .agg #[.int .i64 mk, .int .i64 ma, .int .i64 ms, .bool mx, .int .i64 mp, .int .i64 mq, .int .i64 mn, .int .i64 mt, .int .i64 mi, .int .i64 my, .int .i64 mz, .int .i64 mv, .bool sw, .int .i64 sx, .int .i64 ex]] w (MadeE base g m q P cd id outs w0 w) := by
  have hV2 := Vq_of h.out hv.out
  have hep := hv.out.ep
  have hep2 : 0 ≤ q.ep ∧ q.ep ≤ 1000000000 := by
    have h1 : 0 ≤ q.ep ∧ q.ep ≤ (m : Int) := hep
    omega
  have hvp := Vp_do hv.out ⟨⟨mk, ma, ms, mx, mp, mq, mn, mt, mi, my, mz, mv⟩, sw, sx, ex⟩ ht hp hq
  have hd1 := do_any base g m q mk ma ms mp mq mn mt mi my mz mv sx ex mx sw w h hV2.1 hm hV2.2 hep2 hp hq hy hV hsx hex0 hex1
  rw [hd] at hd1
  rw [hd] at hvp
  refine hd1.mono ?_
  rintro e w' ⟨q', Ao, no, co, rfl, h1, h2, h3, h4, h5, h6, h7, h8⟩
  exact ⟨q', Ao, no, co, rfl, h1, h2, h3, h4, h5, by rw [h5]; exact hvp, below_kp hb h.out h7 hbase, h6, h7⟩
set_option maxHeartbeats 2000000 in
theorem do_nil (mk ma ms mp mq mn mt mi my mz mv sx ex : Int) (mx sw : Bool) (w : World) :
    Calls Try.prog 9 #[.pointer none, .agg #[.int .i64 mk, .int .i64 ma, .int .i64 ms, .bool mx, .int .i64 mp, .int .i64 mq, .int .i64 mn, .int .i64 mt, .int .i64 mi, .int .i64 my, .int .i64 mz, .int .i64 mv, .bool sw, .int .i64 sx, .int .i64 ex]] w (Mds.Told 1 w) := by
  have U0 : Hid (Below w.heap.size w ((w.alloc (.cells #[.int .i64 mk, .int .i64 ma, .int .i64 ms, .bool mx, .int .i64 mp, .int .i64 mq, .int .i64 mn, .int .i64 mt, .int .i64 mi, .int .i64 my, .int .i64 mz, .int .i64 mv, .bool sw, .int .i64 sx, .int .i64 ex] 52)).alloc (.cells #[.int .i64 0, .int .i64 0] 43))) := ((Below.refl _ _).alloc (Nat.le_refl _) _).alloc (by simp) _
  have Z0 : Hid (Blk ((w.alloc (.cells #[.int .i64 mk, .int .i64 ma, .int .i64 ms, .bool mx, .int .i64 mp, .int .i64 mq, .int .i64 mn, .int .i64 mt, .int .i64 mi, .int .i64 my, .int .i64 mz, .int .i64 mv, .bool sw, .int .i64 sx, .int .i64 ex] 52)).alloc (.cells #[.int .i64 0, .int .i64 0] 43)) (w.heap.size + 1) 43 #[.int .i64 0, .int .i64 0]) := blk_hd (by simp)
  go_enter Try.func9, Try.ntmps9
  go_upto_region 1 with fail
  obtain ⟨gZ, hgZ⟩ : ∃ k, k = w.heap.size + 1 := ⟨_, rfl⟩
  have Z1 : Hid (Blk ((w.alloc (.cells #[.int .i64 mk, .int .i64 ma, .int .i64 ms, .bool mx, .int .i64 mp, .int .i64 mq, .int .i64 mn, .int .i64 mt, .int .i64 mi, .int .i64 my, .int .i64 mz, .int .i64 mv, .bool sw, .int .i64 sx, .int .i64 ex] 52)).alloc (.cells #[.int .i64 0, .int .i64 0] 43)) gZ 43 #[.int .i64 0, .int .i64 0]) := by rw [hgZ]; exact Z0.out
  have HGZ : Hid (w.heap.size ≤ gZ) := by show _ ≤ _; omega
  simp only [← hgZ]
  clear hgZ Z0
  generalize ((w.alloc (.cells #[.int .i64 mk, .int .i64 ma, .int .i64 ms, .bool mx, .int .i64 mp, .int .i64 mq, .int .i64 mn, .int .i64 mt, .int .i64 mi, .int .i64 my, .int .i64 mz, .int .i64 mv, .bool sw, .int .i64 sx, .int .i64 ex] 52)).alloc (.cells #[.int .i64 0, .int .i64 0] 43)) = w0 at Z1 U0 ⊢
  go_wp2_with fail
  refine (refused_any 1 _).mono ?_
  rintro e w9 ⟨rfl, hb9⟩
  have Z9 := Blk.below' Z1.out hb9
  have F3 : Blk (st2 w9 gZ (.int .i64 1) (.int .i64 0)) gZ 43 #[.int .i64 1, .int .i64 0] := st2_blk Z9
  have HF : Hid (Mds.Told 1 w (.returned (.tuple #[.agg #[.int .i64 1, .int .i64 0], .slice none 0 0])) (st2 w9 gZ (.int .i64 1) (.int .i64 0))) := ⟨rfl, st2_below (CrdB.below_step U0.out hb9) HGZ.out⟩
  obtain ⟨z0, z1, z2, z3⟩ := q2b Z9
  have zx : (w9.setCell ⟨gZ, 0, none⟩ (.int .i64 1)).cell? ⟨gZ, 1, none⟩ = some (.int .i64 0) := (blk_st Z9 0 (.int .i64 1)).cell 1
  clear hb9 U0
  go_wp2_with fail
  obtain ⟨e0, e1, _, _⟩ := q2b F3
  clear F3
  unfold st2 at e0 e1 HF
  exact bodyPost_ret (v := .tuple #[.agg #[.int .i64 1, .int .i64 0], .slice none 0 0]) (by simp [results, Try.results9, go_sem, e0, e1]) rfl HF.out
end Go.Proofs.Ytkmkaidhpbjbnaa.Mde
