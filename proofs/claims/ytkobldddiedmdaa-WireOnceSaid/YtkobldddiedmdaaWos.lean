/- Opening an argument that is a slice of messages. Over the seat's program. No condition. -/
import Derived.Test.YtkobldddiedmdaaOpc
import Derived.Test.YtkobldddiedmdaaWpl
import Derived.Test.YtkobldddiedmdaaWmr
namespace Go.Proofs.Ytkobldddiedmdaa.Wos
set_option maxRecDepth 100000
open Go.ChangeShapes Go.WideShapes Go.RowKit Mem Opn Opc Wpl Wmr Go.Joins Go.Deep
set_option linter.unusedSimpArgs false
def V12 (w : World) (b o : Nat) (m : M) : Prop :=
  w.cell? ⟨b, o, none⟩ = some (.int .i64 m.k) ∧ w.cell? ⟨b, o + 1, none⟩ = some (.int .i64 m.a) ∧ w.cell? ⟨b, o + 2, none⟩ = some (.int .i64 m.s) ∧ w.cell? ⟨b, o + 3, none⟩ = some (.bool m.x) ∧ w.cell? ⟨b, o + 4, none⟩ = some (.int .i64 m.p) ∧ w.cell? ⟨b, o + 5, none⟩ = some (.int .i64 m.q) ∧ w.cell? ⟨b, o + 6, none⟩ = some (.int .i64 m.n) ∧ w.cell? ⟨b, o + 7, none⟩ = some (.int .i64 m.t) ∧ w.cell? ⟨b, o + 8, none⟩ = some (.int .i64 m.i) ∧ w.cell? ⟨b, o + 9, none⟩ = some (.int .i64 m.y) ∧ w.cell? ⟨b, o + 10, none⟩ = some (.int .i64 m.z) ∧ w.cell? ⟨b, o + 11, none⟩ = some (.int .i64 m.v)
/-- n messages, each of numbers of 64 bits -/
def Fms (w : World) (B : Nat) (A : Option Addr) (n : Nat) : Prop := ∀ i, i < n → ∃ b o m, A = some ⟨b, o, none⟩ ∧ b < B ∧ WfM m ∧ V12 w b (o + i * 12) m
theorem open_msgs {H : Type} {enc : TypeId × Value → H} {w : World} {v : Value} {fuel : Nat} {x : DataW H × List MemPlace} {base : Nat} {held : Bool}
    (hf : DataW.trod enc Try.prog w base (fun _ => true) held fuel 22 [v] = some x) :
    ∃ A n c, v = .slice A n c ∧ n ≤ c ∧ c ≤ maxLen ∧ Fms w w.heap.size A n := by
  have cM : Try.prog.cellsOf 32 = 12 := by kernel_rfl
  have cO : Try.prog.cellsOf 30 = 7 := by kernel_rfl
  have ci : Try.prog.cellsOf 3 = 1 := by kernel_rfl
  have cl : Try.prog.cellsOf 2 = 1 := by kernel_rfl
  have cb : Try.prog.cellsOf 4 = 1 := by kernel_rfl
  rcases Go.Deep.open_slice Try.underlying22 hf with ⟨hc, _⟩ | ⟨a, len, cap, m, n, D, Pl, hc, hb, hl, hm, hmm, _, hx⟩
  · injection hc with hc
    exact ⟨none, 0, 0, hc, by simp, by unfold maxLen; omega, fun i hi => by omega⟩
  · injection hc with hc
    subst hc
    have hm2 : m = cap := by rw [hmm]; simp
    subst hm2
    refine ⟨some a, len, m, rfl, hl, hm, fun i hi => ?_⟩
    obtain ⟨ab, ao, asp⟩ := a
    have hs : asp = none := by
      obtain ⟨cs', h1, _⟩ := hx 0 (by omega)
      rw [cM] at h1
      obtain ⟨_, hlen, hcell⟩ := World.cells?_some h1
      have e0 := hcell 0 (by omega)
      rw [Go.Deep.add_add] at e0
      match cs', hlen with
      | [v0, v1, v2, v3, v4, v5, v6, v7, v8, v9, v10, v11], _ => exact spot_none (by simpa using e0)
    subst hs
    obtain ⟨cs', h1, h2⟩ := hx i (by omega)
    rw [cM] at h1
    obtain ⟨_, hlen, hcell⟩ := World.cells?_some h1
    obtain ⟨xs, k, hk, hxy, _, hxl, hg⟩ := DataW.trod_struct Try.underlying32 h2
    match xs, hxl, cs', hlen with
    | [y0, y1, y2, y3, y4, y5], _, [e0, e1, e2, e3, e4, e5, e6, e7, e8, e9, e10, e11], _ =>
      have g0 := hg 0 _ rfl
      have g1 := hg 1 _ rfl
      have g2 := hg 2 _ rfl
      have g3 := hg 3 _ rfl
      have g4 := hg 4 _ rfl
      have g5 := hg 5 _ rfl
      simp [ci, cO, cl] at g0 g1 g2 g3 g4 g5
      obtain ⟨xs1, n1, _, _, _, hlen1, hg1⟩ := DataW.trod_struct Try.underlying30 g1
      match xs1, hlen1 with
      | [u0, u1, u2, u3, u4, u5, u6], _ =>
        have q0 := hg1 0 _ rfl
        have q1 := hg1 1 _ rfl
        have q2 := hg1 2 _ rfl
        have q3 := hg1 3 _ rfl
        have q4 := hg1 4 _ rfl
        have q5 := hg1 5 _ rfl
        have q6 := hg1 6 _ rfl
        simp [ci, cl, cb] at q0 q1 q2 q3 q4 q5 q6
        obtain ⟨kk, rfl, w0⟩ := one_int Try.underlying3 g0
        obtain ⟨a, rfl, w1⟩ := one_int Try.underlying3 q0
        obtain ⟨s, rfl, w2⟩ := one_int Try.underlying3 q1
        obtain ⟨xx, rfl⟩ := one_bool Try.underlying4 q2
        obtain ⟨p, rfl, w4⟩ := one_int Try.underlying2 q3
        obtain ⟨q, rfl, w5⟩ := one_int Try.underlying2 q4
        obtain ⟨nn, rfl, w6⟩ := one_int Try.underlying2 q5
        obtain ⟨t, rfl, w7⟩ := one_int Try.underlying2 q6
        obtain ⟨ii, rfl, w8⟩ := one_int Try.underlying3 g2
        obtain ⟨y, rfl, w9⟩ := one_int Try.underlying2 g3
        obtain ⟨z, rfl, w10⟩ := one_int Try.underlying3 g4
        obtain ⟨o, rfl, w11⟩ := one_int Try.underlying2 g5
        have f0 := hcell 0 (by omega)
        have f1 := hcell 1 (by omega)
        have f2 := hcell 2 (by omega)
        have f3 := hcell 3 (by omega)
        have f4 := hcell 4 (by omega)
        have f5 := hcell 5 (by omega)
        have f6 := hcell 6 (by omega)
        have f7 := hcell 7 (by omega)
        have f8 := hcell 8 (by omega)
        have f9 := hcell 9 (by omega)
        have f10 := hcell 10 (by omega)
        have f11 := hcell 11 (by omega)
        rw [Go.Deep.add_add] at f0 f1 f2 f3 f4 f5 f6 f7 f8 f9 f10 f11
        rw [add_lit'] at f0 f1 f2 f3 f4 f5 f6 f7 f8 f9 f10 f11
        refine ⟨ab, ao, ⟨kk, a, s, xx, p, q, nn, t, ii, y, z, o⟩, rfl, blk_lt (by simpa using f0), ⟨w0, w1, w2, w4, w5, w6, w7, w8, w9, w10, w11⟩, ?_⟩
        exact ⟨by simpa using f0, by simpa [Nat.add_assoc] using f1, by simpa [Nat.add_assoc] using f2, by simpa [Nat.add_assoc] using f3, by simpa [Nat.add_assoc] using f4, by simpa [Nat.add_assoc] using f5, by simpa [Nat.add_assoc] using f6, by simpa [Nat.add_assoc] using f7, by simpa [Nat.add_assoc] using f8, by simpa [Nat.add_assoc] using f9, by simpa [Nat.add_assoc] using f10, by simpa [Nat.add_assoc] using f11⟩
end Go.Proofs.Ytkobldddiedmdaa.Wos
