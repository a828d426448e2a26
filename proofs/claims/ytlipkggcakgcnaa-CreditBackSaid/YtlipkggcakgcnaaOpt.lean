/- Opening arguments that are slices of three numbers each, or an array of two numbers: over any program. No condition. -/
import Derived.Test.YtlipkggcakgcnaaOpn
import Derived.OpenShut
import Derived.Lib.SmallJoins
namespace Go.Proofs.Ytlipkggcakgcnaa.Opt
set_option maxRecDepth 100000
open Go.ChangeShapes Go.WideShapes Go.RowKit Mem Opn Go.Joins
def tK (l : List (Int × Int × Int)) (i : Nat) : Int := (l.getD i (0, 0, 0)).1
def tN (l : List (Int × Int × Int)) (i : Nat) : Int := (l.getD i (0, 0, 0)).2.1
def tA (l : List (Int × Int × Int)) (i : Nat) : Int := (l.getD i (0, 0, 0)).2.2
def tdV (p : Int × Int × Int) : List Value := [.int .i64 p.1, .int .i64 p.2.1, .int .i64 p.2.2]
def tds (l : List (Int × Int × Int)) : List Value := l.flatMap tdV
theorem tds_len (l : List (Int × Int × Int)) : (tds l).length = l.length * 3 := by
  induction l with
  | nil => rfl
  | cons p l ih => simp [tds, tdV] at ih ⊢; omega
theorem tds_get (l : List (Int × Int × Int)) (i : Nat) (hi : i < l.length) :
    (tds l)[i * 3]? = some (.int .i64 (tK l i)) ∧ (tds l)[i * 3 + 1]? = some (.int .i64 (tN l i)) ∧ (tds l)[i * 3 + 2]? = some (.int .i64 (tA l i)) := by
  induction l generalizing i with
  | nil => simp at hi
  | cons p l ih =>
    cases i with
    | zero => simp [tds, tdV, tK, tN, tA]
    | succ i =>
      have := ih i (by simpa using hi)
      rw [show (i + 1) * 3 = i * 3 + 3 by omega, show i * 3 + 3 + 1 = (i * 3 + 1) + 3 by omega, show i * 3 + 3 + 2 = (i * 3 + 2) + 3 by omega]
      simpa [tds, tdV, tK, tN, tA] using this
def WfT (l : List (Int × Int × Int)) : Prop := ∀ i, i < l.length → inI (tK l i) ∧ inI (tN l i) ∧ inI (tA l i)
def Tds (w : World) (B : Nat) (A : Option Addr) (l : List (Int × Int × Int)) : Prop := Rd w B A (tds l)
theorem Tds.at {w : World} {B : Nat} {A : Option Addr} {l : List (Int × Int × Int)} (h : Tds w B A l) {i : Nat} (hi : i < l.length) :
    ∃ b o, A = some ⟨b, o, none⟩ ∧ b < B ∧ ∀ j, j < l.length → w.cell? ⟨b, o + j * 3, none⟩ = some (.int .i64 (tK l j)) ∧ w.cell? ⟨b, o + j * 3 + 1, none⟩ = some (.int .i64 (tN l j)) ∧ w.cell? ⟨b, o + j * 3 + 2, none⟩ = some (.int .i64 (tA l j)) := by
  obtain ⟨b, o, hA, hb, hc⟩ := Rd.at h (by intro e; have := tds_len l; rw [e] at this; simp at this; omega)
  refine ⟨b, o, hA, hb, fun j hj => ?_⟩
  obtain ⟨g0, g1, g2⟩ := tds_get l j hj
  exact ⟨hc _ _ g0, by rw [Nat.add_assoc]; exact hc _ _ g1, by rw [Nat.add_assoc]; exact hc _ _ g2⟩
section
variable {H : Type} {enc : TypeId × Value → H} {P : Program} {w : World}
theorem open_threes {t e : TypeId} {f0 f1 f2 : Field} {r : Reach} {b0 : Nat} {v : Value} {d : DataW H} {ps : List MemPlace} {base : Nat} {held : Bool}
    (ht : P.underlying t = some (.slice e)) (he : P.underlying e = some (.struct #[f0, f1, f2])) (ce : P.cellsOf e = 3) (o0 : f0.offset = 0) (o1 : f1.offset = 1) (o2 : f2.offset = 2)
    (c0 : P.cellsOf f0.type = 1) (c1 : P.cellsOf f1.type = 1) (c2 : P.cellsOf f2.type = 1) (u0 : P.underlying f0.type = some (.int .i64)) (u1 : P.underlying f1.type = some (.int .i64)) (u2 : P.underlying f2.type = some (.int .i64))
    (hval : Value.okWide P w r b0 t v) (h : DataW.Trod enc P w base (fun _ => true) held t v d ps) :
    ∃ A c l, v = .slice A l.length c ∧ l.length ≤ c ∧ c ≤ maxLen ∧ Tds w w.heap.size A l ∧ WfT l := by
  obtain ⟨A, len, cap, rfl⟩ := okWide_slice ht hval
  obtain ⟨fuel, hf⟩ := h
  rcases Go.Deep.open_slice ht hf with ⟨hc, _⟩ | ⟨a, len', cap', m, n, D, Pl, hc, hb, hl, hm, hmm, _, hx⟩
  · simp [Value.cells] at hc
    obtain ⟨rfl, rfl, rfl⟩ := hc
    exact ⟨none, 0, [], rfl, by simp, by unfold maxLen; omega, .inl rfl, fun i hi => by simp at hi⟩
  · simp [Value.cells] at hc
    obtain ⟨rfl, rfl, rfl⟩ := hc
    have hm2 : m = cap := by rw [hmm]; simp
    subst hm2
    have key : ∀ i, i < m → ∃ q : Int × Int × Int, w.cell? (a.add (i * 3)) = some (.int .i64 q.1) ∧ w.cell? (a.add (i * 3 + 1)) = some (.int .i64 q.2.1) ∧ w.cell? (a.add (i * 3 + 2)) = some (.int .i64 q.2.2) ∧ inI q.1 ∧ inI q.2.1 ∧ inI q.2.2 := by
      intro i hi
      obtain ⟨cs', h1, h2⟩ := hx i hi
      rw [ce] at h1
      obtain ⟨_, hlen, hcell⟩ := World.cells?_some h1
      obtain ⟨xs, k, hk, hxy, _, hxl, hfs⟩ := DataW.trod_struct he h2
      match xs, hxl, cs', hlen with
      | [y0, y1, y2], _, [v0, v1, v2], _ =>
        have g0 := hfs 0 f0 rfl
        have g1 := hfs 1 f1 rfl
        have g2 := hfs 2 f2 rfl
        simp [o0, o1, o2, c0, c1, c2] at g0 g1 g2
        have e0 := hcell 0 (by omega)
        have e1 := hcell 1 (by omega)
        have e2 := hcell 2 (by omega)
        rw [Go.Deep.add_add] at e0 e1 e2
        obtain ⟨x, hx, _, wx⟩ := DataW.trod_int u0 g0
        obtain ⟨y, hy, _, wy⟩ := DataW.trod_int u1 g1
        obtain ⟨z, hz, _, wz⟩ := DataW.trod_int u2 g2
        simp at hx hy hz
        subst hx hy hz
        exact ⟨(x, y, z), by simpa using e0, by simpa using e1, by simpa using e2, wf_in wx, wf_in wy, wf_in wz⟩
    obtain ⟨fx, hfx⟩ := Go.Deep.choose_lt key
    have hlen : ((List.range len).map fx).length = len := by simp
    have tk : ∀ i, i < len → tK ((List.range len).map fx) i = (fx i).1 ∧ tN ((List.range len).map fx) i = (fx i).2.1 ∧ tA ((List.range len).map fx) i = (fx i).2.2 := fun i hi => by simp [tK, tN, tA, hi]
    refine ⟨some a, m, (List.range len).map fx, by rw [hlen], by rw [hlen]; exact hl, hm, ?_, ?_⟩
    · by_cases h0 : len = 0
      · subst h0; exact .inl (by simp [tds])
      · obtain ⟨ab, ao, asp⟩ := a
        have hs : asp = none := by
          have := (hfx 0 (by omega)).1
          rw [Nat.zero_mul] at this
          exact spot_none this
        subst hs
        refine .inr ⟨ab, ao, rfl, ?_, ?_⟩
        · have := blk_lt (hfx 0 (by omega)).1
          simpa [Addr.add] using this
        · intro i v hv
          have hil : i < len * 3 := by
            have := (List.getElem?_eq_some_iff.1 hv).1
            rwa [tds_len, hlen] at this
          have hg := tds_get ((List.range len).map fx) (i / 3) (by rw [hlen]; omega)
          obtain ⟨q0, q1, q2, _⟩ := hfx (i / 3) (by omega)
          obtain ⟨r0, r1, r2⟩ := tk (i / 3) (by omega)
          rw [r0, r1, r2] at hg
          rw [add_lit'] at q0 q1 q2
          rcases (by omega : i % 3 = 0 ∨ i % 3 = 1 ∨ i % 3 = 2) with k | k | k
          · have e : i / 3 * 3 = i := by omega
            rw [e] at hg q0
            rw [hg.1] at hv
            injection hv with hv
            rw [q0, hv]
          · have e : i / 3 * 3 + 1 = i := by omega
            rw [e] at hg q1
            rw [hg.2.1] at hv
            injection hv with hv
            rw [q1, hv]
          · have e : i / 3 * 3 + 2 = i := by omega
            rw [e] at hg q2
            rw [hg.2.2] at hv
            injection hv with hv
            rw [q2, hv]
    · intro i hil
      rw [hlen] at hil
      obtain ⟨_, _, _, s0, s1, s2⟩ := hfx i (by omega)
      obtain ⟨r0, r1, r2⟩ := tk i hil
      rw [r0, r1, r2]
      exact ⟨s0, s1, s2⟩
theorem open_two {t e : TypeId} {r : Reach} {b0 : Nat} {v : Value} {d : DataW H} {ps : List MemPlace} {base : Nat} {spare : Nat → Bool} {held : Bool}
    (ht : P.underlying t = some (.array 2 e)) (hC : P.cellsOf t = 2) (hce : P.cellsOf e = 1) (hu : P.underlying e = some (.int .i64))
    (hval : Value.okWide P w r b0 t v) (h : DataW.Trod enc P w base spare held t v d ps) :
    ∃ a b : Int, v = .agg #[.int .i64 a, .int .i64 b] ∧ inI a ∧ inI b := by
  simp only [Value.okWide, ht] at hval
  obtain ⟨cs, rfl, hsz, _⟩ := hval
  obtain ⟨c0, c1, rfl⟩ := array2 (hsz.trans hC)
  obtain ⟨fuel, hf⟩ := h
  obtain ⟨xs, m, _, _, _, hxl, hi⟩ := DataW.trod_array ht hf
  match xs, hxl with
  | [y0, y1], _ =>
    have g0 := hi 0 (by omega)
    have g1 := hi 1 (by omega)
    simp [Value.cells, hce] at g0 g1
    obtain ⟨x, hx, _, wx⟩ := DataW.trod_int hu g0
    obtain ⟨y, hy, _, wy⟩ := DataW.trod_int hu g1
    simp at hx hy
    subst hx hy
    exact ⟨x, y, rfl, wf_in wx, wf_in wy⟩
end
end Go.Proofs.Ytlipkggcakgcnaa.Opt
