/- Opening arguments: a struct of seven cells by value, a slice of four numbers each; a Config by bits, an order. Over any program. No condition. -/
import Derived.Test.YtjabfbeioapiaaaOpn
import Derived.Test.YtjabfbeioapiaaaCfg
import Derived.OpenShut
import Derived.Lib.SmallJoins
import Derived.Deep.Fields
import Derived.Deep.Slices
import Derived.ChangeSame
namespace Go.Proofs.Ytjabfbeioapiaaa.Opc
set_option maxRecDepth 100000
open Go.ChangeShapes Go.WideShapes Go.RowKit Mem Opn Cfg Go.Joins Go.Deep
section
variable {H : Type} {enc : TypeId × Value → H} {P : Program} {w : World} {base : Nat} {spare : Nat → Bool} {held : Bool}
theorem open_agg7 {r : Reach} {b0 : Nat} {t : TypeId} {f0 f1 f2 f3 f4 f5 f6 : Field} {v : Value} {d : DataW H} {p : List MemPlace} (hs : P.underlying t = some (.struct #[f0, f1, f2, f3, f4, f5, f6])) (hone : oneCellFields P #[f0, f1, f2, f3, f4, f5, f6] = true) (hC : P.cellsOf t = 7)
    (hv : Value.okWide P w r b0 t v) (h : DataW.Trod enc P w base spare held t v d p) :
    ∃ (v0 v1 v2 v3 v4 v5 v6 : Value) (y0 y1 y2 y3 y4 y5 y6 : DataW H × List MemPlace) (n : Nat), v = .agg #[v0, v1, v2, v3, v4, v5, v6] ∧
      DataW.trod enc P w base spare held n f0.type [v0] = some y0 ∧ DataW.trod enc P w base spare held n f1.type [v1] = some y1 ∧ DataW.trod enc P w base spare held n f2.type [v2] = some y2 ∧ DataW.trod enc P w base spare held n f3.type [v3] = some y3 ∧ DataW.trod enc P w base spare held n f4.type [v4] = some y4 ∧ DataW.trod enc P w base spare held n f5.type [v5] = some y5 ∧ DataW.trod enc P w base spare held n f6.type [v6] = some y6 := by
  obtain ⟨cs, rfl, hsz⟩ := okWide_struct hs hv
  obtain ⟨l⟩ := cs
  match l, hsz.trans hC with
  | [c0, c1, c2, c3, c4, c5, c6], _ =>
    obtain ⟨fuel, hf⟩ := h
    obtain ⟨xs, n, _, hx, _, hlen, hg⟩ := DataW.trod_struct hs hf
    obtain ⟨o0, k0⟩ := hone_of hone 0 f0 rfl
    obtain ⟨o1, k1⟩ := hone_of hone 1 f1 rfl
    obtain ⟨o2, k2⟩ := hone_of hone 2 f2 rfl
    obtain ⟨o3, k3⟩ := hone_of hone 3 f3 rfl
    obtain ⟨o4, k4⟩ := hone_of hone 4 f4 rfl
    obtain ⟨o5, k5⟩ := hone_of hone 5 f5 rfl
    obtain ⟨o6, k6⟩ := hone_of hone 6 f6 rfl
    match xs, hlen with
    | [y0, y1, y2, y3, y4, y5, y6], _ =>
      exact ⟨c0, c1, c2, c3, c4, c5, c6, y0, y1, y2, y3, y4, y5, y6, n, rfl, by simpa [Value.cells, o0, k0] using hg 0 f0 rfl, by simpa [Value.cells, o1, k1] using hg 1 f1 rfl, by simpa [Value.cells, o2, k2] using hg 2 f2 rfl, by simpa [Value.cells, o3, k3] using hg 3 f3 rfl, by simpa [Value.cells, o4, k4] using hg 4 f4 rfl, by simpa [Value.cells, o5, k5] using hg 5 f5 rfl, by simpa [Value.cells, o6, k6] using hg 6 f6 rfl⟩
end
section
variable {H : Type} {enc : TypeId × Value → H} {P : Program} {w : World}
theorem u64_bd {a : Int} (h : (Lit.int .u64 a).wf = true) : 0 ≤ a ∧ a < 18446744073709551616 := by
  simp [Lit.wf] at h
  have e : IntKind.u64.max = 18446744073709551615 := rfl
  have e0 : IntKind.u64.min = 0 := rfl
  have h2 : a ≤ IntKind.u64.max := by first | exact h.2 | exact h
  have h1 : IntKind.u64.min ≤ a := by first | exact h.1 | exact h
  omega
theorem open_fours {t e : TypeId} {f0 f1 f2 f3 : Field} {v : Value} {fuel : Nat} {x : DataW H × List MemPlace} {base : Nat} {held : Bool}
    (ht : P.underlying t = some (.slice e)) (he : P.underlying e = some (.struct #[f0, f1, f2, f3])) (ce : P.cellsOf e = 4) (o0 : f0.offset = 0) (o1 : f1.offset = 1) (o2 : f2.offset = 2) (o3 : f3.offset = 3)
    (c0 : P.cellsOf f0.type = 1) (c1 : P.cellsOf f1.type = 1) (c2 : P.cellsOf f2.type = 1) (c3 : P.cellsOf f3.type = 1) (u0 : P.underlying f0.type = some (.int .i64)) (u1 : P.underlying f1.type = some (.int .i64)) (u2 : P.underlying f2.type = some (.int .i64)) (u3 : P.underlying f3.type = some (.int .u64))
    (hf : DataW.trod enc P w base (fun _ => true) held fuel t [v] = some x) :
    ∃ A c l, v = .slice A l.length c ∧ l.length ≤ c ∧ c ≤ maxLen ∧ Btb w w.heap.size A l ∧ WfS l := by
  rcases Go.Deep.open_slice ht hf with ⟨hc, _⟩ | ⟨a, len, cap, m, n, D, Pl, hc, hb, hl, hm, hmm, _, hx⟩
  · injection hc with hc
    exact ⟨none, 0, [], hc, by simp, by unfold maxLen; omega, .inl rfl, fun i hi => by simp at hi⟩
  · injection hc with hc
    subst hc
    have hm2 : m = cap := by rw [hmm]; simp
    subst hm2
    have key : ∀ i, i < m → ∃ q : Int × Int × Int × Nat, w.cell? (a.add (i * 4)) = some (.int .i64 q.1) ∧ w.cell? (a.add (i * 4 + 1)) = some (.int .i64 q.2.1) ∧ w.cell? (a.add (i * 4 + 2)) = some (.int .i64 q.2.2.1) ∧ w.cell? (a.add (i * 4 + 3)) = some (.int .u64 (q.2.2.2 : Int)) ∧ inI q.1 ∧ inI q.2.1 ∧ inI q.2.2.1 ∧ q.2.2.2 < 18446744073709551616 := by
      intro i hi
      obtain ⟨cs', h1, h2⟩ := hx i hi
      rw [ce] at h1
      obtain ⟨_, hlen, hcell⟩ := World.cells?_some h1
      obtain ⟨xs, k, hk, hxy, _, hxl, hfs⟩ := DataW.trod_struct he h2
      match xs, hxl, cs', hlen with
      | [y0, y1, y2, y3], _, [v0, v1, v2, v3], _ =>
        have g0 := hfs 0 f0 rfl
        have g1 := hfs 1 f1 rfl
        have g2 := hfs 2 f2 rfl
        have g3 := hfs 3 f3 rfl
        simp [o0, o1, o2, o3, c0, c1, c2, c3] at g0 g1 g2 g3
        have e0 := hcell 0 (by omega)
        have e1 := hcell 1 (by omega)
        have e2 := hcell 2 (by omega)
        have e3 := hcell 3 (by omega)
        rw [Go.Deep.add_add] at e0 e1 e2 e3
        obtain ⟨x, hx, _, wx⟩ := DataW.trod_int u0 g0
        obtain ⟨y, hy, _, wy⟩ := DataW.trod_int u1 g1
        obtain ⟨z, hz, _, wz⟩ := DataW.trod_int u2 g2
        obtain ⟨u, hu, _, wu⟩ := DataW.trod_int u3 g3
        simp at hx hy hz hu
        subst hx hy hz hu
        obtain ⟨z0, z1⟩ := u64_bd wu
        have eu : ((u.toNat : Nat) : Int) = u := by omega
        exact ⟨(x, y, z, u.toNat), by simpa using e0, by simpa using e1, by simpa using e2, by rw [eu]; simpa using e3, wf_in wx, wf_in wy, wf_in wz, by show u.toNat < _; omega⟩
    obtain ⟨fx, hfx⟩ := Go.Deep.choose_lt key
    have hlen : ((List.range len).map fx).length = len := by simp
    have tk : ∀ i, i < len → sP ((List.range len).map fx) i = (fx i).1 ∧ sQ ((List.range len).map fx) i = (fx i).2.1 ∧ sW ((List.range len).map fx) i = (fx i).2.2.1 ∧ sB ((List.range len).map fx) i = (fx i).2.2.2 := fun i hi => by simp [sP, sQ, sW, sB, hi]
    refine ⟨some a, m, (List.range len).map fx, by rw [hlen], by rw [hlen]; exact hl, hm, ?_, ?_⟩
    · by_cases h0 : len = 0
      · subst h0; exact .inl (by simp [btbs])
      · obtain ⟨ab, ao, asp⟩ := a
        have hs : asp = none := by
          have := (hfx 0 (by omega)).1
          rw [Nat.zero_mul] at this
          exact spot_none this
        subst hs
        refine .inr ⟨ab, ao, rfl, ?_, ?_⟩
        · have := blk_lt (hfx 0 (by omega)).1
          simpa [Addr.add] using this
        · intro i v hv
          have hil : i < len * 4 := by
            have := (List.getElem?_eq_some_iff.1 hv).1
            rwa [btbs_len, hlen] at this
          have hg := btbs_get ((List.range len).map fx) (i / 4) (by rw [hlen]; omega)
          obtain ⟨q0, q1, q2, q3, _⟩ := hfx (i / 4) (by omega)
          obtain ⟨r0, r1, r2, r3⟩ := tk (i / 4) (by omega)
          rw [r0, r1, r2, r3] at hg
          rw [add_lit'] at q0 q1 q2 q3
          rcases (by omega : i % 4 = 0 ∨ i % 4 = 1 ∨ i % 4 = 2 ∨ i % 4 = 3) with k | k | k | k
          · have e : i / 4 * 4 = i := by omega
            rw [e] at hg q0
            rw [hg.1] at hv
            injection hv with hv
            rw [q0, hv]
          · have e : i / 4 * 4 + 1 = i := by omega
            rw [e] at hg q1
            rw [hg.2.1] at hv
            injection hv with hv
            rw [q1, hv]
          · have e : i / 4 * 4 + 2 = i := by omega
            rw [e] at hg q2
            rw [hg.2.2.1] at hv
            injection hv with hv
            rw [q2, hv]
          · have e : i / 4 * 4 + 3 = i := by omega
            rw [e] at hg q3
            rw [hg.2.2.2] at hv
            injection hv with hv
            rw [q3, hv]
    · intro i hil
      rw [hlen] at hil
      obtain ⟨_, _, _, _, s0, s1, s2, s3⟩ := hfx i (by omega)
      obtain ⟨r0, r1, r2, r3⟩ := tk i hil
      rw [r0, r1, r2, r3]
      exact ⟨s0, s1, s2, s3⟩
theorem one_int {t : TypeId} {v : Value} {n : Nat} {y : DataW H × List MemPlace} {base : Nat} {spare : Nat → Bool} {held : Bool} (hu : P.underlying t = some (.int .i64)) (h : DataW.trod enc P w base spare held n t [v] = some y) : ∃ x : Int, v = .int .i64 x ∧ inI x := by
  obtain ⟨x, hx, _, wx⟩ := DataW.trod_int hu h
  simp at hx
  exact ⟨x, hx, wf_in wx⟩
theorem one_bool {t : TypeId} {v : Value} {n : Nat} {y : DataW H × List MemPlace} {base : Nat} {spare : Nat → Bool} {held : Bool} (hu : P.underlying t = some .bool) (h : DataW.trod enc P w base spare held n t [v] = some y) : ∃ x : Bool, v = .bool x := by
  obtain ⟨x, hx, _⟩ := DataW.trod_bool hu h
  simp at hx
  exact ⟨x, hx⟩
end
/-- a Config by bits -/
theorem open_conf {H : Type} {enc : TypeId × Value → H} {w : World} {r : Reach} {b0 base : Nat} {held : Bool} {v : Value} {d : DataW H} {p : List MemPlace}
    (hv : Value.okWide Try.prog w r b0 52 v) (h : DataW.Trod enc Try.prog w base (fun _ => true) held 52 v d p) :
    ∃ (sh wi ra ta : Int) (A B C : Option Addr) (c d f : Nat) (nd : List (Int × Int)) (ac : List Int) (sy : List (Int × Int × Int × Nat)), v = .agg #[.int .i64 sh, .int .i64 wi, .int .i64 ra, .int .i64 ta, .slice A nd.length c, .slice B ac.length d, .slice C sy.length f] ∧
      inI sh ∧ inI wi ∧ inI ra ∧ inI ta ∧ nd.length ≤ c ∧ c ≤ maxLen ∧ ac.length ≤ d ∧ d ≤ maxLen ∧ sy.length ≤ f ∧ f ≤ maxLen ∧ Nds w w.heap.size A nd ∧ WfN nd ∧ Ris w w.heap.size B ac ∧ WfI ac ∧ Btb w w.heap.size C sy ∧ WfS sy := by
  obtain ⟨v0, v1, v2, v3, v4, v5, v6, y0, y1, y2, y3, y4, y5, y6, n, rfl, g0, g1, g2, g3, g4, g5, g6⟩ := open_agg7 Try.underlying52 (by kernel_rfl) (by kernel_rfl) hv h
  obtain ⟨sh, rfl, i0⟩ := one_int Try.underlying3 g0
  obtain ⟨wi, rfl, i1⟩ := one_int Try.underlying3 g1
  obtain ⟨ra, rfl, i2⟩ := one_int Try.underlying3 g2
  obtain ⟨ta, rfl, i3⟩ := one_int Try.underlying3 g3
  obtain ⟨A, c, nd, rfl, h1, h2, hn, hw⟩ := open_nodesc Try.underlying23 Try.underlying82 (by kernel_rfl) rfl rfl (by kernel_rfl) (by kernel_rfl) Try.underlying3 Try.underlying2 g4
  obtain ⟨B, d, ac, rfl, h3, h4, ha, hwa⟩ := open_i64c Try.underlying24 Try.underlying3 (by kernel_rfl) g5
  obtain ⟨C, f, sy, rfl, h5, h6, hs, hws⟩ := open_fours Try.underlying50 Try.underlying78 (by kernel_rfl) rfl rfl rfl rfl (by kernel_rfl) (by kernel_rfl) (by kernel_rfl) (by kernel_rfl) Try.underlying2 Try.underlying2 Try.underlying2 Try.underlying39 g6
  exact ⟨sh, wi, ra, ta, A, B, C, c, d, f, nd, ac, sy, rfl, i0, i1, i2, i3, h1, h2, h3, h4, h5, h6, hn, hw, ha, hwa, hs, hws⟩
/-- an order -/
theorem open_order {H : Type} {enc : TypeId × Value → H} {w : World} {r : Reach} {b0 base : Nat} {spare : Nat → Bool} {held : Bool} {v : Value} {d : DataW H} {p : List MemPlace}
    (hv : Value.okWide Try.prog w r b0 43 v) (h : DataW.Trod enc Try.prog w base spare held 43 v d p) :
    ∃ (a s : Int) (x : Bool) (p q n t : Int), v = .agg #[.int .i64 a, .int .i64 s, .bool x, .int .i64 p, .int .i64 q, .int .i64 n, .int .i64 t] ∧ inI a ∧ inI s ∧ inI p ∧ inI q ∧ inI n ∧ inI t := by
  obtain ⟨v0, v1, v2, v3, v4, v5, v6, y0, y1, y2, y3, y4, y5, y6, n, rfl, g0, g1, g2, g3, g4, g5, g6⟩ := open_agg7 Try.underlying43 (by kernel_rfl) (by kernel_rfl) hv h
  obtain ⟨x0, rfl, i0⟩ := one_int Try.underlying3 g0
  obtain ⟨x1, rfl, i1⟩ := one_int Try.underlying3 g1
  obtain ⟨x2, rfl⟩ := one_bool Try.underlying4 g2
  obtain ⟨x3, rfl, i3⟩ := one_int Try.underlying2 g3
  obtain ⟨x4, rfl, i4⟩ := one_int Try.underlying2 g4
  obtain ⟨x5, rfl, i5⟩ := one_int Try.underlying2 g5
  obtain ⟨x6, rfl, i6⟩ := one_int Try.underlying2 g6
  exact ⟨x0, x1, x2, x3, x4, x5, x6, rfl, i0, i1, i3, i4, i5, i6⟩
end Go.Proofs.Ytjabfbeioapiaaa.Opc
