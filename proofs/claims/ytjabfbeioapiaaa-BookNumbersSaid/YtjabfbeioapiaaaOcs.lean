/- Opening a Config by bits, with how long its list of symbols can be. Condition: what it reads is no more than what one piece of memory takes. -/
import Derived.Test.YtjabfbeioapiaaaOpc
import Derived.SizedLaws
namespace Go.Proofs.Ytjabfbeioapiaaa.Ocs
set_option maxRecDepth 100000
open Go.ChangeShapes Go.WideShapes Go.RowKit Mem Opn Cfg Opc Go.Joins Go.Deep
set_option linter.unusedVariables false
section
variable {H : Type} {enc : TypeId × Value → H} {P : Program} {w : World} {base : Nat} {spare : Nat → Bool} {held : Bool}
theorem open_agg7d {r : Reach} {b0 : Nat} {t : TypeId} {f0 f1 f2 f3 f4 f5 f6 : Field} {v : Value} {d : DataW H} {p : List MemPlace} (hs : P.underlying t = some (.struct #[f0, f1, f2, f3, f4, f5, f6])) (hone : oneCellFields P #[f0, f1, f2, f3, f4, f5, f6] = true) (hC : P.cellsOf t = 7)
    (hv : Value.okWide P w r b0 t v) (h : DataW.Trod enc P w base spare held t v d p) :
    ∃ (v0 v1 v2 v3 v4 v5 v6 : Value) (y0 y1 y2 y3 y4 y5 y6 : DataW H × List MemPlace) (n : Nat), v = .agg #[v0, v1, v2, v3, v4, v5, v6] ∧ d = .agg [y0.1, y1.1, y2.1, y3.1, y4.1, y5.1, y6.1] ∧
      DataW.trod enc P w base spare held n f0.type [v0] = some y0 ∧ DataW.trod enc P w base spare held n f1.type [v1] = some y1 ∧ DataW.trod enc P w base spare held n f2.type [v2] = some y2 ∧ DataW.trod enc P w base spare held n f3.type [v3] = some y3 ∧ DataW.trod enc P w base spare held n f4.type [v4] = some y4 ∧ DataW.trod enc P w base spare held n f5.type [v5] = some y5 ∧ DataW.trod enc P w base spare held n f6.type [v6] = some y6 := by
  obtain ⟨cs, rfl, hsz⟩ := okWide_struct hs hv
  obtain ⟨l⟩ := cs
  match l, hsz.trans hC with
  | [c0, c1, c2, c3, c4, c5, c6], _ =>
    obtain ⟨fuel, hf⟩ := h
    obtain ⟨xs, n, _, hx, _, hlen, hg⟩ := DataW.trod_struct hs hf
    obtain ⟨o0, k0⟩ := hone_of hone 0 f0 rfl
    obtain ⟨o1, k1⟩ := hone_of hone 1 f1 rfl
    obtain ⟨o2, k2⟩ := hone_of hone 2 f2 rfl
    obtain ⟨o3, k3⟩ := hone_of hone 3 f3 rfl
    obtain ⟨o4, k4⟩ := hone_of hone 4 f4 rfl
    obtain ⟨o5, k5⟩ := hone_of hone 5 f5 rfl
    obtain ⟨o6, k6⟩ := hone_of hone 6 f6 rfl
    match xs, hlen with
    | [y0, y1, y2, y3, y4, y5, y6], _ =>
      injection hx with hx1 hx2
      exact ⟨c0, c1, c2, c3, c4, c5, c6, y0, y1, y2, y3, y4, y5, y6, n, rfl, hx1, by simpa [Value.cells, o0, k0] using hg 0 f0 rfl, by simpa [Value.cells, o1, k1] using hg 1 f1 rfl, by simpa [Value.cells, o2, k2] using hg 2 f2 rfl, by simpa [Value.cells, o3, k3] using hg 3 f3 rfl, by simpa [Value.cells, o4, k4] using hg 4 f4 rfl, by simpa [Value.cells, o5, k5] using hg 5 f5 rfl, by simpa [Value.cells, o6, k6] using hg 6 f6 rfl⟩
theorem slice_weight {t e : TypeId} {fuel : Nat} {A : Option Addr} {n c : Nat} {x : DataW H × List MemPlace} (ht : P.underlying t = some (.slice e)) (h : DataW.trod enc P w base (fun _ => true) held fuel t [.slice A n c] = some x) (hz : ∀ k ∈ x.1.weights P t, k ≤ reachBytes) : n * P.bytesOf e ≤ reachBytes := by
  rcases Go.Deep.open_slice ht h with ⟨hc, _⟩ | ⟨a, len, cap, m, k, D, Pl, hc, hb, hl, hm, hmm, hx, _⟩
  · injection hc with hc
    simp only [Value.slice.injEq] at hc
    rw [hc.2.1]
    simp
  · injection hc with hc
    simp only [Value.slice.injEq] at hc
    rw [hx] at hz
    have h2 := hz ((((List.range len).map D).length + ((List.range (m - len)).map fun j => D (len + j)).length) * P.bytesOf e) (by simp [DataW.weights, ht])
    rw [hc.2.1]
    refine Nat.le_trans (Nat.mul_le_mul_right _ ?_) h2
    simp
end
theorem open_conf_s {H : Type} {enc : TypeId × Value → H} {w : World} {r : Reach} {b0 base : Nat} {held : Bool} {v : Value} {d : DataW H} {p : List MemPlace}
    (hv : Value.okWide Try.prog w r b0 52 v) (h : DataW.Trod enc Try.prog w base (fun _ => true) held 52 v d p) (hz : ∀ k ∈ d.weights Try.prog 52, k ≤ reachBytes) :
    ∃ (sh wi ra ta : Int) (A B C : Option Addr) (c d f : Nat) (nd : List (Int × Int)) (ac : List Int) (sy : List (Int × Int × Int × Nat)), v = .agg #[.int .i64 sh, .int .i64 wi, .int .i64 ra, .int .i64 ta, .slice A nd.length c, .slice B ac.length d, .slice C sy.length f] ∧
      inI sh ∧ inI wi ∧ inI ra ∧ inI ta ∧ (nd.length : Int) ≤ 4611686018427387904 ∧ (ac.length : Int) ≤ 4611686018427387904 ∧ (sy.length : Int) ≤ 4398046511104 ∧ Nds w w.heap.size A nd ∧ WfN nd ∧ Ris w w.heap.size B ac ∧ WfI ac ∧ Btb w w.heap.size C sy ∧ WfS sy := by
  obtain ⟨v0, v1, v2, v3, v4, v5, v6, y0, y1, y2, y3, y4, y5, y6, n, rfl, rfl, g0, g1, g2, g3, g4, g5, g6⟩ := open_agg7d Try.underlying52 (by kernel_rfl) (by kernel_rfl) hv h
  have hw : ∀ (j : Nat) (t' : TypeId) (y : DataW H), [3, 3, 3, 3, 23, 24, 50][j]? = some t' → [y0.1, y1.1, y2.1, y3.1, y4.1, y5.1, y6.1][j]? = some y → ∀ k ∈ y.weights Try.prog t', k ≤ reachBytes := by
    intro j t' y h1 h2 k hk
    refine hz k ?_
    simp only [DataW.weights, Try.underlying52]
    exact DataW.weights_mem_each (j := j) h1 h2 k hk
  obtain ⟨sh, rfl, i0⟩ := one_int Try.underlying3 g0
  obtain ⟨wi, rfl, i1⟩ := one_int Try.underlying3 g1
  obtain ⟨ra, rfl, i2⟩ := one_int Try.underlying3 g2
  obtain ⟨ta, rfl, i3⟩ := one_int Try.underlying3 g3
  obtain ⟨A, c, nd, rfl, h1, h2, hn, hwn⟩ := open_nodesc Try.underlying23 Try.underlying82 (by kernel_rfl) rfl rfl (by kernel_rfl) (by kernel_rfl) Try.underlying3 Try.underlying2 g4
  obtain ⟨B, d, ac, rfl, h3, h4, ha, hwa⟩ := open_i64c Try.underlying24 Try.underlying3 (by kernel_rfl) g5
  obtain ⟨C, f, sy, rfl, h5, h6, hs, hws⟩ := open_fours Try.underlying50 Try.underlying78 (by kernel_rfl) rfl rfl rfl rfl (by kernel_rfl) (by kernel_rfl) (by kernel_rfl) (by kernel_rfl) Try.underlying2 Try.underlying2 Try.underlying2 Try.underlying39 g6
  have w4 := slice_weight Try.underlying23 g4 (hw 4 _ _ rfl rfl)
  have w5 := slice_weight Try.underlying24 g5 (hw 5 _ _ rfl rfl)
  have w6 := slice_weight Try.underlying50 g6 (hw 6 _ _ rfl rfl)
  rw [show Try.prog.bytesOf 82 = 16 from by kernel_rfl] at w4
  rw [show Try.prog.bytesOf 3 = 8 from by kernel_rfl] at w5
  rw [show Try.prog.bytesOf 78 = 32 from by kernel_rfl] at w6
  unfold reachBytes at w4 w5 w6
  exact ⟨sh, wi, ra, ta, A, B, C, c, d, f, nd, ac, sy, rfl, i0, i1, i2, i3, by omega, by omega, by omega, hn, hwn, ha, hwa, hs, hws⟩
end Go.Proofs.Ytjabfbeioapiaaa.Ocs
