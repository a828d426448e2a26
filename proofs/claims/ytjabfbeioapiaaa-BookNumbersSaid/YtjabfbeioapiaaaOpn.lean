/- Opening arguments that are slices of numbers or of pairs, also inside a struct: over any program. No condition. -/
import Derived.Test.YtjabfbeioapiaaaMem
import Derived.ChangeSlices
import Derived.Lib.SmallJoins
namespace Go.Proofs.Ytjabfbeioapiaaa.Opn
set_option maxRecDepth 100000
open Go.ChangeShapes Go.WideShapes Go.RowKit Mem
section
variable {H : Type} {enc : TypeId × Value → H} {P : Program} {w : World}
theorem open_i64c {t e : TypeId} {fuel : Nat} {v : Value} {x : DataW H × List MemPlace} {base : Nat} {held : Bool} (ht : P.underlying t = some (.slice e)) (he : P.underlying e = some (.int .i64)) (hc : P.cellsOf e = 1)
    (h : DataW.trod enc P w base (fun _ => true) held fuel t [v] = some x) : ∃ A c u, v = .slice A u.length c ∧ u.length ≤ c ∧ c ≤ maxLen ∧ Ris w w.heap.size A u ∧ WfI u := by
  rcases open_ints ht he hc h with ⟨h1, _⟩ | ⟨a, len, cap, zs, h1, _, hl, hm, hz, _, hcell, hwf⟩
  · injection h1 with h1
    exact ⟨none, 0, [], h1, by simp, by unfold maxLen; omega, .inl rfl, fun i hi => by simp at hi⟩
  · injection h1 with h1
    simp only [if_true] at hz
    have hlen : (zs.take len).length = len := by rw [List.length_take]; omega
    have hget : ∀ i, i < len → gI (zs.take len) i = zs.getD i 0 := fun i hi => by simp [gI, hi]
    refine ⟨some a, cap, zs.take len, by rw [hlen]; exact h1, by rw [hlen]; exact hl, hm, ?_, ?_⟩
    · by_cases h0 : len = 0
      · subst h0; exact .inl (by simp [ints])
      · obtain ⟨ab, ao, asp⟩ := a
        have h00 := hcell 0 (by omega)
        have hs := spot_none h00
        subst hs
        refine .inr ⟨ab, ao, rfl, ?_, ?_⟩
        · have := blk_lt h00
          simpa [Addr.add] using this
        · intro i v hv
          have hil : i < len := by
            have := (List.getElem?_eq_some_iff.1 hv).1
            rwa [ints_len, hlen] at this
          have hci := hcell i (by omega)
          rw [add_lit'] at hci
          rw [hci]
          have : (ints (zs.take len))[i]? = some (.int .i64 (zs.getD i 0)) := by
            have hz' : i < zs.length := by omega
            simp [ints, hil, hz']
          rw [this] at hv
          exact hv
    · intro i hi
      rw [hlen] at hi
      rw [hget i hi]
      have hz' : i < zs.length := by omega
      have := hwf zs[i] (List.getElem_mem hz')
      have e : zs.getD i 0 = zs[i] := by simp [hz']
      rw [e]
      exact wf_in this
theorem open_nodesc {t e : TypeId} {f0 f1 : Field} {v : Value} {fuel : Nat} {x : DataW H × List MemPlace} {base : Nat} {held : Bool}
    (ht : P.underlying t = some (.slice e)) (he : P.underlying e = some (.struct #[f0, f1])) (ce : P.cellsOf e = 2) (o0 : f0.offset = 0) (o1 : f1.offset = 1)
    (c0 : P.cellsOf f0.type = 1) (c1 : P.cellsOf f1.type = 1) (u0 : P.underlying f0.type = some (.int .i64)) (u1 : P.underlying f1.type = some (.int .i64))
    (h : DataW.trod enc P w base (fun _ => true) held fuel t [v] = some x) :
    ∃ A c l, v = .slice A l.length c ∧ l.length ≤ c ∧ c ≤ maxLen ∧ Nds w w.heap.size A l ∧ WfN l := by
  have hv : ∃ A n c, v = .slice A n c := by
    rcases Go.Deep.open_slice_pairs ht he ce o0 o1 c0 c1 h with ⟨hc, _⟩ | ⟨a, len', cap', m, n, V0, V1, D0, D1, P0, P1, hc, _⟩
    · injection hc with hc; exact ⟨_, _, _, hc⟩
    · injection hc with hc; exact ⟨_, _, _, hc⟩
  obtain ⟨A, len, cap, rfl⟩ := hv
  rcases Go.Deep.open_slice_pairs ht he ce o0 o1 c0 c1 h with ⟨hc, _⟩ | ⟨a, len', cap', m, n, V0, V1, D0, D1, P0, P1, hc, hb, hl, hm, hmm, hx, hi⟩
  · simp at hc
    obtain ⟨rfl, rfl, rfl⟩ := hc
    exact ⟨none, 0, [], rfl, by simp, by unfold maxLen; omega, .inl rfl, fun i hi => by simp at hi⟩
  · simp at hc
    obtain ⟨rfl, rfl, rfl⟩ := hc
    have hm2 : m = cap := by rw [hmm]; simp
    subst hm2
    have key : ∀ i, i < m → ∃ x y : Int, V0 i = .int .i64 x ∧ V1 i = .int .i64 y ∧ inI x ∧ inI y := by
      intro i him
      obtain ⟨h0, h1, h2, h3⟩ := hi i him
      obtain ⟨x, hx, _, wx⟩ := DataW.trod_int u0 h2
      obtain ⟨y, hy, _, wy⟩ := DataW.trod_int u1 h3
      simp at hx hy
      exact ⟨x, y, hx, hy, wf_in wx, wf_in wy⟩
    obtain ⟨fx, hfx⟩ := Go.Deep.choose_lt (n := m) (p := fun i (q : Int × Int) => V0 i = .int .i64 q.1 ∧ V1 i = .int .i64 q.2 ∧ inI q.1 ∧ inI q.2)
      (fun i him => by obtain ⟨x, y, k⟩ := key i him; exact ⟨(x, y), k⟩)
    have hlen : ((List.range len).map fx).length = len := by simp
    refine ⟨some a, m, (List.range len).map fx, by rw [hlen], by rw [hlen]; exact hl, hm, ?_, ?_⟩
    · by_cases h0 : len = 0
      · subst h0; exact .inl (by simp [nds])
      · obtain ⟨ab, ao, asp⟩ := a
        have hs : asp = none := by
          have := (hi 0 (by omega)).1
          rw [Nat.zero_mul] at this
          exact spot_none this
        subst hs
        refine .inr ⟨ab, ao, rfl, ?_, ?_⟩
        · have := blk_lt (hi 0 (by omega)).1
          simpa [Addr.add] using this
        · intro i v hv
          have hil : i < len * 2 := by
            have := (List.getElem?_eq_some_iff.1 hv).1
            rwa [nds_len, hlen] at this
          have hg := nds_get ((List.range len).map fx) (i / 2) (by rw [hlen]; omega)
          obtain ⟨q0, q1, q2, q3⟩ := hi (i / 2) (by omega)
          obtain ⟨r0, r1, _⟩ := hfx (i / 2) (by omega)
          have hP : nP ((List.range len).map fx) (i / 2) = (fx (i / 2)).1 := by simp [nP, show i / 2 < len by omega]
          have hC : nC ((List.range len).map fx) (i / 2) = (fx (i / 2)).2 := by simp [nC, show i / 2 < len by omega]
          rw [hP, hC] at hg
          rw [r0] at q0
          rw [r1] at q1
          rw [add_lit'] at q0 q1
          by_cases hodd : i % 2 = 0
          · have e : i / 2 * 2 = i := by omega
            rw [e] at hg q0
            rw [hg.1] at hv
            injection hv with hv
            rw [q0, hv]
          · have e : i / 2 * 2 + 1 = i := by omega
            rw [e] at hg
            rw [e] at q1
            rw [hg.2] at hv
            injection hv with hv
            rw [q1, hv]
    · intro i hil
      rw [hlen] at hil
      obtain ⟨_, _, r2, r3⟩ := hfx i (by omega)
      have hP : nP ((List.range len).map fx) i = (fx i).1 := by simp [nP, hil]
      have hC : nC ((List.range len).map fx) i = (fx i).2 := by simp [nC, hil]
      rw [hP, hC]
      exact ⟨r2, r3⟩
end
end Go.Proofs.Ytjabfbeioapiaaa.Opn
