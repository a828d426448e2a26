/- Plain facts: what wire's reader takes of bytes is the message with which they begin, if there is one. No condition. -/
import Derived.Test.YtkobldddiedmdaaWfi
namespace Go.Proofs.Ytkobldddiedmdaa.Wdp
set_option maxRecDepth 100000
open Go.RowKit Mem Wpl Wtk Wrd Wfi
set_option linter.unusedVariables false

theorem takS_bad (s m : Nat) (l : List UInt8) : (takS s m l true).2.2 = true := by unfold takS; split <;> rfl
theorem takS_at {s m o : Nat} {l : List UInt8} (hs : 1 ≤ s) : takS s m (l.drop o) false = if o + s ≤ l.length ∧ fld l o s ≤ m then ((fld l o s : Int), l.drop (o + s), false) else (0, l.drop o, true) := by
  unfold takS TakF fld
  rw [List.length_drop]
  by_cases h : o + s ≤ l.length ∧ val ((l.drop o).take s) ≤ m
  · rw [if_pos h, if_neg (by simp; omega), List.drop_drop]
  · rw [if_neg h, if_pos (by simp; omega)]
theorem takS_t {s m o : Nat} {l : List UInt8} (hs : 1 ≤ s) (h : o + s ≤ l.length) (h' : fld l o s ≤ m) : takS s m (l.drop o) false = ((fld l o s : Int), l.drop (o + s), false) := by rw [takS_at hs, if_pos ⟨h, h'⟩]
theorem takS_f {s m o : Nat} {l : List UInt8} (hs : 1 ≤ s) (h : ¬ (o + s ≤ l.length ∧ fld l o s ≤ m)) : takS s m (l.drop o) false = (0, l.drop o, true) := by rw [takS_at hs, if_neg h]
theorem ordR_bad {l : List UInt8} {a s : Int} {x : Bool} {p q n t : Int} {l' : List UInt8} {bad' : Bool} (h : OrdR l true a s x p q n t l' bad') : bad' = true := by
  obtain ⟨r1, r2, r3, r4, r5, r6, r7, h1, h2, h3, h4, h5, h6, h7, _, _, _, _, _, _, _, _, hb⟩ := h.ex
  rw [hb, h7, h6, h5, h4, h3, h2, h1]
  simp only [takS_bad]
/-- one number behind the other -/
theorem chain {s m o : Nat} {l lx : List UInt8} {r : Int × List UInt8 × Bool} {b : Bool} (hs : 1 ≤ s) (hl : b = false → lx = l.drop o) (hr : r = takS s m lx b) :
    (r.2.2 = false → b = false ∧ o + s ≤ l.length ∧ fld l o s ≤ m ∧ r.1 = (fld l o s : Int) ∧ r.2.1 = l.drop (o + s)) ∧ (b = false → o + s ≤ l.length → fld l o s ≤ m → r.2.2 = false) := by
  cases b with
  | true => exact ⟨fun h => by rw [hr, takS_bad] at h; exact absurd h (by decide), fun h => absurd h (by decide)⟩
  | false =>
    have e := hl rfl
    subst e
    by_cases hc : o + s ≤ l.length ∧ fld l o s ≤ m
    · rw [takS_t hs hc.1 hc.2] at hr
      subst hr
      exact ⟨fun _ => ⟨rfl, hc.1, hc.2, rfl, rfl⟩, fun _ _ _ => rfl⟩
    · rw [takS_f hs hc] at hr
      subst hr
      exact ⟨fun h => absurd h (by simp), fun _ h1 h2 => absurd ⟨h1, h2⟩ hc⟩
theorem fir_dec {l : List UInt8} {m : M} {l' : List UInt8} {bad : Bool} (h : FirR l m l' bad) : (bad = false → okD l ∧ m = msgD l ∧ l' = l.drop (lenK (fld l 0 1))) ∧ (okD l → bad = false) := by
  obtain ⟨r0, h0, h⟩ := h
  have c0 := chain (l := l) (o := 0) (by decide) (fun _ => rfl) h0
  have b2 : ∀ o, fld l o 2 ≤ 65535 := fun o => by have := fld_lt l o 2; omega
  have b4 : ∀ o, fld l o 4 ≤ 4294967295 := fun o => by have := fld_lt l o 4; omega
  have i0 : okD l → r0.2.2 = false := fun h => c0.2 rfl (by have := h.1; omega) h.2.1
  have i1 : okD l → r0.1 = (fld l 0 1 : Int) := fun h => (c0.1 (i0 h)).2.2.2.1
  have i2 : okD l → lenK (fld l 0 1) ≤ l.length := fun h => h.2.2.1
  have d1 : r0.2.2 = false → r0.2.1 = l.drop 1 := fun h => (c0.1 h).2.2.2.2
  rcases h with ⟨hk, a, s, x, p, q, n, t, ho, rfl⟩ | ⟨hk, r1, h1, rfl, rfl, rfl⟩ | ⟨hk, r1, r2, h1, h2, rfl, rfl, rfl⟩ | ⟨hk, r1, r2, h1, h2, rfl, rfl, rfl⟩ | ⟨hk, rfl, rfl, rfl⟩
  · obtain ⟨r1, r2, r3, r4, r5, r6, r7, h1, h2, h3, h4, h5, h6, h7, rfl, rfl, rfl, rfl, rfl, rfl, rfl, rfl, rfl⟩ := ho.ex
    have c1 := chain (o := 1) (by decide) d1 h1
    have c2 := chain (o := 3) (by decide) (fun h => (c1.1 h).2.2.2.2) h2
    have c3 := chain (o := 5) (by decide) (fun h => (c2.1 h).2.2.2.2) h3
    have c4 := chain (o := 6) (by decide) (fun h => (c3.1 h).2.2.2.2) h4
    have c5 := chain (o := 14) (by decide) (fun h => (c4.1 h).2.2.2.2) h5
    have c6 := chain (o := 22) (by decide) (fun h => (c5.1 h).2.2.2.2) h6
    have c7 := chain (o := 30) (by decide) (fun h => (c6.1 h).2.2.2.2) h7
    constructor
    · intro hb
      obtain ⟨a6, l7, m7, v7, e7⟩ := c7.1 hb
      obtain ⟨a5, l6, m6, v6, e6⟩ := c6.1 a6
      obtain ⟨a4, l5, m5, v5, e5⟩ := c5.1 a5
      obtain ⟨a3, l4, m4, v4, e4⟩ := c4.1 a4
      obtain ⟨a2, l3, m3, v3, e3⟩ := c3.1 a3
      obtain ⟨a1, l2, m2, v2, e2⟩ := c2.1 a2
      obtain ⟨a0, l1, m1, v1, e1⟩ := c1.1 a1
      obtain ⟨_, l0, m0', v0, e0⟩ := c0.1 a0
      have hk0 : fld l 0 1 = 0 := by omega
      have hlen : lenK (fld l 0 1) = 38 := by rw [hk0]; rfl
      refine ⟨⟨by omega, by omega, by rw [hlen]; omega, fun _ => ⟨m3, by unfold big63; omega, by unfold big63; omega, by unfold big63; omega, by unfold big63; omega⟩, fun h => by omega, fun h => by omega⟩, ?_, by rw [hlen, e7]⟩
      unfold msgD
      rw [if_pos hk0, hk, v1, v2, v3, v4, v5, v6, v7]
      have ex : (((fld l 5 1 : Nat) : Int) == 1) = decide (fld l 5 1 = 1) := by
        by_cases h : fld l 5 1 = 1
        · rw [h]; rfl
        · simp [h]; omega
      rw [ex]
      rfl
    · intro hok
      have hk0 : fld l 0 1 = 0 := by have := i1 hok; omega
      have hlen := i2 hok
      rw [hk0] at hlen
      have hlen : 38 ≤ l.length := hlen
      obtain ⟨q1, q2, q3, q4, q5⟩ := hok.2.2.2.1 hk0
      unfold big63 at q2 q3 q4 q5
      exact c7.2 (c6.2 (c5.2 (c4.2 (c3.2 (c2.2 (c1.2 (i0 hok) (by omega) (b2 1)) (by omega) (b2 3)) (by omega) q1) (by omega) (by omega)) (by omega) (by omega)) (by omega) (by omega)) (by omega) (by omega)
  · have c1 := chain (o := 1) (by decide) d1 h1
    constructor
    · intro hb
      obtain ⟨a0, l1, m1, v1, e1⟩ := c1.1 hb
      obtain ⟨_, l0, m0', v0, e0⟩ := c0.1 a0
      have hk1 : fld l 0 1 = 1 ∨ fld l 0 1 = 3 := by omega
      have hk0 : ¬ fld l 0 1 = 0 := by omega
      have hlen : lenK (fld l 0 1) = 5 := by unfold lenK; rw [if_neg hk0, if_pos hk1]
      refine ⟨⟨by omega, by omega, by rw [hlen]; omega, fun h => by omega, fun h => by omega, fun h => by omega⟩, ?_, by rw [hlen, e1]⟩
      unfold msgD
      rw [if_neg hk0, if_pos hk1, v0, v1]
      rfl
    · intro hok
      have hk1 : fld l 0 1 = 1 ∨ fld l 0 1 = 3 := by have := i1 hok; omega
      have hk0 : ¬ fld l 0 1 = 0 := by omega
      have hlen := i2 hok
      have e : lenK (fld l 0 1) = 5 := by unfold lenK; rw [if_neg hk0, if_pos hk1]
      rw [e] at hlen
      exact c1.2 (i0 hok) (by omega) (b4 1)
  · have c1 := chain (o := 1) (by decide) d1 h1
    have c2 := chain (o := 5) (by decide) (fun h => (c1.1 h).2.2.2.2) h2
    constructor
    · intro hb
      obtain ⟨a1, l2, m2, v2, e2⟩ := c2.1 hb
      obtain ⟨a0, l1, m1, v1, e1⟩ := c1.1 a1
      obtain ⟨_, l0, m0', v0, e0⟩ := c0.1 a0
      have hk2 : fld l 0 1 = 2 := by omega
      have hlen : lenK (fld l 0 1) = 13 := by rw [hk2]; rfl
      refine ⟨⟨by omega, by omega, by rw [hlen]; omega, fun h => by omega, fun _ => by unfold big63; omega, fun h => by omega⟩, ?_, by rw [hlen, e2]⟩
      unfold msgD
      rw [if_neg (by omega), if_neg (by omega), if_pos hk2, v0, v1, v2]
      rfl
    · intro hok
      have hk2 : fld l 0 1 = 2 := by have := i1 hok; omega
      have hlen := i2 hok
      rw [hk2] at hlen
      have hlen : 13 ≤ l.length := hlen
      have q := hok.2.2.2.2.1 hk2
      unfold big63 at q
      exact c2.2 (c1.2 (i0 hok) (by omega) (b4 1)) (by omega) (by omega)
  · have c1 := chain (o := 1) (by decide) d1 h1
    have c2 := chain (o := 3) (by decide) (fun h => (c1.1 h).2.2.2.2) h2
    constructor
    · intro hb
      obtain ⟨a1, l2, m2, v2, e2⟩ := c2.1 hb
      obtain ⟨a0, l1, m1, v1, e1⟩ := c1.1 a1
      obtain ⟨_, l0, m0', v0, e0⟩ := c0.1 a0
      have hk6 : fld l 0 1 = 6 := by omega
      have hlen : lenK (fld l 0 1) = 11 := by rw [hk6]; rfl
      refine ⟨⟨by omega, by omega, by rw [hlen]; omega, fun h => by omega, fun h => by omega, fun _ => by unfold big63; omega⟩, ?_, by rw [hlen, e2]⟩
      unfold msgD
      rw [if_neg (by omega), if_neg (by omega), if_neg (by omega), if_pos hk6, v0, v1, v2]
      rfl
    · intro hok
      have hk6 : fld l 0 1 = 6 := by have := i1 hok; omega
      have hlen := i2 hok
      rw [hk6] at hlen
      have hlen : 11 ≤ l.length := hlen
      have q := hok.2.2.2.2.2 hk6
      unfold big63 at q
      exact c2.2 (c1.2 (i0 hok) (by omega) (b2 1)) (by omega) (by omega)
  · constructor
    · intro hb
      obtain ⟨_, l0, m0', v0, e0⟩ := c0.1 hb
      have hk0 : ¬ fld l 0 1 = 0 := by omega
      have hk1 : ¬ (fld l 0 1 = 1 ∨ fld l 0 1 = 3) := by omega
      have hk2 : ¬ fld l 0 1 = 2 := by omega
      have hk6 : ¬ fld l 0 1 = 6 := by omega
      have hlen : lenK (fld l 0 1) = 1 := by unfold lenK; rw [if_neg hk0, if_neg hk1, if_neg hk2, if_neg hk6]
      refine ⟨⟨by omega, by omega, by rw [hlen]; omega, fun h => by omega, fun h => by omega, fun h => by omega⟩, ?_, by rw [hlen, e0]⟩
      unfold msgD
      rw [if_neg hk0, if_neg hk1, if_neg hk2, if_neg hk6, v0]
      rfl
    · intro hok
      exact i0 hok
end Go.Proofs.Ytkobldddiedmdaa.Wdp
