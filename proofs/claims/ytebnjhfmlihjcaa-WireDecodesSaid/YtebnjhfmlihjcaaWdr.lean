/- Plain facts: what the reference's reader takes of bytes is the message with which they begin, if there is one. No condition. -/
import Derived.Test.YtebnjhfmlihjcaaWrf
import Derived.Test.YtebnjhfmlihjcaaWdp
namespace Go.Proofs.Ytebnjhfmlihjcaa.Wdr
set_option maxRecDepth 100000
open Go.RowKit Mem Wpl Wtk Wrd Wfi Wdp Wrk Wrf
set_option linter.unusedVariables false

theorem top8 {l : List UInt8} (h : 8 ≤ l.length) : 128 ≤ val (l.take 1) ↔ 9223372036854775808 ≤ val (l.take 8) := by
  match l, h with
  | b :: t, h =>
    have ht : (t.take 7).length = 7 := by rw [List.length_take]; simp at h; omega
    have e8 : val ((b :: t).take 8) = b.toNat * 256 ^ 7 + val (t.take 7) := by show val (b :: t.take 7) = _; rw [val_cons, ht]
    have e1 : val ((b :: t).take 1) = b.toNat := by show val [b] = _; rw [val_cons]; simp [val]
    have a := val_lt (t.take 7)
    rw [ht] at a
    rw [e8, e1]
    have p : (256 : Nat) ^ 7 = 72057594037927936 := by decide
    rw [p] at a ⊢
    omega
theorem rakS_bad (s : Nat) (l : List UInt8) : (rakS s l true).2.2 = true := by unfold rakS RakF; rfl
theorem rchain {s o : Nat} {l lx : List UInt8} {r : Int × List UInt8 × Bool} {b : Bool} (hs : 1 ≤ s) (hl : b = false → lx = l.drop o) (hr : r = rakS s lx b) :
    (r.2.2 = false → b = false ∧ o + s ≤ l.length ∧ (s = 8 → fld l o s < big63) ∧ r.1 = (fld l o s : Int) ∧ r.2.1 = l.drop (o + s)) ∧ (b = false → o + s ≤ l.length → (s = 8 → fld l o s < big63) → r.2.2 = false) := by
  cases b with
  | true => exact ⟨fun h => by rw [hr, rakS_bad] at h; exact absurd h (by decide), fun h => absurd h (by decide)⟩
  | false =>
    have e := hl rfl
    subst e
    by_cases hc : o + s ≤ l.length ∧ (s = 8 → fld l o s < big63)
    · have hF : RakF (l.drop o) false s = false := by
        unfold RakF
        simp only [Bool.false_or, Bool.or_eq_false_iff, decide_eq_false_iff_not, Bool.and_eq_false_iff]
        refine ⟨by rw [List.length_drop]; omega, ?_⟩
        by_cases h8 : s = 8
        · right
          have h := hc.2 h8
          subst h8
          rw [top8 (by rw [List.length_drop]; omega)]
          unfold fld big63 at h
          omega
        · exact .inl h8
      have e : rakS s (l.drop o) false = ((fld l o s : Int), l.drop (o + s), false) := by unfold rakS; rw [if_neg (by rw [hF]; decide), List.drop_drop]; rfl
      rw [e] at hr
      subst hr
      exact ⟨fun _ => ⟨rfl, hc.1, hc.2, rfl, rfl⟩, fun _ _ _ => rfl⟩
    · have hF : RakF (l.drop o) false s = true := by
        unfold RakF
        simp only [Bool.false_or, Bool.or_eq_true, decide_eq_true_eq, Bool.and_eq_true]
        by_cases h1 : o + s ≤ l.length
        · right
          by_cases h8 : s = 8
          · refine ⟨h8, ?_⟩
            subst h8
            rw [top8 (by rw [List.length_drop]; omega)]
            have : ¬ fld l o 8 < big63 := fun h => hc ⟨h1, fun _ => h⟩
            unfold fld big63 at this
            omega
          · exact absurd ⟨h1, fun h => absurd h h8⟩ hc
        · left; rw [List.length_drop]; omega
      have e : (rakS s (l.drop o) false).2.2 = true := by unfold rakS; rw [if_pos hF]
      rw [← hr] at e
      exact ⟨fun h => by rw [e] at h; exact absurd h (by decide), fun _ h1 h2 => absurd ⟨h1, h2⟩ hc⟩
theorem rfir_dec {l : List UInt8} {m : M} {l' : List UInt8} {bad : Bool} (h : FirQ l m l' bad) : (bad = false ∧ m.k ≤ 6 → okD l ∧ m = msgD l ∧ l' = l.drop (lenK (fld l 0 1))) ∧ (okD l → bad = false ∧ m.k ≤ 6) := by
  obtain ⟨r0, h0, h⟩ := h
  have c0 := rchain (l := l) (o := 0) (by decide) (fun _ => rfl) h0
  have nb : ∀ {s o : Nat}, s ≠ 8 → (s = 8 → fld l o s < big63) := fun h e => absurd e h
  have i0 : okD l → r0.2.2 = false := fun h => c0.2 rfl (by have := h.1; omega) (nb (by decide))
  have i1 : okD l → r0.1 = (fld l 0 1 : Int) := fun h => (c0.1 (i0 h)).2.2.2.1
  have i2 : okD l → lenK (fld l 0 1) ≤ l.length := fun h => h.2.2.1
  have d1 : r0.2.2 = false → r0.2.1 = l.drop 1 := fun h => (c0.1 h).2.2.2.2
  rcases h with ⟨hk, r1, r2, r3, r4, r5, r6, r7, h1, h2, h3, h4, h5, h6, h7, rfl, rfl, rfl⟩ | ⟨hk, r1, h1, rfl, rfl, rfl⟩ | ⟨hk, r1, r2, h1, h2, rfl, rfl, rfl⟩ | ⟨hk, r1, r2, h1, h2, rfl, rfl, rfl⟩ | ⟨hk, rfl, rfl, rfl⟩
  · have c1 := rchain (o := 1) (by decide) d1 h1
    have c2 := rchain (o := 3) (by decide) (fun h => (c1.1 h).2.2.2.2) h2
    have c3 := rchain (o := 5) (by decide) (fun h => (c2.1 h).2.2.2.2) h3
    have c4 := rchain (o := 6) (by decide) (fun h => (c3.1 (by simpa using (Bool.or_eq_false_iff.1 h).1)).2.2.2.2) h4
    have c5 := rchain (o := 14) (by decide) (fun h => (c4.1 h).2.2.2.2) h5
    have c6 := rchain (o := 22) (by decide) (fun h => (c5.1 h).2.2.2.2) h6
    have c7 := rchain (o := 30) (by decide) (fun h => (c6.1 h).2.2.2.2) h7
    constructor
    · rintro ⟨hb, hk6'⟩
      simp only [] at hk6'
      obtain ⟨a6, l7, m7, v7, e7⟩ := c7.1 hb
      obtain ⟨a5, l6, m6, v6, e6⟩ := c6.1 a6
      obtain ⟨a4, l5, m5, v5, e5⟩ := c5.1 a5
      obtain ⟨a3, l4, m4, v4, e4⟩ := c4.1 a4
      obtain ⟨a3, q3⟩ := Bool.or_eq_false_iff.1 a3
      have q3' := of_decide_eq_false q3
      obtain ⟨a2, l3, m3, v3, e3⟩ := c3.1 a3
      obtain ⟨a1, l2, m2, v2, e2⟩ := c2.1 a2
      obtain ⟨a0, l1, m1, v1, e1⟩ := c1.1 a1
      obtain ⟨_, l0, m0', v0, e0⟩ := c0.1 a0
      have hk0 : fld l 0 1 = 0 := by omega
      have hlen : lenK (fld l 0 1) = 38 := by rw [hk0]; rfl
      refine ⟨⟨by omega, by omega, by rw [hlen]; omega, fun _ => ⟨by omega, m4 rfl, m5 rfl, m6 rfl, m7 rfl⟩, fun h => by omega, fun h => by omega⟩, ?_, by rw [hlen, e7]⟩
      unfold msgD
      rw [if_pos hk0, hk, v1, v2, v3, v4, v5, v6, v7]
      have ex : (((fld l 5 1 : Nat) : Int) == 1) = decide (fld l 5 1 = 1) := by
        by_cases h : fld l 5 1 = 1
        · rw [h]; rfl
        · simp [h]; omega
      rw [ex]
      rfl
    · intro hok
      have hk0 : fld l 0 1 = 0 := by have := i1 hok; omega
      have hlen := i2 hok
      rw [hk0] at hlen
      have hlen : 38 ≤ l.length := hlen
      obtain ⟨q1, q2, q3, q4, q5⟩ := hok.2.2.2.1 hk0
      have a3 := c3.2 (c2.2 (c1.2 (i0 hok) (by omega) (nb (by decide))) (by omega) (nb (by decide))) (by omega) (nb (by decide))
      have v3 := (c3.1 a3).2.2.2.1
      exact ⟨c7.2 (c6.2 (c5.2 (c4.2 (by rw [a3, v3]; simp; omega) (by omega) (fun _ => q2)) (by omega) (fun _ => q3)) (by omega) (fun _ => q4)) (by omega) (fun _ => q5), by show r0.1 ≤ 6; omega⟩
  · have c1 := rchain (o := 1) (by decide) d1 h1
    constructor
    · rintro ⟨hb, hk6'⟩
      simp only [] at hk6'
      obtain ⟨a0, l1, m1, v1, e1⟩ := c1.1 hb
      obtain ⟨_, l0, m0', v0, e0⟩ := c0.1 a0
      have hk1 : fld l 0 1 = 1 ∨ fld l 0 1 = 3 := by omega
      have hk0 : ¬ fld l 0 1 = 0 := by omega
      have hlen : lenK (fld l 0 1) = 5 := by unfold lenK; rw [if_neg hk0, if_pos hk1]
      refine ⟨⟨by omega, by omega, by rw [hlen]; omega, fun h => by omega, fun h => by omega, fun h => by omega⟩, ?_, by rw [hlen, e1]⟩
      unfold msgD
      rw [if_neg hk0, if_pos hk1, v0, v1]
      rfl
    · intro hok
      have hk1 : fld l 0 1 = 1 ∨ fld l 0 1 = 3 := by have := i1 hok; omega
      have hk0 : ¬ fld l 0 1 = 0 := by omega
      have hlen := i2 hok
      have e : lenK (fld l 0 1) = 5 := by unfold lenK; rw [if_neg hk0, if_pos hk1]
      rw [e] at hlen
      exact ⟨c1.2 (i0 hok) (by omega) (nb (by decide)), by show r0.1 ≤ 6; omega⟩
  · have c1 := rchain (o := 1) (by decide) d1 h1
    have c2 := rchain (o := 5) (by decide) (fun h => (c1.1 h).2.2.2.2) h2
    constructor
    · rintro ⟨hb, hk6'⟩
      simp only [] at hk6'
      obtain ⟨a1, l2, m2, v2, e2⟩ := c2.1 hb
      obtain ⟨a0, l1, m1, v1, e1⟩ := c1.1 a1
      obtain ⟨_, l0, m0', v0, e0⟩ := c0.1 a0
      have hk2 : fld l 0 1 = 2 := by omega
      have hlen : lenK (fld l 0 1) = 13 := by rw [hk2]; rfl
      refine ⟨⟨by omega, by omega, by rw [hlen]; omega, fun h => by omega, fun _ => m2 rfl, fun h => by omega⟩, ?_, by rw [hlen, e2]⟩
      unfold msgD
      rw [if_neg (by omega), if_neg (by omega), if_pos hk2, v0, v1, v2]
      rfl
    · intro hok
      have hk2 : fld l 0 1 = 2 := by have := i1 hok; omega
      have hlen := i2 hok
      rw [hk2] at hlen
      have hlen : 13 ≤ l.length := hlen
      have q := hok.2.2.2.2.1 hk2
      exact ⟨c2.2 (c1.2 (i0 hok) (by omega) (nb (by decide))) (by omega) (fun _ => q), by show r0.1 ≤ 6; omega⟩
  · have c1 := rchain (o := 1) (by decide) d1 h1
    have c2 := rchain (o := 3) (by decide) (fun h => (c1.1 h).2.2.2.2) h2
    constructor
    · rintro ⟨hb, hk6'⟩
      simp only [] at hk6'
      obtain ⟨a1, l2, m2, v2, e2⟩ := c2.1 hb
      obtain ⟨a0, l1, m1, v1, e1⟩ := c1.1 a1
      obtain ⟨_, l0, m0', v0, e0⟩ := c0.1 a0
      have hk6 : fld l 0 1 = 6 := by omega
      have hlen : lenK (fld l 0 1) = 11 := by rw [hk6]; rfl
      refine ⟨⟨by omega, by omega, by rw [hlen]; omega, fun h => by omega, fun h => by omega, fun _ => m2 rfl⟩, ?_, by rw [hlen, e2]⟩
      unfold msgD
      rw [if_neg (by omega), if_neg (by omega), if_neg (by omega), if_pos hk6, v0, v1, v2]
      rfl
    · intro hok
      have hk6 : fld l 0 1 = 6 := by have := i1 hok; omega
      have hlen := i2 hok
      rw [hk6] at hlen
      have hlen : 11 ≤ l.length := hlen
      have q := hok.2.2.2.2.2 hk6
      exact ⟨c2.2 (c1.2 (i0 hok) (by omega) (nb (by decide))) (by omega) (fun _ => q), by show r0.1 ≤ 6; omega⟩
  · constructor
    · rintro ⟨hb, hk6'⟩
      simp only [] at hk6'
      obtain ⟨_, l0, m0', v0, e0⟩ := c0.1 hb
      have hk0 : ¬ fld l 0 1 = 0 := by omega
      have hk1 : ¬ (fld l 0 1 = 1 ∨ fld l 0 1 = 3) := by omega
      have hk2 : ¬ fld l 0 1 = 2 := by omega
      have hk6 : ¬ fld l 0 1 = 6 := by omega
      have hlen : lenK (fld l 0 1) = 1 := by unfold lenK; rw [if_neg hk0, if_neg hk1, if_neg hk2, if_neg hk6]
      refine ⟨⟨by omega, by omega, by rw [hlen]; omega, fun h => by omega, fun h => by omega, fun h => by omega⟩, ?_, by rw [hlen, e0]⟩
      unfold msgD
      rw [if_neg hk0, if_neg hk1, if_neg hk2, if_neg hk6, v0]
      rfl
    · intro hok
      exact ⟨i0 hok, by have := i1 hok; have := hok.2.1; show r0.1 ≤ 6; omega⟩
end Go.Proofs.Ytebnjhfmlihjcaa.Wdr
