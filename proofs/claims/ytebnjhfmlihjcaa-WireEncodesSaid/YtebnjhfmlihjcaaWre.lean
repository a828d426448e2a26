/- Contract: a message's bytes, by the reference. Condition: its numbers are of 64 bits. -/
import Derived.Test.YtebnjhfmlihjcaaWnu
import Derived.Test.YtebnjhfmlihjcaaWpo
import Derived.Test.YtebnjhfmlihjcaaWra0
import Derived.Test.YtebnjhfmlihjcaaWra1
import Derived.Test.YtebnjhfmlihjcaaWra2
import Derived.Test.YtebnjhfmlihjcaaWra3
namespace Go.Proofs.Ytebnjhfmlihjcaa.Wrs
set_option maxRecDepth 100000
open Go.ChangeShapes Go.WideShapes Go.ChangeAt Go.RowKit Mem Tre Ref3 Law3 Fix3 CrdB Wpl Wmr Wrt Rul6 Tl5
theorem rright_any (m : M) (w : World) : Calls Try.prog 13 #[mvl m] w (MadeBl (rightM m) w) := by
  obtain ⟨k, a, s, x, p, q, n, t, i, y, z, v⟩ := m
  show Calls Try.prog 13 #[.agg #[.int .i64 k, .int .i64 a, .int .i64 s, .bool x, .int .i64 p, .int .i64 q, .int .i64 n, .int .i64 t, .int .i64 i, .int .i64 y, .int .i64 z, .int .i64 v]] w (MadeBl (rightM ⟨k, a, s, x, p, q, n, t, i, y, z, v⟩) w)
  generalize hA : alM ⟨k, a, s, x, p, q, n, t, i, y, z, v⟩ = A
  obtain ⟨k2, a2, s2, x2, p2, q2, n2, t2, i2, y2, z2, v2⟩ := A
  have hof : rightM ⟨k, a, s, x, p, q, n, t, i, y, z, v⟩ = true → 0 ≤ k ∧ k ≤ 6 ∧ eqM ⟨k2, a2, s2, x2, p2, q2, n2, t2, i2, y2, z2, v2⟩ ⟨k, a, s, x, p, q, n, t, i, y, z, v⟩ = true ∧ fitP ⟨k, a, s, x, p, q, n, t, i, y, z, v⟩ := by
    intro h
    obtain ⟨r1, r2, r3, r4⟩ := rightM_of h
    exact ⟨r1, r2, by rw [← hA, ← r3]; exact eqM_self _, r4⟩
  have htr : 0 ≤ k → k ≤ 6 → eqM ⟨k2, a2, s2, x2, p2, q2, n2, t2, i2, y2, z2, v2⟩ ⟨k, a, s, x, p, q, n, t, i, y, z, v⟩ = true → fitP ⟨k, a, s, x, p, q, n, t, i, y, z, v⟩ → rightM ⟨k, a, s, x, p, q, n, t, i, y, z, v⟩ = true := by
    intro r1 r2 r3 r4
    exact rightM_t r1 r2 (by rw [hA]; exact ((eqM_iff _ _).1 r3).symm) r4
  unfold fitP at hof htr
  simp only [] at hof htr
  by_cases c0 : decide (0 ≤ k) = true
  case neg =>
    have d : decide (0 ≤ k) = false := by cases hd : decide (0 ≤ k) with | false => rfl | true => exact absurd hd c0
    have e : rightM ⟨k, a, s, x, p, q, n, t, i, y, z, v⟩ = false := by
      cases er : rightM ⟨k, a, s, x, p, q, n, t, i, y, z, v⟩ with
      | false => rfl
      | true =>
        obtain ⟨y0, y1, y2, y3⟩ := hof er
        exfalso
        simp at d; omega
    rw [e]
    exact Wra0.rr0 k a s p q n t i y z v k2 a2 s2 p2 q2 n2 t2 i2 y2 z2 v2 x x2 w hA  d
  by_cases c1 : decide (k ≤ 6) = true
  case neg =>
    have d : decide (k ≤ 6) = false := by cases hd : decide (k ≤ 6) with | false => rfl | true => exact absurd hd c1
    have e : rightM ⟨k, a, s, x, p, q, n, t, i, y, z, v⟩ = false := by
      cases er : rightM ⟨k, a, s, x, p, q, n, t, i, y, z, v⟩ with
      | false => rfl
      | true =>
        obtain ⟨y0, y1, y2, y3⟩ := hof er
        exfalso
        simp at d; omega
    rw [e]
    exact Wra0.rr1 k a s p q n t i y z v k2 a2 s2 p2 q2 n2 t2 i2 y2 z2 v2 x x2 w hA c0 d
  by_cases c2 : eqM ⟨k2, a2, s2, x2, p2, q2, n2, t2, i2, y2, z2, v2⟩ ⟨k, a, s, x, p, q, n, t, i, y, z, v⟩ = true
  case neg =>
    have d : eqM ⟨k2, a2, s2, x2, p2, q2, n2, t2, i2, y2, z2, v2⟩ ⟨k, a, s, x, p, q, n, t, i, y, z, v⟩ = false := by cases hd : eqM ⟨k2, a2, s2, x2, p2, q2, n2, t2, i2, y2, z2, v2⟩ ⟨k, a, s, x, p, q, n, t, i, y, z, v⟩ with | false => rfl | true => exact absurd hd c2
    have e : rightM ⟨k, a, s, x, p, q, n, t, i, y, z, v⟩ = false := by
      cases er : rightM ⟨k, a, s, x, p, q, n, t, i, y, z, v⟩ with
      | false => rfl
      | true =>
        obtain ⟨y0, y1, y2, y3⟩ := hof er
        exfalso
        rw [y2] at d; cases d
    rw [e]
    exact Wra0.rr2 k a s p q n t i y z v k2 a2 s2 p2 q2 n2 t2 i2 y2 z2 v2 x x2 w hA c0 c1 d
  by_cases c3 : (decide (0 ≤ a) && decide (a ≤ 65535)) = true
  case neg =>
    have d : (decide (0 ≤ a) && decide (a ≤ 65535)) = false := by cases hd : (decide (0 ≤ a) && decide (a ≤ 65535)) with | false => rfl | true => exact absurd hd c3
    have e : rightM ⟨k, a, s, x, p, q, n, t, i, y, z, v⟩ = false := by
      cases er : rightM ⟨k, a, s, x, p, q, n, t, i, y, z, v⟩ with
      | false => rfl
      | true =>
        obtain ⟨y0, y1, y2, y3⟩ := hof er
        exfalso
        simp at d; omega
    rw [e]
    exact Wra0.rr3 k a s p q n t i y z v k2 a2 s2 p2 q2 n2 t2 i2 y2 z2 v2 x x2 w hA c0 c1 c2 d
  by_cases c4 : (decide (0 ≤ s) && decide (s ≤ 65535)) = true
  case neg =>
    have d : (decide (0 ≤ s) && decide (s ≤ 65535)) = false := by cases hd : (decide (0 ≤ s) && decide (s ≤ 65535)) with | false => rfl | true => exact absurd hd c4
    have e : rightM ⟨k, a, s, x, p, q, n, t, i, y, z, v⟩ = false := by
      cases er : rightM ⟨k, a, s, x, p, q, n, t, i, y, z, v⟩ with
      | false => rfl
      | true =>
        obtain ⟨y0, y1, y2, y3⟩ := hof er
        exfalso
        simp at d; omega
    rw [e]
    exact Wra1.rr4 k a s p q n t i y z v k2 a2 s2 p2 q2 n2 t2 i2 y2 z2 v2 x x2 w hA c0 c1 c2 c3 d
  by_cases c5 : (decide (0 ≤ z) && decide (z ≤ 65535)) = true
  case neg =>
    have d : (decide (0 ≤ z) && decide (z ≤ 65535)) = false := by cases hd : (decide (0 ≤ z) && decide (z ≤ 65535)) with | false => rfl | true => exact absurd hd c5
    have e : rightM ⟨k, a, s, x, p, q, n, t, i, y, z, v⟩ = false := by
      cases er : rightM ⟨k, a, s, x, p, q, n, t, i, y, z, v⟩ with
      | false => rfl
      | true =>
        obtain ⟨y0, y1, y2, y3⟩ := hof er
        exfalso
        simp at d; omega
    rw [e]
    exact Wra1.rr5 k a s p q n t i y z v k2 a2 s2 p2 q2 n2 t2 i2 y2 z2 v2 x x2 w hA c0 c1 c2 c3 c4 d
  by_cases c6 : decide (0 ≤ i) = true
  case neg =>
    have d : decide (0 ≤ i) = false := by cases hd : decide (0 ≤ i) with | false => rfl | true => exact absurd hd c6
    have e : rightM ⟨k, a, s, x, p, q, n, t, i, y, z, v⟩ = false := by
      cases er : rightM ⟨k, a, s, x, p, q, n, t, i, y, z, v⟩ with
      | false => rfl
      | true =>
        obtain ⟨y0, y1, y2, y3⟩ := hof er
        exfalso
        simp at d; omega
    rw [e]
    exact Wra1.rr6 k a s p q n t i y z v k2 a2 s2 p2 q2 n2 t2 i2 y2 z2 v2 x x2 w hA c0 c1 c2 c3 c4 c5 d
  by_cases c7 : decide (i ≤ 4294967295) = true
  case neg =>
    have d : decide (i ≤ 4294967295) = false := by cases hd : decide (i ≤ 4294967295) with | false => rfl | true => exact absurd hd c7
    have e : rightM ⟨k, a, s, x, p, q, n, t, i, y, z, v⟩ = false := by
      cases er : rightM ⟨k, a, s, x, p, q, n, t, i, y, z, v⟩ with
      | false => rfl
      | true =>
        obtain ⟨y0, y1, y2, y3⟩ := hof er
        exfalso
        simp at d; omega
    rw [e]
    exact Wra1.rr7 k a s p q n t i y z v k2 a2 s2 p2 q2 n2 t2 i2 y2 z2 v2 x x2 w hA c0 c1 c2 c3 c4 c5 c6 d
  by_cases c8 : decide (0 ≤ p) = true
  case neg =>
    have d : decide (0 ≤ p) = false := by cases hd : decide (0 ≤ p) with | false => rfl | true => exact absurd hd c8
    have e : rightM ⟨k, a, s, x, p, q, n, t, i, y, z, v⟩ = false := by
      cases er : rightM ⟨k, a, s, x, p, q, n, t, i, y, z, v⟩ with
      | false => rfl
      | true =>
        obtain ⟨y0, y1, y2, y3⟩ := hof er
        exfalso
        simp at d; omega
    rw [e]
    exact Wra2.rr8 k a s p q n t i y z v k2 a2 s2 p2 q2 n2 t2 i2 y2 z2 v2 x x2 w hA c0 c1 c2 c3 c4 c5 c6 c7 d
  by_cases c9 : decide (0 ≤ q) = true
  case neg =>
    have d : decide (0 ≤ q) = false := by cases hd : decide (0 ≤ q) with | false => rfl | true => exact absurd hd c9
    have e : rightM ⟨k, a, s, x, p, q, n, t, i, y, z, v⟩ = false := by
      cases er : rightM ⟨k, a, s, x, p, q, n, t, i, y, z, v⟩ with
      | false => rfl
      | true =>
        obtain ⟨y0, y1, y2, y3⟩ := hof er
        exfalso
        simp at d; omega
    rw [e]
    exact Wra2.rr9 k a s p q n t i y z v k2 a2 s2 p2 q2 n2 t2 i2 y2 z2 v2 x x2 w hA c0 c1 c2 c3 c4 c5 c6 c7 c8 d
  by_cases c10 : decide (0 ≤ n) = true
  case neg =>
    have d : decide (0 ≤ n) = false := by cases hd : decide (0 ≤ n) with | false => rfl | true => exact absurd hd c10
    have e : rightM ⟨k, a, s, x, p, q, n, t, i, y, z, v⟩ = false := by
      cases er : rightM ⟨k, a, s, x, p, q, n, t, i, y, z, v⟩ with
      | false => rfl
      | true =>
        obtain ⟨y0, y1, y2, y3⟩ := hof er
        exfalso
        simp at d; omega
    rw [e]
    exact Wra2.rr10 k a s p q n t i y z v k2 a2 s2 p2 q2 n2 t2 i2 y2 z2 v2 x x2 w hA c0 c1 c2 c3 c4 c5 c6 c7 c8 c9 d
  by_cases c11 : decide (0 ≤ t) = true
  case neg =>
    have d : decide (0 ≤ t) = false := by cases hd : decide (0 ≤ t) with | false => rfl | true => exact absurd hd c11
    have e : rightM ⟨k, a, s, x, p, q, n, t, i, y, z, v⟩ = false := by
      cases er : rightM ⟨k, a, s, x, p, q, n, t, i, y, z, v⟩ with
      | false => rfl
      | true =>
        obtain ⟨y0, y1, y2, y3⟩ := hof er
        exfalso
        simp at d; omega
    rw [e]
    exact Wra2.rr11 k a s p q n t i y z v k2 a2 s2 p2 q2 n2 t2 i2 y2 z2 v2 x x2 w hA c0 c1 c2 c3 c4 c5 c6 c7 c8 c9 c10 d
  by_cases c12 : decide (0 ≤ y) = true
  case neg =>
    have d : decide (0 ≤ y) = false := by cases hd : decide (0 ≤ y) with | false => rfl | true => exact absurd hd c12
    have e : rightM ⟨k, a, s, x, p, q, n, t, i, y, z, v⟩ = false := by
      cases er : rightM ⟨k, a, s, x, p, q, n, t, i, y, z, v⟩ with
      | false => rfl
      | true =>
        obtain ⟨y0, y1, y2, y3⟩ := hof er
        exfalso
        simp at d; omega
    rw [e]
    exact Wra3.rr12 k a s p q n t i y z v k2 a2 s2 p2 q2 n2 t2 i2 y2 z2 v2 x x2 w hA c0 c1 c2 c3 c4 c5 c6 c7 c8 c9 c10 c11 d
  by_cases c13 : decide (0 ≤ v) = true
  case neg =>
    have d : decide (0 ≤ v) = false := by cases hd : decide (0 ≤ v) with | false => rfl | true => exact absurd hd c13
    have e : rightM ⟨k, a, s, x, p, q, n, t, i, y, z, v⟩ = false := by
      cases er : rightM ⟨k, a, s, x, p, q, n, t, i, y, z, v⟩ with
      | false => rfl
      | true =>
        obtain ⟨y0, y1, y2, y3⟩ := hof er
        exfalso
        simp at d; omega
    rw [e]
    exact Wra3.rr13 k a s p q n t i y z v k2 a2 s2 p2 q2 n2 t2 i2 y2 z2 v2 x x2 w hA c0 c1 c2 c3 c4 c5 c6 c7 c8 c9 c10 c11 c12 d
  have e : rightM ⟨k, a, s, x, p, q, n, t, i, y, z, v⟩ = true := by
    refine htr ?_ ?_ c2 ?_
    · simpa using c0
    · simpa using c1
    · simp at c3 c4 c5 c6 c7 c8 c9 c10 c11 c12 c13
      omega
  rw [e]
  exact Wra3.rr14 k a s p q n t i y z v k2 a2 s2 p2 q2 n2 t2 i2 y2 z2 v2 x x2 w hA c0 c1 c2 c3 c4 c5 c6 c7 c8 c9 c10 c11 c12 c13
end Go.Proofs.Ytebnjhfmlihjcaa.Wrs
namespace Go.Proofs.Ytebnjhfmlihjcaa.Wre
set_option maxRecDepth 100000
open Go.ChangeShapes Go.WideShapes Go.ChangeAt Go.RowKit Mem Tre Ref3 Law3 Fix3 CrdB CrdC Rr4 Wpl Wmr Wrt St7 Rul6 Wen Wnu Tl5 Wpo Wrs
set_option linter.unusedVariables false
set_option linter.unusedSimpArgs false
/-- bytes in new memory -/
def MadeBs (l : List UInt8) (w : World) (e : Ending) (w' : World) : Prop := ∃ A c, e = .returned (.slice A l.length c) ∧ By w' w'.heap.size A l ∧ Below w.heap.size w w'
/-- a row of bytes of the call's own -/
structure Row (w W : World) (base : Nat) (A : Option Addr) (c : Nat) (L : List UInt8) : Prop where
  r : W.ownsRow base 5 1 (.slice A L.length c) L.length (bts L)
  b : Below w.heap.size w W
  z : base ≤ W.heap.size
  h : w.heap.size ≤ base
theorem Row.drew {w W : World} {base c : Nat} {A : Option Addr} {L : List UInt8} (h : Row w W base A c L) : Row w W.drew base A c L := ⟨h.r, h.b.drew, h.z, h.h⟩
theorem Row.below {w W W' : World} {base c : Nat} {A : Option Addr} {L : List UInt8} (h : Row w W base A c L) (hb : Below W.heap.size W W') : Row w W' base A c L :=
  ⟨own_below h.r hb, below_step h.b hb, Nat.le_trans h.z hb.size, h.h⟩
theorem Row.grown {w W W' : World} {base c c' nm : Nat} {A A' : Option Addr} {L P L' : List UInt8} (h : Row w W base A c L) (ho : Hid (W'.ownsRow base 5 1 (.slice A' nm c') nm (bts L ++ bts P))) (hL : L' = L ++ P) (hnm : nm = L'.length) (hg : W.grownBy W' (Value.slice A L.length c).ownBlock) : Row w W' base A' c' L' := by
  subst hnm
  refine ⟨?_, h.b.grown hg h.b.size (fun k hk => ?_), Nat.le_trans h.z hg.size, h.h⟩
  · have := ho.out
    rw [← bts_app] at this
    rw [hL] at this ⊢
    exact this
  · have := World.ownsRow.lt h.r k hk
    have := h.h
    omega
theorem num_p {n size : Nat} {P : List UInt8} (hP : Hid (putB n size = P)) (w : World) (hn1 : (n : Int) ≤ 9223372036854775807) (hs : size ≤ 8) :
    Calls Try.prog 36 #[.int .i64 n, .int .i64 size] w (MadeBy w.heap.size P w) := by
  have := num_any n size w hn1 hs
  rwa [hP.out] at this
theorem twelve {W : World} {g : Nat} {te : TypeId} {v0 v1 v2 v3 v4 v5 v6 v7 v8 v9 v10 v11 : Value} (h : Blk W g te #[v0, v1, v2, v3, v4, v5, v6, v7, v8, v9, v10, v11]) (i : Nat) : W.cell? ⟨g, i, none⟩ = #[v0, v1, v2, v3, v4, v5, v6, v7, v8, v9, v10, v11][i]? := h.cell i

set_option maxHeartbeats 16000000 in
theorem rencode_any (m : M) (w : World) (hwf : WfM m) : Calls Try.prog 14 #[mvl m] w (MadeBs (encB m) w) := by
  obtain ⟨i0, hi, hz0, hz1, hz2⟩ := info_parts u8_info
  obtain ⟨k, a, s, x, p, q, n, t, i, y, z, v⟩ := m
  obtain ⟨wk, wa, ws, wp, wq, wn, wt, wi, wy, wz, wv⟩ := hwf
  simp only [inI] at wk wa ws wp wq wn wt wi wy wz wv
  show Calls Try.prog 14 #[.agg #[.int .i64 k, .int .i64 a, .int .i64 s, .bool x, .int .i64 p, .int .i64 q, .int .i64 n, .int .i64 t, .int .i64 i, .int .i64 y, .int .i64 z, .int .i64 v]] w (MadeBs (encB ⟨k, a, s, x, p, q, n, t, i, y, z, v⟩) w)
  cases hR : rightM ⟨k, a, s, x, p, q, n, t, i, y, z, v⟩ with
  | false =>
    have b0 : Hid (Below w.heap.size w (w.alloc (.cells #[.int .i64 k, .int .i64 a, .int .i64 s, .bool x, .int .i64 p, .int .i64 q, .int .i64 n, .int .i64 t, .int .i64 i, .int .i64 y, .int .i64 z, .int .i64 v] 25))) := (Below.refl _ _).alloc (Nat.le_refl _) _
    have he : encB ⟨k, a, s, x, p, q, n, t, i, y, z, v⟩ = [] := by unfold encB; rw [hR]; rfl
    rw [he]
    have HR := Lib.hid hR
    clear hR wk wa ws wp wq wn wt wi wy wz wv
    go_enter Try.func14, Try.ntmps14
    go_wp2_with fail
    refine (rright_any ⟨k, a, s, x, p, q, n, t, i, y, z, v⟩ _).mono ?_
    rintro e w1 ⟨rfl, hb1⟩
    rw [HR.out]
    have b1 := below_step b0.out hb1
    go_wp2_with fail
    go_ret
    exact ⟨none, 0, rfl, .inl rfl, b1⟩
  | true =>
    obtain ⟨hk0, hk6, -, fa, fs, fz, fi, fp, fq, fn, ft, fy, fv⟩ := rightM_of hR
    simp only [] at hk0 hk6 fa fs fz fi fp fq fn ft fy fv
    obtain ⟨a, rfl⟩ : ∃ a' : Nat, a = a' := ⟨a.toNat, by omega⟩
    obtain ⟨s, rfl⟩ : ∃ s' : Nat, s = s' := ⟨s.toNat, by omega⟩
    obtain ⟨p, rfl⟩ : ∃ p' : Nat, p = p' := ⟨p.toNat, by omega⟩
    obtain ⟨q, rfl⟩ : ∃ q' : Nat, q = q' := ⟨q.toNat, by omega⟩
    obtain ⟨n, rfl⟩ : ∃ n' : Nat, n = n' := ⟨n.toNat, by omega⟩
    obtain ⟨t, rfl⟩ : ∃ t' : Nat, t = t' := ⟨t.toNat, by omega⟩
    obtain ⟨i, rfl⟩ : ∃ i' : Nat, i = i' := ⟨i.toNat, by omega⟩
    obtain ⟨y, rfl⟩ : ∃ y' : Nat, y = y' := ⟨y.toNat, by omega⟩
    obtain ⟨z, rfl⟩ : ∃ z' : Nat, z = z' := ⟨z.toNat, by omega⟩
    obtain ⟨v, rfl⟩ : ∃ v' : Nat, v = v' := ⟨v.toNat, by omega⟩
    have b0 : Hid (Below w.heap.size w (w.alloc (.cells #[.int .i64 k, .int .i64 (a : Int), .int .i64 (s : Int), .bool x, .int .i64 (p : Int), .int .i64 (q : Int), .int .i64 (n : Int), .int .i64 (t : Int), .int .i64 (i : Int), .int .i64 (y : Int), .int .i64 (z : Int), .int .i64 (v : Int)] 25))) := (Below.refl _ _).alloc (Nat.le_refl _) _
    have K0 : Hid (Blk (w.alloc (.cells #[.int .i64 k, .int .i64 (a : Int), .int .i64 (s : Int), .bool x, .int .i64 (p : Int), .int .i64 (q : Int), .int .i64 (n : Int), .int .i64 (t : Int), .int .i64 (i : Int), .int .i64 (y : Int), .int .i64 (z : Int), .int .i64 (v : Int)] 25)) w.heap.size 25 #[.int .i64 k, .int .i64 (a : Int), .int .i64 (s : Int), .bool x, .int .i64 (p : Int), .int .i64 (q : Int), .int .i64 (n : Int), .int .i64 (t : Int), .int .i64 (i : Int), .int .i64 (y : Int), .int .i64 (z : Int), .int .i64 (v : Int)]) := Blk.fresh w _ _
    have he : Hid (encB ⟨k, (a : Int), (s : Int), x, (p : Int), (q : Int), (n : Int), (t : Int), (i : Int), (y : Int), (z : Int), (v : Int)⟩ = [byt k.toNat 0] ++ bodB ⟨k, (a : Int), (s : Int), x, (p : Int), (q : Int), (n : Int), (t : Int), (i : Int), (y : Int), (z : Int), (v : Int)⟩) := by show _ = _; unfold encB; rw [hR]; rfl
    generalize encB ⟨k, (a : Int), (s : Int), x, (p : Int), (q : Int), (n : Int), (t : Int), (i : Int), (y : Int), (z : Int), (v : Int)⟩ = E at he ⊢
    have hbk : Hid (k % 256 = ((byt k.toNat 0).toNat : Int)) := by show _ = _; rw [byt_nat]; simp; omega
    have Ba : Hid ((a : Int) ≤ 9223372036854775807) := by show _ ≤ _; omega
    have Bs : Hid ((s : Int) ≤ 9223372036854775807) := by show _ ≤ _; omega
    have Bp : Hid ((p : Int) ≤ 9223372036854775807) := wp.2
    have Bq : Hid ((q : Int) ≤ 9223372036854775807) := wq.2
    have Bn : Hid ((n : Int) ≤ 9223372036854775807) := wn.2
    have Bt : Hid ((t : Int) ≤ 9223372036854775807) := wt.2
    have Bi : Hid ((i : Int) ≤ 9223372036854775807) := by show _ ≤ _; omega
    have By' : Hid ((y : Int) ≤ 9223372036854775807) := wy.2
    have Bz : Hid ((z : Int) ≤ 9223372036854775807) := by show _ ≤ _; omega
    have Bv : Hid ((v : Int) ≤ 9223372036854775807) := wv.2
    have HK : Hid (0 ≤ k ∧ k ≤ 6) := ⟨hk0, hk6⟩
    clear hk0 hk6 fa fs fz fi fp fq fn ft fy fv wk wa ws wp wq wn wt wi wy wz wv
    have HR := Lib.hid hR
    clear hR
    go_enter Try.func14, Try.ntmps14
    go_wp2_with fail
    refine (rright_any ⟨k, (a : Int), (s : Int), x, (p : Int), (q : Int), (n : Int), (t : Int), (i : Int), (y : Int), (z : Int), (v : Int)⟩ _).mono ?_
    rintro e w1 ⟨rfl, hb1⟩
    rw [HR.out]
    have b1 : Hid (Below w.heap.size w w1) := below_step b0.out hb1
    have K1 : Hid (Blk w1 w.heap.size 25 #[.int .i64 k, .int .i64 (a : Int), .int .i64 (s : Int), .bool x, .int .i64 (p : Int), .int .i64 (q : Int), .int .i64 (n : Int), .int .i64 (t : Int), .int .i64 (i : Int), .int .i64 (y : Int), .int .i64 (z : Int), .int .i64 (v : Int)]) := Blk.below' K0.out hb1
    clear b0 K0 hb1
    have hgw : w.heap.size < w1.heap.size := K1.out.lt
    obtain ⟨j0, j1, j2, j3, j4, j5, j6, j7, j8, j9, j10, j11⟩ := c12_of K1.out
    go_upto_region 4 with fail
    clear j0 j1 j2 j3 j4 j5 j6 j7 j8 j9 j10 j11
    have RW : Hid (Row w (w1.alloc (.cells #[.int .u8 (k % 256)] 5)) w1.heap.size (some ⟨w1.heap.size, 0, none⟩) 1 [byt k.toNat 0]) :=
      ⟨own_oneB (Blk.fresh _ _ _) hbk.out (Nat.le_refl _), b1.out.alloc b1.out.size _, by simp, Nat.le_of_lt hgw⟩
    have KX : Hid (Blk (w1.alloc (.cells #[.int .u8 (k % 256)] 5)) w.heap.size 25 #[.int .i64 k, .int .i64 (a : Int), .int .i64 (s : Int), .bool x, .int .i64 (p : Int), .int .i64 (q : Int), .int .i64 (n : Int), .int .i64 (t : Int), .int .i64 (i : Int), .int .i64 (y : Int), .int .i64 (z : Int), .int .i64 (v : Int)]) := K1.out.alloc _
    clear b1 K1
    generalize (w1.alloc (.cells #[.int .u8 (k % 256)] 5)) = wX at RW KX ⊢
    obtain ⟨j0, j1, j2, j3, j4, j5, j6, j7, j8, j9, j10, j11⟩ := c12_of KX.out
    have lnL0 : ([byt k.toNat 0] : List UInt8).length = 1 := rfl
    by_cases k0 : k = 0
    · have q0 : (k == 0) = true := beq_iff_eq.2 k0
      obtain ⟨P1, hP1⟩ : ∃ P, putB a 2 = P := ⟨_, rfl⟩
      have HP1 : Hid (putB a 2 = P1) := hP1
      have YP1 : Hid (P1.length = 2) := by show _ = _; rw [← hP1, putB_len]
      clear hP1
      obtain ⟨P2, hP2⟩ : ∃ P, putB s 2 = P := ⟨_, rfl⟩
      have HP2 : Hid (putB s 2 = P2) := hP2
      have YP2 : Hid (P2.length = 2) := by show _ = _; rw [← hP2, putB_len]
      clear hP2
      obtain ⟨P3, hP3⟩ : ∃ P, putB p 8 = P := ⟨_, rfl⟩
      have HP3 : Hid (putB p 8 = P3) := hP3
      have YP3 : Hid (P3.length = 8) := by show _ = _; rw [← hP3, putB_len]
      clear hP3
      obtain ⟨P4, hP4⟩ : ∃ P, putB q 8 = P := ⟨_, rfl⟩
      have HP4 : Hid (putB q 8 = P4) := hP4
      have YP4 : Hid (P4.length = 8) := by show _ = _; rw [← hP4, putB_len]
      clear hP4
      obtain ⟨P5, hP5⟩ : ∃ P, putB n 8 = P := ⟨_, rfl⟩
      have HP5 : Hid (putB n 8 = P5) := hP5
      have YP5 : Hid (P5.length = 8) := by show _ = _; rw [← hP5, putB_len]
      clear hP5
      obtain ⟨P6, hP6⟩ : ∃ P, putB t 8 = P := ⟨_, rfl⟩
      have HP6 : Hid (putB t 8 = P6) := hP6
      have YP6 : Hid (P6.length = 8) := by show _ = _; rw [← hP6, putB_len]
      clear hP6
      obtain ⟨PB, hPB⟩ : ∃ P, P = [bitB x] := ⟨_, rfl⟩
      have YPB : Hid (PB.length = 1) := by show _ = _; rw [hPB]; rfl
      have HPB := Lib.hid hPB
      clear hPB
      obtain ⟨L1, hL1⟩ : ∃ L, L = [byt k.toNat 0] ++ P1 := ⟨_, rfl⟩
      have HL1 : Hid (L1 = [byt k.toNat 0] ++ P1) := hL1
      have NL1 : Hid (L1.length = [byt k.toNat 0].length + P1.length) := by show _ = _; rw [hL1, List.length_append]
      have XL1 : Hid (L1.length = 3) := by show _ = _; rw [NL1.out, YP1.out] <;> rfl
      have FL1 : Hid ([byt k.toNat 0].length + P1.length ≤ 100) := by show _ ≤ _; rw [← NL1.out, XL1.out]; decide
      clear hL1
      obtain ⟨L2, hL2⟩ : ∃ L, L = L1 ++ P2 := ⟨_, rfl⟩
      have HL2 : Hid (L2 = L1 ++ P2) := hL2
      have NL2 : Hid (L2.length = L1.length + P2.length) := by show _ = _; rw [hL2, List.length_append]
      have XL2 : Hid (L2.length = 5) := by show _ = _; rw [NL2.out, XL1.out, YP2.out] <;> rfl
      have FL2 : Hid (L1.length + P2.length ≤ 100) := by show _ ≤ _; rw [← NL2.out, XL2.out]; decide
      clear hL2
      obtain ⟨L3, hL3⟩ : ∃ L, L = L2 ++ PB := ⟨_, rfl⟩
      have HL3 : Hid (L3 = L2 ++ PB) := hL3
      have NL3 : Hid (L3.length = L2.length + PB.length) := by show _ = _; rw [hL3, List.length_append]
      have XL3 : Hid (L3.length = 6) := by show _ = _; rw [NL3.out, XL2.out, YPB.out] <;> rfl
      have FL3 : Hid (L2.length + PB.length ≤ 100) := by show _ ≤ _; rw [← NL3.out, XL3.out]; decide
      clear hL3
      obtain ⟨L4, hL4⟩ : ∃ L, L = L3 ++ P3 := ⟨_, rfl⟩
      have HL4 : Hid (L4 = L3 ++ P3) := hL4
      have NL4 : Hid (L4.length = L3.length + P3.length) := by show _ = _; rw [hL4, List.length_append]
      have XL4 : Hid (L4.length = 14) := by show _ = _; rw [NL4.out, XL3.out, YP3.out] <;> rfl
      have FL4 : Hid (L3.length + P3.length ≤ 100) := by show _ ≤ _; rw [← NL4.out, XL4.out]; decide
      clear hL4
      obtain ⟨L5, hL5⟩ : ∃ L, L = L4 ++ P4 := ⟨_, rfl⟩
      have HL5 : Hid (L5 = L4 ++ P4) := hL5
      have NL5 : Hid (L5.length = L4.length + P4.length) := by show _ = _; rw [hL5, List.length_append]
      have XL5 : Hid (L5.length = 22) := by show _ = _; rw [NL5.out, XL4.out, YP4.out] <;> rfl
      have FL5 : Hid (L4.length + P4.length ≤ 100) := by show _ ≤ _; rw [← NL5.out, XL5.out]; decide
      clear hL5
      obtain ⟨L6, hL6⟩ : ∃ L, L = L5 ++ P5 := ⟨_, rfl⟩
      have HL6 : Hid (L6 = L5 ++ P5) := hL6
      have NL6 : Hid (L6.length = L5.length + P5.length) := by show _ = _; rw [hL6, List.length_append]
      have XL6 : Hid (L6.length = 30) := by show _ = _; rw [NL6.out, XL5.out, YP5.out] <;> rfl
      have FL6 : Hid (L5.length + P5.length ≤ 100) := by show _ ≤ _; rw [← NL6.out, XL6.out]; decide
      clear hL6
      obtain ⟨L7, hL7⟩ : ∃ L, L = L6 ++ P6 := ⟨_, rfl⟩
      have HL7 : Hid (L7 = L6 ++ P6) := hL7
      have NL7 : Hid (L7.length = L6.length + P6.length) := by show _ = _; rw [hL7, List.length_append]
      have XL7 : Hid (L7.length = 38) := by show _ = _; rw [NL7.out, XL6.out, YP6.out] <;> rfl
      have FL7 : Hid (L6.length + P6.length ≤ 100) := by show _ ≤ _; rw [← NL7.out, XL7.out]; decide
      clear hL7
      have hE : Hid (L7 = E) := by
        show _ = _
        rw [he.out]
        unfold bodB ordB
        rw [if_pos k0]
        simp only [Int.toNat_natCast]
        rw [HL7.out, HL6.out, HL5.out, HL4.out, HL3.out, HL2.out, HL1.out, HP1.out, HP2.out, HP3.out, HP4.out, HP5.out, HP6.out, HPB.out]
        simp only [List.append_assoc]
      have N3 : Hid (L2.length + 1 = L3.length) := by show _ = _; rw [XL3.out, XL2.out]
      clear he k0
      go_upto_region 7 with fail
      clear j0 j1 j2 j3 j4 j5 j6 j7 j8 j9 j10 j11
      have RW2 : Hid (Row w (wX.alloc (.cells #[.int .i64 (a : Int), .int .i64 (s : Int), .bool x, .int .i64 (p : Int), .int .i64 (q : Int), .int .i64 (n : Int), .int .i64 (t : Int)] 23)) w1.heap.size (some ⟨w1.heap.size, 0, none⟩) 1 [byt k.toNat 0]) := RW.out.below ((Below.refl _ _).alloc (Nat.le_refl _) _)
      have KX2 : Hid (Blk (wX.alloc (.cells #[.int .i64 (a : Int), .int .i64 (s : Int), .bool x, .int .i64 (p : Int), .int .i64 (q : Int), .int .i64 (n : Int), .int .i64 (t : Int)] 23)) wX.heap.size 23 #[.int .i64 (a : Int), .int .i64 (s : Int), .bool x, .int .i64 (p : Int), .int .i64 (q : Int), .int .i64 (n : Int), .int .i64 (t : Int)]) := Blk.fresh _ _ _
      clear RW KX
      generalize (wX.alloc (.cells #[.int .i64 (a : Int), .int .i64 (s : Int), .bool x, .int .i64 (p : Int), .int .i64 (q : Int), .int .i64 (n : Int), .int .i64 (t : Int)] 23)) = wY at RW2 KX2 ⊢
      generalize wX.heap.size = gO at KX2 ⊢
      have RW := RW2
      have KX := KX2
      clear RW2 KX2
      go_upto_region 7 with fail
      have RD : Hid (Row w wY.drew w1.heap.size (some ⟨w1.heap.size, 0, none⟩) 1 [byt k.toNat 0]) := RW.out.drew
      have KD : Hid (Blk wY.drew gO 23 #[.int .i64 (a : Int), .int .i64 (s : Int), .bool x, .int .i64 (p : Int), .int .i64 (q : Int), .int .i64 (n : Int), .int .i64 (t : Int)]) := KX.out
      have qd : wY.drew.cell? ⟨gO, 0, none⟩ = some (.int .i64 (a : Int)) ∧ wY.drew.cell? ⟨gO, 1, none⟩ = some (.int .i64 (s : Int)) := ⟨KD.out.cell 0, KD.out.cell 1⟩
      refine wp_region_held_drew (S := (fun w' => w'.cell? ⟨gO, 0, none⟩ = some (.int .i64 (a : Int)) ∧ w'.cell? ⟨gO, 1, none⟩ = some (.int .i64 (s : Int)))) (by kernel_rfl) qd (fun hHeld => ?_)
      refine wpAnyH_take (i := 0) (v := ?_) rfl (by kernel_rfl) (by kernel_rfl) (by kernel_rfl) (fun _ _ _ h => h) (Or.inl ⟨by rfl, ?_⟩) (by assumption) ?_
      rotate_left
      · intro w' hSw
        (try dsimp only at hSw)
        go_simp
        try with_reducible rfl
      (try simp only [Act.put, List.getElem_toArray, List.getElem_cons_succ, List.getElem_cons_zero, List.setIfInBounds_toArray, List.set_cons_zero, List.set_cons_succ])
      refine wpAnyH_take (i := 1) (v := ?_) rfl (by kernel_rfl) (by kernel_rfl) (by kernel_rfl) (fun _ _ _ h => h) (Or.inl ⟨by rfl, ?_⟩) (by assumption) ?_
      rotate_left
      · intro w' hSw
        (try dsimp only at hSw)
        go_simp
        try with_reducible rfl
      (try simp only [Act.put, List.getElem_toArray, List.getElem_cons_succ, List.getElem_cons_zero, List.setIfInBounds_toArray, List.set_cons_zero, List.set_cons_succ])
      refine wpAnyH_take (i := 2) (v := ?_) rfl (by kernel_rfl) (by kernel_rfl) (by kernel_rfl) (fun _ _ _ h => h) (Or.inl ⟨by rfl, ?_⟩) (by assumption) ?_
      rotate_left
      · intro w' hSw
        (try dsimp only at hSw)
        go_simp
        try with_reducible rfl
      (try simp only [Act.put, List.getElem_toArray, List.getElem_cons_succ, List.getElem_cons_zero, List.setIfInBounds_toArray, List.set_cons_zero, List.set_cons_succ])
      refine wpAnyH_take (i := 5) (v := ?_) rfl (by kernel_rfl) (by kernel_rfl) (by kernel_rfl) (fun _ _ _ h => h) (Or.inl ⟨by rfl, ?_⟩) (by assumption) ?_
      rotate_left
      · intro w' hSw
        (try dsimp only at hSw)
        go_simp
        try with_reducible rfl
      (try simp only [Act.put, List.getElem_toArray, List.getElem_cons_succ, List.getElem_cons_zero, List.setIfInBounds_toArray, List.set_cons_zero, List.set_cons_succ])
      refine wpAnyH_take (i := 6) (v := ?_) rfl (by kernel_rfl) (by kernel_rfl) (by kernel_rfl) (fun _ _ _ h => h) (Or.inl ⟨by rfl, ?_⟩) (by assumption) ?_
      rotate_left
      · intro w' hSw
        (try dsimp only at hSw)
        go_simp
        try with_reducible rfl
      (try simp only [Act.put, List.getElem_toArray, List.getElem_cons_succ, List.getElem_cons_zero, List.setIfInBounds_toArray, List.set_cons_zero, List.set_cons_succ])
      refine wpAnyH_ready (rs := [3]) (by kernel_rfl) (by simp) ?_
      refine AllReadyH.cons rfl (fun K' hK => ?_) AllReadyH.nil
      go_simp
      refine (num_p HP1 _ (by have := Ba.out; omega) (by omega)).mono ?_
      rintro e wn ⟨An, cn, rfl, rn, bn, _⟩
      have RN : Hid (Row w wn w1.heap.size (some ⟨w1.heap.size, 0, none⟩) 1 [byt k.toNat 0]) := RD.out.below bn
      have KN : Hid (Blk wn gO 23 #[.int .i64 (a : Int), .int .i64 (s : Int), .bool x, .int .i64 (p : Int), .int .i64 (q : Int), .int .i64 (n : Int), .int .i64 (t : Int)]) := Blk.below' KD.out bn
      have YN : Hid (By wn wn.heap.size An P1) := Rd.of_own rn.out
      have qn : wn.cell? ⟨gO, 0, none⟩ = some (.int .i64 (a : Int)) ∧ wn.cell? ⟨gO, 1, none⟩ = some (.int .i64 (s : Int)) := ⟨KN.out.cell 0, KN.out.cell 1⟩
      clear rn bn
      go_wp2_with fail
      refine hK.out _ _ qn (fun hHeld => ?_)
      clear hK K'
      (try simp only [Act.put, List.getElem_toArray, List.getElem_cons_succ, List.getElem_cons_zero, List.setIfInBounds_toArray, List.set_cons_zero, List.set_cons_succ])
      refine wpAnyH_ready (rs := [4]) (by kernel_rfl) (by simp) ?_
      refine AllReadyH.cons rfl (fun K' hK => ?_) AllReadyH.nil
      
      refine step_appG (v := .slice (some ⟨w1.heap.size, 0, none⟩) [byt k.toNat 0].length 1) (n := [byt k.toNat 0].length) (m := P1.length) (nm := L1.length) (base := w1.heap.size) RN.out.r YN NL1.out rfl (.tmp 18) (.tmp 21) 26 rfl i0 (.int .u8 0) 1 Try.underlying26 hi hz0 hz1 hz2 rfl (by decide) rfl rfl (by rw [bts_len]; simp) (bts_one _) (by have := FL1.out; unfold maxLen; omega) (by have := FL1.out; omega) RN.out.z ?_
      intro Ap cp wp ho hg
      have Rwp : Hid (Row w wp w1.heap.size Ap cp L1) := RN.out.grown ho HL1.out rfl hg
      have Kwp : Hid (Blk wp gO 23 #[.int .i64 (a : Int), .int .i64 (s : Int), .bool x, .int .i64 (p : Int), .int .i64 (q : Int), .int .i64 (n : Int), .int .i64 (t : Int)]) := Oth.grown RN.out.r hg _ _ _ (by decide) KN.out
      have qwp : wp.cell? ⟨gO, 0, none⟩ = some (.int .i64 (a : Int)) ∧ wp.cell? ⟨gO, 1, none⟩ = some (.int .i64 (s : Int)) := ⟨Kwp.out.cell 0, Kwp.out.cell 1⟩
      clear ho hg
      refine hK.out _ _ qwp (fun hHeld => ?_)
      clear hK K'
      (try simp only [Act.put, List.getElem_toArray, List.getElem_cons_succ, List.getElem_cons_zero, List.setIfInBounds_toArray, List.set_cons_zero, List.set_cons_succ])
      refine wpAnyH_ready (rs := [7]) (by kernel_rfl) (by simp) ?_
      refine AllReadyH.cons rfl (fun K' hK => ?_) AllReadyH.nil
      go_simp
      refine (num_p HP2 _ (by have := Bs.out; omega) (by omega)).mono ?_
      rintro e wo ⟨Ao, co, rfl, ro, bo, _⟩
      have RO : Hid (Row w wo w1.heap.size Ap cp L1) := Rwp.out.below bo
      have KO : Hid (Blk wo gO 23 #[.int .i64 (a : Int), .int .i64 (s : Int), .bool x, .int .i64 (p : Int), .int .i64 (q : Int), .int .i64 (n : Int), .int .i64 (t : Int)]) := Blk.below' Kwp.out bo
      have YO : Hid (By wo wo.heap.size Ao P2) := Rd.of_own ro.out
      have qo : wo.cell? ⟨gO, 0, none⟩ = some (.int .i64 (a : Int)) ∧ wo.cell? ⟨gO, 1, none⟩ = some (.int .i64 (s : Int)) := ⟨KO.out.cell 0, KO.out.cell 1⟩
      clear ro bo
      go_wp2_with fail
      refine hK.out _ _ qo (fun hHeld => ?_)
      clear hK K'
      (try simp only [Act.put, List.getElem_toArray, List.getElem_cons_succ, List.getElem_cons_zero, List.setIfInBounds_toArray, List.set_cons_zero, List.set_cons_succ])
      refine wpAnyH_ready (rs := [8]) (by kernel_rfl) (by simp) ?_
      refine AllReadyH.cons rfl (fun K' hK => ?_) AllReadyH.nil
      
      refine step_appG (v := .slice Ap L1.length cp) (n := L1.length) (m := P2.length) (nm := L2.length) (base := w1.heap.size) RO.out.r YO NL2.out rfl (.tmp 22) (.tmp 25) 26 rfl i0 (.int .u8 0) 1 Try.underlying26 hi hz0 hz1 hz2 rfl (by decide) rfl rfl (by rw [bts_len]; simp) (bts_one _) (by have := FL2.out; unfold maxLen; omega) (by have := FL2.out; omega) RO.out.z ?_
      intro Aq cq wq ho hg
      have Rwq : Hid (Row w wq w1.heap.size Aq cq L2) := RO.out.grown ho HL2.out rfl hg
      have Kwq : Hid (Blk wq gO 23 #[.int .i64 (a : Int), .int .i64 (s : Int), .bool x, .int .i64 (p : Int), .int .i64 (q : Int), .int .i64 (n : Int), .int .i64 (t : Int)]) := Oth.grown RO.out.r hg _ _ _ (by decide) KO.out
      have qwq : wq.cell? ⟨gO, 0, none⟩ = some (.int .i64 (a : Int)) ∧ wq.cell? ⟨gO, 1, none⟩ = some (.int .i64 (s : Int)) := ⟨Kwq.out.cell 0, Kwq.out.cell 1⟩
      clear ho hg
      refine hK.out _ _ qwq (fun hHeld => ?_)
      clear hK K'
      (try simp only [Act.put, List.getElem_toArray, List.getElem_cons_succ, List.getElem_cons_zero, List.setIfInBounds_toArray, List.set_cons_zero, List.set_cons_succ])
      refine wpAnyH_take (i := 9) (v := ?_) rfl (by kernel_rfl) (by kernel_rfl) (by kernel_rfl) (fun _ _ _ h => h) (Or.inl ⟨by rfl, ?_⟩) (by assumption) ?_
      rotate_left
      · intro w' hSw
        (try dsimp only at hSw)
        go_simp
        try with_reducible rfl
      (try simp only [Act.put, List.getElem_toArray, List.getElem_cons_succ, List.getElem_cons_zero, List.setIfInBounds_toArray, List.set_cons_zero, List.set_cons_succ])
      refine wpAnyH_done (by kernel_rfl) ?_ _
      clear RD KD qd RN KN YN qn Rwp Kwp qwp RO KO YO qo qwq hHeld RW KX
      have RW := Rwq
      have KX := Kwq
      clear Rwq Kwq
      have jx : wq.cell? ⟨gO, 2, none⟩ = some (.bool x) := KX.out.cell 2
      cases x
      · go_upto_region 11 with (at_builtin; refine wpList_app1G RW.out.r rfl _ _ _ rfl i0 (.int .u8 0) 1 Try.underlying26 hi hz0 hz1 hz2 rfl (by decide) rfl rfl rfl [.int .u8 0] rfl rfl (by simp [Value.oneCell']) (by have := XL2.out; unfold maxLen; omega) (by have := XL2.out; omega) RW.out.z ?_; intro Ar cr wr ho hg; rw [N3.out])
        have RA : Row w (wq.alloc (.cells #[.int .u8 0] 5)) w1.heap.size Aq cq L2 := RW.out.below ((Below.refl _ _).alloc (Nat.le_refl _) _)
        have RB : Hid (Row w wr w1.heap.size Ar cr L3) := RA.grown (P := PB) (by rw [HPB.out]; exact ho) HL3.out N3.out hg
        have KB : Hid (Blk wr gO 23 #[.int .i64 (a : Int), .int .i64 (s : Int), .bool false, .int .i64 (p : Int), .int .i64 (q : Int), .int .i64 (n : Int), .int .i64 (t : Int)]) := Oth.grown RA.r hg _ _ _ (by decide) (KX.out.alloc _)
        clear RA ho hg RW KX jx
        have RW := RB
        have KX := KB
        clear RB KB
        go_upto_region 11 with fail
        have RD : Hid (Row w wr.drew w1.heap.size Ar cr L3) := RW.out.drew
        have KD : Hid (Blk wr.drew gO 23 #[.int .i64 (a : Int), .int .i64 (s : Int), .bool false, .int .i64 (p : Int), .int .i64 (q : Int), .int .i64 (n : Int), .int .i64 (t : Int)]) := KX.out
        have qd : wr.drew.cell? ⟨gO, 3, none⟩ = some (.int .i64 (p : Int)) ∧ wr.drew.cell? ⟨gO, 4, none⟩ = some (.int .i64 (q : Int)) := ⟨KD.out.cell 3, KD.out.cell 4⟩
        refine wp_region_held_drew (S := (fun w' => w'.cell? ⟨gO, 3, none⟩ = some (.int .i64 (p : Int)) ∧ w'.cell? ⟨gO, 4, none⟩ = some (.int .i64 (q : Int)))) (by kernel_rfl) qd (fun hHeld => ?_)
        refine wpAnyH_take (i := 0) (v := ?_) rfl (by kernel_rfl) (by kernel_rfl) (by kernel_rfl) (fun _ _ _ h => h) (Or.inl ⟨by rfl, ?_⟩) (by assumption) ?_
        rotate_left
        · intro w' hSw
          (try dsimp only at hSw)
          go_simp
          try with_reducible rfl
        (try simp only [Act.put, List.getElem_toArray, List.getElem_cons_succ, List.getElem_cons_zero, List.setIfInBounds_toArray, List.set_cons_zero, List.set_cons_succ])
        refine wpAnyH_take (i := 1) (v := ?_) rfl (by kernel_rfl) (by kernel_rfl) (by kernel_rfl) (fun _ _ _ h => h) (Or.inl ⟨by rfl, ?_⟩) (by assumption) ?_
        rotate_left
        · intro w' hSw
          (try dsimp only at hSw)
          go_simp
          try with_reducible rfl
        (try simp only [Act.put, List.getElem_toArray, List.getElem_cons_succ, List.getElem_cons_zero, List.setIfInBounds_toArray, List.set_cons_zero, List.set_cons_succ])
        refine wpAnyH_take (i := 2) (v := ?_) rfl (by kernel_rfl) (by kernel_rfl) (by kernel_rfl) (fun _ _ _ h => h) (Or.inl ⟨by rfl, ?_⟩) (by assumption) ?_
        rotate_left
        · intro w' hSw
          (try dsimp only at hSw)
          go_simp
          try with_reducible rfl
        (try simp only [Act.put, List.getElem_toArray, List.getElem_cons_succ, List.getElem_cons_zero, List.setIfInBounds_toArray, List.set_cons_zero, List.set_cons_succ])
        refine wpAnyH_take (i := 5) (v := ?_) rfl (by kernel_rfl) (by kernel_rfl) (by kernel_rfl) (fun _ _ _ h => h) (Or.inl ⟨by rfl, ?_⟩) (by assumption) ?_
        rotate_left
        · intro w' hSw
          (try dsimp only at hSw)
          go_simp
          try with_reducible rfl
        (try simp only [Act.put, List.getElem_toArray, List.getElem_cons_succ, List.getElem_cons_zero, List.setIfInBounds_toArray, List.set_cons_zero, List.set_cons_succ])
        refine wpAnyH_take (i := 6) (v := ?_) rfl (by kernel_rfl) (by kernel_rfl) (by kernel_rfl) (fun _ _ _ h => h) (Or.inl ⟨by rfl, ?_⟩) (by assumption) ?_
        rotate_left
        · intro w' hSw
          (try dsimp only at hSw)
          go_simp
          try with_reducible rfl
        (try simp only [Act.put, List.getElem_toArray, List.getElem_cons_succ, List.getElem_cons_zero, List.setIfInBounds_toArray, List.set_cons_zero, List.set_cons_succ])
        refine wpAnyH_ready (rs := [3]) (by kernel_rfl) (by simp) ?_
        refine AllReadyH.cons rfl (fun K' hK => ?_) AllReadyH.nil
        go_simp
        refine (num_p HP3 _ (by have := Bp.out; omega) (by omega)).mono ?_
        rintro e wn ⟨An, cn, rfl, rn, bn, _⟩
        have RN : Hid (Row w wn w1.heap.size Ar cr L3) := RD.out.below bn
        have KN : Hid (Blk wn gO 23 #[.int .i64 (a : Int), .int .i64 (s : Int), .bool false, .int .i64 (p : Int), .int .i64 (q : Int), .int .i64 (n : Int), .int .i64 (t : Int)]) := Blk.below' KD.out bn
        have YN : Hid (By wn wn.heap.size An P3) := Rd.of_own rn.out
        have qn : wn.cell? ⟨gO, 3, none⟩ = some (.int .i64 (p : Int)) ∧ wn.cell? ⟨gO, 4, none⟩ = some (.int .i64 (q : Int)) := ⟨KN.out.cell 3, KN.out.cell 4⟩
        clear rn bn
        go_wp2_with fail
        refine hK.out _ _ qn (fun hHeld => ?_)
        clear hK K'
        (try simp only [Act.put, List.getElem_toArray, List.getElem_cons_succ, List.getElem_cons_zero, List.setIfInBounds_toArray, List.set_cons_zero, List.set_cons_succ])
        refine wpAnyH_ready (rs := [4]) (by kernel_rfl) (by simp) ?_
        refine AllReadyH.cons rfl (fun K' hK => ?_) AllReadyH.nil
        
        refine step_appG (v := .slice Ar L3.length cr) (n := L3.length) (m := P3.length) (nm := L4.length) (base := w1.heap.size) RN.out.r YN NL4.out rfl (.tmp 35) (.tmp 38) 26 rfl i0 (.int .u8 0) 1 Try.underlying26 hi hz0 hz1 hz2 rfl (by decide) rfl rfl (by rw [bts_len]; simp) (bts_one _) (by have := FL4.out; unfold maxLen; omega) (by have := FL4.out; omega) RN.out.z ?_
        intro Ap cp wp ho hg
        have Rwp : Hid (Row w wp w1.heap.size Ap cp L4) := RN.out.grown ho HL4.out rfl hg
        have Kwp : Hid (Blk wp gO 23 #[.int .i64 (a : Int), .int .i64 (s : Int), .bool false, .int .i64 (p : Int), .int .i64 (q : Int), .int .i64 (n : Int), .int .i64 (t : Int)]) := Oth.grown RN.out.r hg _ _ _ (by decide) KN.out
        have qwp : wp.cell? ⟨gO, 3, none⟩ = some (.int .i64 (p : Int)) ∧ wp.cell? ⟨gO, 4, none⟩ = some (.int .i64 (q : Int)) := ⟨Kwp.out.cell 3, Kwp.out.cell 4⟩
        clear ho hg
        refine hK.out _ _ qwp (fun hHeld => ?_)
        clear hK K'
        (try simp only [Act.put, List.getElem_toArray, List.getElem_cons_succ, List.getElem_cons_zero, List.setIfInBounds_toArray, List.set_cons_zero, List.set_cons_succ])
        refine wpAnyH_ready (rs := [7]) (by kernel_rfl) (by simp) ?_
        refine AllReadyH.cons rfl (fun K' hK => ?_) AllReadyH.nil
        go_simp
        refine (num_p HP4 _ (by have := Bq.out; omega) (by omega)).mono ?_
        rintro e wo ⟨Ao, co, rfl, ro, bo, _⟩
        have RO : Hid (Row w wo w1.heap.size Ap cp L4) := Rwp.out.below bo
        have KO : Hid (Blk wo gO 23 #[.int .i64 (a : Int), .int .i64 (s : Int), .bool false, .int .i64 (p : Int), .int .i64 (q : Int), .int .i64 (n : Int), .int .i64 (t : Int)]) := Blk.below' Kwp.out bo
        have YO : Hid (By wo wo.heap.size Ao P4) := Rd.of_own ro.out
        have qo : wo.cell? ⟨gO, 3, none⟩ = some (.int .i64 (p : Int)) ∧ wo.cell? ⟨gO, 4, none⟩ = some (.int .i64 (q : Int)) := ⟨KO.out.cell 3, KO.out.cell 4⟩
        clear ro bo
        go_wp2_with fail
        refine hK.out _ _ qo (fun hHeld => ?_)
        clear hK K'
        (try simp only [Act.put, List.getElem_toArray, List.getElem_cons_succ, List.getElem_cons_zero, List.setIfInBounds_toArray, List.set_cons_zero, List.set_cons_succ])
        refine wpAnyH_ready (rs := [8]) (by kernel_rfl) (by simp) ?_
        refine AllReadyH.cons rfl (fun K' hK => ?_) AllReadyH.nil
        
        refine step_appG (v := .slice Ap L4.length cp) (n := L4.length) (m := P4.length) (nm := L5.length) (base := w1.heap.size) RO.out.r YO NL5.out rfl (.tmp 39) (.tmp 42) 26 rfl i0 (.int .u8 0) 1 Try.underlying26 hi hz0 hz1 hz2 rfl (by decide) rfl rfl (by rw [bts_len]; simp) (bts_one _) (by have := FL5.out; unfold maxLen; omega) (by have := FL5.out; omega) RO.out.z ?_
        intro Aq cq wq ho hg
        have Rwq : Hid (Row w wq w1.heap.size Aq cq L5) := RO.out.grown ho HL5.out rfl hg
        have Kwq : Hid (Blk wq gO 23 #[.int .i64 (a : Int), .int .i64 (s : Int), .bool false, .int .i64 (p : Int), .int .i64 (q : Int), .int .i64 (n : Int), .int .i64 (t : Int)]) := Oth.grown RO.out.r hg _ _ _ (by decide) KO.out
        have qwq : wq.cell? ⟨gO, 3, none⟩ = some (.int .i64 (p : Int)) ∧ wq.cell? ⟨gO, 4, none⟩ = some (.int .i64 (q : Int)) := ⟨Kwq.out.cell 3, Kwq.out.cell 4⟩
        clear ho hg
        refine hK.out _ _ qwq (fun hHeld => ?_)
        clear hK K'
        (try simp only [Act.put, List.getElem_toArray, List.getElem_cons_succ, List.getElem_cons_zero, List.setIfInBounds_toArray, List.set_cons_zero, List.set_cons_succ])
        refine wpAnyH_take (i := 9) (v := ?_) rfl (by kernel_rfl) (by kernel_rfl) (by kernel_rfl) (fun _ _ _ h => h) (Or.inl ⟨by rfl, ?_⟩) (by assumption) ?_
        rotate_left
        · intro w' hSw
          (try dsimp only at hSw)
          go_simp
          try with_reducible rfl
        (try simp only [Act.put, List.getElem_toArray, List.getElem_cons_succ, List.getElem_cons_zero, List.setIfInBounds_toArray, List.set_cons_zero, List.set_cons_succ])
        refine wpAnyH_done (by kernel_rfl) ?_ _
        clear RD KD qd RN KN YN qn Rwp Kwp qwp RO KO YO qo qwq hHeld RW KX
        have RW := Rwq
        have KX := Kwq
        clear Rwq Kwq
        go_upto_region 12 with fail
        have RD : Hid (Row w wq.drew w1.heap.size Aq cq L5) := RW.out.drew
        have KD : Hid (Blk wq.drew gO 23 #[.int .i64 (a : Int), .int .i64 (s : Int), .bool false, .int .i64 (p : Int), .int .i64 (q : Int), .int .i64 (n : Int), .int .i64 (t : Int)]) := KX.out
        have qd : wq.drew.cell? ⟨gO, 5, none⟩ = some (.int .i64 (n : Int)) ∧ wq.drew.cell? ⟨gO, 6, none⟩ = some (.int .i64 (t : Int)) := ⟨KD.out.cell 5, KD.out.cell 6⟩
        refine wp_region_held_drew (S := (fun w' => w'.cell? ⟨gO, 5, none⟩ = some (.int .i64 (n : Int)) ∧ w'.cell? ⟨gO, 6, none⟩ = some (.int .i64 (t : Int)))) (by kernel_rfl) qd (fun hHeld => ?_)
        refine wpAnyH_take (i := 0) (v := ?_) rfl (by kernel_rfl) (by kernel_rfl) (by kernel_rfl) (fun _ _ _ h => h) (Or.inl ⟨by rfl, ?_⟩) (by assumption) ?_
        rotate_left
        · intro w' hSw
          (try dsimp only at hSw)
          go_simp
          try with_reducible rfl
        (try simp only [Act.put, List.getElem_toArray, List.getElem_cons_succ, List.getElem_cons_zero, List.setIfInBounds_toArray, List.set_cons_zero, List.set_cons_succ])
        refine wpAnyH_take (i := 1) (v := ?_) rfl (by kernel_rfl) (by kernel_rfl) (by kernel_rfl) (fun _ _ _ h => h) (Or.inl ⟨by rfl, ?_⟩) (by assumption) ?_
        rotate_left
        · intro w' hSw
          (try dsimp only at hSw)
          go_simp
          try with_reducible rfl
        (try simp only [Act.put, List.getElem_toArray, List.getElem_cons_succ, List.getElem_cons_zero, List.setIfInBounds_toArray, List.set_cons_zero, List.set_cons_succ])
        refine wpAnyH_take (i := 2) (v := ?_) rfl (by kernel_rfl) (by kernel_rfl) (by kernel_rfl) (fun _ _ _ h => h) (Or.inl ⟨by rfl, ?_⟩) (by assumption) ?_
        rotate_left
        · intro w' hSw
          (try dsimp only at hSw)
          go_simp
          try with_reducible rfl
        (try simp only [Act.put, List.getElem_toArray, List.getElem_cons_succ, List.getElem_cons_zero, List.setIfInBounds_toArray, List.set_cons_zero, List.set_cons_succ])
        refine wpAnyH_take (i := 5) (v := ?_) rfl (by kernel_rfl) (by kernel_rfl) (by kernel_rfl) (fun _ _ _ h => h) (Or.inl ⟨by rfl, ?_⟩) (by assumption) ?_
        rotate_left
        · intro w' hSw
          (try dsimp only at hSw)
          go_simp
          try with_reducible rfl
        (try simp only [Act.put, List.getElem_toArray, List.getElem_cons_succ, List.getElem_cons_zero, List.setIfInBounds_toArray, List.set_cons_zero, List.set_cons_succ])
        refine wpAnyH_take (i := 6) (v := ?_) rfl (by kernel_rfl) (by kernel_rfl) (by kernel_rfl) (fun _ _ _ h => h) (Or.inl ⟨by rfl, ?_⟩) (by assumption) ?_
        rotate_left
        · intro w' hSw
          (try dsimp only at hSw)
          go_simp
          try with_reducible rfl
        (try simp only [Act.put, List.getElem_toArray, List.getElem_cons_succ, List.getElem_cons_zero, List.setIfInBounds_toArray, List.set_cons_zero, List.set_cons_succ])
        refine wpAnyH_ready (rs := [3]) (by kernel_rfl) (by simp) ?_
        refine AllReadyH.cons rfl (fun K' hK => ?_) AllReadyH.nil
        go_simp
        refine (num_p HP5 _ (by have := Bn.out; omega) (by omega)).mono ?_
        rintro e wn ⟨An, cn, rfl, rn, bn, _⟩
        have RN : Hid (Row w wn w1.heap.size Aq cq L5) := RD.out.below bn
        have KN : Hid (Blk wn gO 23 #[.int .i64 (a : Int), .int .i64 (s : Int), .bool false, .int .i64 (p : Int), .int .i64 (q : Int), .int .i64 (n : Int), .int .i64 (t : Int)]) := Blk.below' KD.out bn
        have YN : Hid (By wn wn.heap.size An P5) := Rd.of_own rn.out
        have qn : wn.cell? ⟨gO, 5, none⟩ = some (.int .i64 (n : Int)) ∧ wn.cell? ⟨gO, 6, none⟩ = some (.int .i64 (t : Int)) := ⟨KN.out.cell 5, KN.out.cell 6⟩
        clear rn bn
        go_wp2_with fail
        refine hK.out _ _ qn (fun hHeld => ?_)
        clear hK K'
        (try simp only [Act.put, List.getElem_toArray, List.getElem_cons_succ, List.getElem_cons_zero, List.setIfInBounds_toArray, List.set_cons_zero, List.set_cons_succ])
        refine wpAnyH_ready (rs := [4]) (by kernel_rfl) (by simp) ?_
        refine AllReadyH.cons rfl (fun K' hK => ?_) AllReadyH.nil
        
        refine step_appG (v := .slice Aq L5.length cq) (n := L5.length) (m := P5.length) (nm := L6.length) (base := w1.heap.size) RN.out.r YN NL6.out rfl (.tmp 44) (.tmp 47) 26 rfl i0 (.int .u8 0) 1 Try.underlying26 hi hz0 hz1 hz2 rfl (by decide) rfl rfl (by rw [bts_len]; simp) (bts_one _) (by have := FL6.out; unfold maxLen; omega) (by have := FL6.out; omega) RN.out.z ?_
        intro Ap cp wp ho hg
        have Rwp : Hid (Row w wp w1.heap.size Ap cp L6) := RN.out.grown ho HL6.out rfl hg
        have Kwp : Hid (Blk wp gO 23 #[.int .i64 (a : Int), .int .i64 (s : Int), .bool false, .int .i64 (p : Int), .int .i64 (q : Int), .int .i64 (n : Int), .int .i64 (t : Int)]) := Oth.grown RN.out.r hg _ _ _ (by decide) KN.out
        have qwp : wp.cell? ⟨gO, 5, none⟩ = some (.int .i64 (n : Int)) ∧ wp.cell? ⟨gO, 6, none⟩ = some (.int .i64 (t : Int)) := ⟨Kwp.out.cell 5, Kwp.out.cell 6⟩
        clear ho hg
        refine hK.out _ _ qwp (fun hHeld => ?_)
        clear hK K'
        (try simp only [Act.put, List.getElem_toArray, List.getElem_cons_succ, List.getElem_cons_zero, List.setIfInBounds_toArray, List.set_cons_zero, List.set_cons_succ])
        refine wpAnyH_ready (rs := [7]) (by kernel_rfl) (by simp) ?_
        refine AllReadyH.cons rfl (fun K' hK => ?_) AllReadyH.nil
        go_simp
        refine (num_p HP6 _ (by have := Bt.out; omega) (by omega)).mono ?_
        rintro e wo ⟨Ao, co, rfl, ro, bo, _⟩
        have RO : Hid (Row w wo w1.heap.size Ap cp L6) := Rwp.out.below bo
        have KO : Hid (Blk wo gO 23 #[.int .i64 (a : Int), .int .i64 (s : Int), .bool false, .int .i64 (p : Int), .int .i64 (q : Int), .int .i64 (n : Int), .int .i64 (t : Int)]) := Blk.below' Kwp.out bo
        have YO : Hid (By wo wo.heap.size Ao P6) := Rd.of_own ro.out
        have qo : wo.cell? ⟨gO, 5, none⟩ = some (.int .i64 (n : Int)) ∧ wo.cell? ⟨gO, 6, none⟩ = some (.int .i64 (t : Int)) := ⟨KO.out.cell 5, KO.out.cell 6⟩
        clear ro bo
        go_wp2_with fail
        refine hK.out _ _ qo (fun hHeld => ?_)
        clear hK K'
        (try simp only [Act.put, List.getElem_toArray, List.getElem_cons_succ, List.getElem_cons_zero, List.setIfInBounds_toArray, List.set_cons_zero, List.set_cons_succ])
        refine wpAnyH_ready (rs := [8]) (by kernel_rfl) (by simp) ?_
        refine AllReadyH.cons rfl (fun K' hK => ?_) AllReadyH.nil
        
        refine step_appG (v := .slice Ap L6.length cp) (n := L6.length) (m := P6.length) (nm := L7.length) (base := w1.heap.size) RO.out.r YO NL7.out rfl (.tmp 48) (.tmp 51) 26 rfl i0 (.int .u8 0) 1 Try.underlying26 hi hz0 hz1 hz2 rfl (by decide) rfl rfl (by rw [bts_len]; simp) (bts_one _) (by have := FL7.out; unfold maxLen; omega) (by have := FL7.out; omega) RO.out.z ?_
        intro Aq cq wq ho hg
        have Rwq : Hid (Row w wq w1.heap.size Aq cq L7) := RO.out.grown ho HL7.out rfl hg
        have Kwq : Hid (Blk wq gO 23 #[.int .i64 (a : Int), .int .i64 (s : Int), .bool false, .int .i64 (p : Int), .int .i64 (q : Int), .int .i64 (n : Int), .int .i64 (t : Int)]) := Oth.grown RO.out.r hg _ _ _ (by decide) KO.out
        have qwq : wq.cell? ⟨gO, 5, none⟩ = some (.int .i64 (n : Int)) ∧ wq.cell? ⟨gO, 6, none⟩ = some (.int .i64 (t : Int)) := ⟨Kwq.out.cell 5, Kwq.out.cell 6⟩
        clear ho hg
        refine hK.out _ _ qwq (fun hHeld => ?_)
        clear hK K'
        (try simp only [Act.put, List.getElem_toArray, List.getElem_cons_succ, List.getElem_cons_zero, List.setIfInBounds_toArray, List.set_cons_zero, List.set_cons_succ])
        refine wpAnyH_take (i := 9) (v := ?_) rfl (by kernel_rfl) (by kernel_rfl) (by kernel_rfl) (fun _ _ _ h => h) (Or.inl ⟨by rfl, ?_⟩) (by assumption) ?_
        rotate_left
        · intro w' hSw
          (try dsimp only at hSw)
          go_simp
          try with_reducible rfl
        (try simp only [Act.put, List.getElem_toArray, List.getElem_cons_succ, List.getElem_cons_zero, List.setIfInBounds_toArray, List.set_cons_zero, List.set_cons_succ])
        refine wpAnyH_done (by kernel_rfl) ?_ _
        clear RD KD qd RN KN YN qn Rwp Kwp qwp RO KO YO qo qwq hHeld RW KX
        have RW := Rwq
        have KX := Kwq
        clear Rwq Kwq
        go_wp2_with fail
        go_ret
        rw [← hE.out]
        exact ⟨_, _, rfl, Rd.of_own RW.out.r, RW.out.b⟩
      · go_upto_region 11 with (at_builtin; refine wpList_app1G RW.out.r rfl _ _ _ rfl i0 (.int .u8 0) 1 Try.underlying26 hi hz0 hz1 hz2 rfl (by decide) rfl rfl rfl [.int .u8 1] rfl rfl (by simp [Value.oneCell']) (by have := XL2.out; unfold maxLen; omega) (by have := XL2.out; omega) RW.out.z ?_; intro Ar cr wr ho hg; rw [N3.out])
        have RA : Row w (wq.alloc (.cells #[.int .u8 1] 5)) w1.heap.size Aq cq L2 := RW.out.below ((Below.refl _ _).alloc (Nat.le_refl _) _)
        have RB : Hid (Row w wr w1.heap.size Ar cr L3) := RA.grown (P := PB) (by rw [HPB.out]; exact ho) HL3.out N3.out hg
        have KB : Hid (Blk wr gO 23 #[.int .i64 (a : Int), .int .i64 (s : Int), .bool true, .int .i64 (p : Int), .int .i64 (q : Int), .int .i64 (n : Int), .int .i64 (t : Int)]) := Oth.grown RA.r hg _ _ _ (by decide) (KX.out.alloc _)
        clear RA ho hg RW KX jx
        have RW := RB
        have KX := KB
        clear RB KB
        go_upto_region 11 with fail
        have RD : Hid (Row w wr.drew w1.heap.size Ar cr L3) := RW.out.drew
        have KD : Hid (Blk wr.drew gO 23 #[.int .i64 (a : Int), .int .i64 (s : Int), .bool true, .int .i64 (p : Int), .int .i64 (q : Int), .int .i64 (n : Int), .int .i64 (t : Int)]) := KX.out
        have qd : wr.drew.cell? ⟨gO, 3, none⟩ = some (.int .i64 (p : Int)) ∧ wr.drew.cell? ⟨gO, 4, none⟩ = some (.int .i64 (q : Int)) := ⟨KD.out.cell 3, KD.out.cell 4⟩
        refine wp_region_held_drew (S := (fun w' => w'.cell? ⟨gO, 3, none⟩ = some (.int .i64 (p : Int)) ∧ w'.cell? ⟨gO, 4, none⟩ = some (.int .i64 (q : Int)))) (by kernel_rfl) qd (fun hHeld => ?_)
        refine wpAnyH_take (i := 0) (v := ?_) rfl (by kernel_rfl) (by kernel_rfl) (by kernel_rfl) (fun _ _ _ h => h) (Or.inl ⟨by rfl, ?_⟩) (by assumption) ?_
        rotate_left
        · intro w' hSw
          (try dsimp only at hSw)
          go_simp
          try with_reducible rfl
        (try simp only [Act.put, List.getElem_toArray, List.getElem_cons_succ, List.getElem_cons_zero, List.setIfInBounds_toArray, List.set_cons_zero, List.set_cons_succ])
        refine wpAnyH_take (i := 1) (v := ?_) rfl (by kernel_rfl) (by kernel_rfl) (by kernel_rfl) (fun _ _ _ h => h) (Or.inl ⟨by rfl, ?_⟩) (by assumption) ?_
        rotate_left
        · intro w' hSw
          (try dsimp only at hSw)
          go_simp
          try with_reducible rfl
        (try simp only [Act.put, List.getElem_toArray, List.getElem_cons_succ, List.getElem_cons_zero, List.setIfInBounds_toArray, List.set_cons_zero, List.set_cons_succ])
        refine wpAnyH_take (i := 2) (v := ?_) rfl (by kernel_rfl) (by kernel_rfl) (by kernel_rfl) (fun _ _ _ h => h) (Or.inl ⟨by rfl, ?_⟩) (by assumption) ?_
        rotate_left
        · intro w' hSw
          (try dsimp only at hSw)
          go_simp
          try with_reducible rfl
        (try simp only [Act.put, List.getElem_toArray, List.getElem_cons_succ, List.getElem_cons_zero, List.setIfInBounds_toArray, List.set_cons_zero, List.set_cons_succ])
        refine wpAnyH_take (i := 5) (v := ?_) rfl (by kernel_rfl) (by kernel_rfl) (by kernel_rfl) (fun _ _ _ h => h) (Or.inl ⟨by rfl, ?_⟩) (by assumption) ?_
        rotate_left
        · intro w' hSw
          (try dsimp only at hSw)
          go_simp
          try with_reducible rfl
        (try simp only [Act.put, List.getElem_toArray, List.getElem_cons_succ, List.getElem_cons_zero, List.setIfInBounds_toArray, List.set_cons_zero, List.set_cons_succ])
        refine wpAnyH_take (i := 6) (v := ?_) rfl (by kernel_rfl) (by kernel_rfl) (by kernel_rfl) (fun _ _ _ h => h) (Or.inl ⟨by rfl, ?_⟩) (by assumption) ?_
        rotate_left
        · intro w' hSw
          (try dsimp only at hSw)
          go_simp
          try with_reducible rfl
        (try simp only [Act.put, List.getElem_toArray, List.getElem_cons_succ, List.getElem_cons_zero, List.setIfInBounds_toArray, List.set_cons_zero, List.set_cons_succ])
        refine wpAnyH_ready (rs := [3]) (by kernel_rfl) (by simp) ?_
        refine AllReadyH.cons rfl (fun K' hK => ?_) AllReadyH.nil
        go_simp
        refine (num_p HP3 _ (by have := Bp.out; omega) (by omega)).mono ?_
        rintro e wn ⟨An, cn, rfl, rn, bn, _⟩
        have RN : Hid (Row w wn w1.heap.size Ar cr L3) := RD.out.below bn
        have KN : Hid (Blk wn gO 23 #[.int .i64 (a : Int), .int .i64 (s : Int), .bool true, .int .i64 (p : Int), .int .i64 (q : Int), .int .i64 (n : Int), .int .i64 (t : Int)]) := Blk.below' KD.out bn
        have YN : Hid (By wn wn.heap.size An P3) := Rd.of_own rn.out
        have qn : wn.cell? ⟨gO, 3, none⟩ = some (.int .i64 (p : Int)) ∧ wn.cell? ⟨gO, 4, none⟩ = some (.int .i64 (q : Int)) := ⟨KN.out.cell 3, KN.out.cell 4⟩
        clear rn bn
        go_wp2_with fail
        refine hK.out _ _ qn (fun hHeld => ?_)
        clear hK K'
        (try simp only [Act.put, List.getElem_toArray, List.getElem_cons_succ, List.getElem_cons_zero, List.setIfInBounds_toArray, List.set_cons_zero, List.set_cons_succ])
        refine wpAnyH_ready (rs := [4]) (by kernel_rfl) (by simp) ?_
        refine AllReadyH.cons rfl (fun K' hK => ?_) AllReadyH.nil
        
        refine step_appG (v := .slice Ar L3.length cr) (n := L3.length) (m := P3.length) (nm := L4.length) (base := w1.heap.size) RN.out.r YN NL4.out rfl (.tmp 35) (.tmp 38) 26 rfl i0 (.int .u8 0) 1 Try.underlying26 hi hz0 hz1 hz2 rfl (by decide) rfl rfl (by rw [bts_len]; simp) (bts_one _) (by have := FL4.out; unfold maxLen; omega) (by have := FL4.out; omega) RN.out.z ?_
        intro Ap cp wp ho hg
        have Rwp : Hid (Row w wp w1.heap.size Ap cp L4) := RN.out.grown ho HL4.out rfl hg
        have Kwp : Hid (Blk wp gO 23 #[.int .i64 (a : Int), .int .i64 (s : Int), .bool true, .int .i64 (p : Int), .int .i64 (q : Int), .int .i64 (n : Int), .int .i64 (t : Int)]) := Oth.grown RN.out.r hg _ _ _ (by decide) KN.out
        have qwp : wp.cell? ⟨gO, 3, none⟩ = some (.int .i64 (p : Int)) ∧ wp.cell? ⟨gO, 4, none⟩ = some (.int .i64 (q : Int)) := ⟨Kwp.out.cell 3, Kwp.out.cell 4⟩
        clear ho hg
        refine hK.out _ _ qwp (fun hHeld => ?_)
        clear hK K'
        (try simp only [Act.put, List.getElem_toArray, List.getElem_cons_succ, List.getElem_cons_zero, List.setIfInBounds_toArray, List.set_cons_zero, List.set_cons_succ])
        refine wpAnyH_ready (rs := [7]) (by kernel_rfl) (by simp) ?_
        refine AllReadyH.cons rfl (fun K' hK => ?_) AllReadyH.nil
        go_simp
        refine (num_p HP4 _ (by have := Bq.out; omega) (by omega)).mono ?_
        rintro e wo ⟨Ao, co, rfl, ro, bo, _⟩
        have RO : Hid (Row w wo w1.heap.size Ap cp L4) := Rwp.out.below bo
        have KO : Hid (Blk wo gO 23 #[.int .i64 (a : Int), .int .i64 (s : Int), .bool true, .int .i64 (p : Int), .int .i64 (q : Int), .int .i64 (n : Int), .int .i64 (t : Int)]) := Blk.below' Kwp.out bo
        have YO : Hid (By wo wo.heap.size Ao P4) := Rd.of_own ro.out
        have qo : wo.cell? ⟨gO, 3, none⟩ = some (.int .i64 (p : Int)) ∧ wo.cell? ⟨gO, 4, none⟩ = some (.int .i64 (q : Int)) := ⟨KO.out.cell 3, KO.out.cell 4⟩
        clear ro bo
        go_wp2_with fail
        refine hK.out _ _ qo (fun hHeld => ?_)
        clear hK K'
        (try simp only [Act.put, List.getElem_toArray, List.getElem_cons_succ, List.getElem_cons_zero, List.setIfInBounds_toArray, List.set_cons_zero, List.set_cons_succ])
        refine wpAnyH_ready (rs := [8]) (by kernel_rfl) (by simp) ?_
        refine AllReadyH.cons rfl (fun K' hK => ?_) AllReadyH.nil
        
        refine step_appG (v := .slice Ap L4.length cp) (n := L4.length) (m := P4.length) (nm := L5.length) (base := w1.heap.size) RO.out.r YO NL5.out rfl (.tmp 39) (.tmp 42) 26 rfl i0 (.int .u8 0) 1 Try.underlying26 hi hz0 hz1 hz2 rfl (by decide) rfl rfl (by rw [bts_len]; simp) (bts_one _) (by have := FL5.out; unfold maxLen; omega) (by have := FL5.out; omega) RO.out.z ?_
        intro Aq cq wq ho hg
        have Rwq : Hid (Row w wq w1.heap.size Aq cq L5) := RO.out.grown ho HL5.out rfl hg
        have Kwq : Hid (Blk wq gO 23 #[.int .i64 (a : Int), .int .i64 (s : Int), .bool true, .int .i64 (p : Int), .int .i64 (q : Int), .int .i64 (n : Int), .int .i64 (t : Int)]) := Oth.grown RO.out.r hg _ _ _ (by decide) KO.out
        have qwq : wq.cell? ⟨gO, 3, none⟩ = some (.int .i64 (p : Int)) ∧ wq.cell? ⟨gO, 4, none⟩ = some (.int .i64 (q : Int)) := ⟨Kwq.out.cell 3, Kwq.out.cell 4⟩
        clear ho hg
        refine hK.out _ _ qwq (fun hHeld => ?_)
        clear hK K'
        (try simp only [Act.put, List.getElem_toArray, List.getElem_cons_succ, List.getElem_cons_zero, List.setIfInBounds_toArray, List.set_cons_zero, List.set_cons_succ])
        refine wpAnyH_take (i := 9) (v := ?_) rfl (by kernel_rfl) (by kernel_rfl) (by kernel_rfl) (fun _ _ _ h => h) (Or.inl ⟨by rfl, ?_⟩) (by assumption) ?_
        rotate_left
        · intro w' hSw
          (try dsimp only at hSw)
          go_simp
          try with_reducible rfl
        (try simp only [Act.put, List.getElem_toArray, List.getElem_cons_succ, List.getElem_cons_zero, List.setIfInBounds_toArray, List.set_cons_zero, List.set_cons_succ])
        refine wpAnyH_done (by kernel_rfl) ?_ _
        clear RD KD qd RN KN YN qn Rwp Kwp qwp RO KO YO qo qwq hHeld RW KX
        have RW := Rwq
        have KX := Kwq
        clear Rwq Kwq
        go_upto_region 12 with fail
        have RD : Hid (Row w wq.drew w1.heap.size Aq cq L5) := RW.out.drew
        have KD : Hid (Blk wq.drew gO 23 #[.int .i64 (a : Int), .int .i64 (s : Int), .bool true, .int .i64 (p : Int), .int .i64 (q : Int), .int .i64 (n : Int), .int .i64 (t : Int)]) := KX.out
        have qd : wq.drew.cell? ⟨gO, 5, none⟩ = some (.int .i64 (n : Int)) ∧ wq.drew.cell? ⟨gO, 6, none⟩ = some (.int .i64 (t : Int)) := ⟨KD.out.cell 5, KD.out.cell 6⟩
        refine wp_region_held_drew (S := (fun w' => w'.cell? ⟨gO, 5, none⟩ = some (.int .i64 (n : Int)) ∧ w'.cell? ⟨gO, 6, none⟩ = some (.int .i64 (t : Int)))) (by kernel_rfl) qd (fun hHeld => ?_)
        refine wpAnyH_take (i := 0) (v := ?_) rfl (by kernel_rfl) (by kernel_rfl) (by kernel_rfl) (fun _ _ _ h => h) (Or.inl ⟨by rfl, ?_⟩) (by assumption) ?_
        rotate_left
        · intro w' hSw
          (try dsimp only at hSw)
          go_simp
          try with_reducible rfl
        (try simp only [Act.put, List.getElem_toArray, List.getElem_cons_succ, List.getElem_cons_zero, List.setIfInBounds_toArray, List.set_cons_zero, List.set_cons_succ])
        refine wpAnyH_take (i := 1) (v := ?_) rfl (by kernel_rfl) (by kernel_rfl) (by kernel_rfl) (fun _ _ _ h => h) (Or.inl ⟨by rfl, ?_⟩) (by assumption) ?_
        rotate_left
        · intro w' hSw
          (try dsimp only at hSw)
          go_simp
          try with_reducible rfl
        (try simp only [Act.put, List.getElem_toArray, List.getElem_cons_succ, List.getElem_cons_zero, List.setIfInBounds_toArray, List.set_cons_zero, List.set_cons_succ])
        refine wpAnyH_take (i := 2) (v := ?_) rfl (by kernel_rfl) (by kernel_rfl) (by kernel_rfl) (fun _ _ _ h => h) (Or.inl ⟨by rfl, ?_⟩) (by assumption) ?_
        rotate_left
        · intro w' hSw
          (try dsimp only at hSw)
          go_simp
          try with_reducible rfl
        (try simp only [Act.put, List.getElem_toArray, List.getElem_cons_succ, List.getElem_cons_zero, List.setIfInBounds_toArray, List.set_cons_zero, List.set_cons_succ])
        refine wpAnyH_take (i := 5) (v := ?_) rfl (by kernel_rfl) (by kernel_rfl) (by kernel_rfl) (fun _ _ _ h => h) (Or.inl ⟨by rfl, ?_⟩) (by assumption) ?_
        rotate_left
        · intro w' hSw
          (try dsimp only at hSw)
          go_simp
          try with_reducible rfl
        (try simp only [Act.put, List.getElem_toArray, List.getElem_cons_succ, List.getElem_cons_zero, List.setIfInBounds_toArray, List.set_cons_zero, List.set_cons_succ])
        refine wpAnyH_take (i := 6) (v := ?_) rfl (by kernel_rfl) (by kernel_rfl) (by kernel_rfl) (fun _ _ _ h => h) (Or.inl ⟨by rfl, ?_⟩) (by assumption) ?_
        rotate_left
        · intro w' hSw
          (try dsimp only at hSw)
          go_simp
          try with_reducible rfl
        (try simp only [Act.put, List.getElem_toArray, List.getElem_cons_succ, List.getElem_cons_zero, List.setIfInBounds_toArray, List.set_cons_zero, List.set_cons_succ])
        refine wpAnyH_ready (rs := [3]) (by kernel_rfl) (by simp) ?_
        refine AllReadyH.cons rfl (fun K' hK => ?_) AllReadyH.nil
        go_simp
        refine (num_p HP5 _ (by have := Bn.out; omega) (by omega)).mono ?_
        rintro e wn ⟨An, cn, rfl, rn, bn, _⟩
        have RN : Hid (Row w wn w1.heap.size Aq cq L5) := RD.out.below bn
        have KN : Hid (Blk wn gO 23 #[.int .i64 (a : Int), .int .i64 (s : Int), .bool true, .int .i64 (p : Int), .int .i64 (q : Int), .int .i64 (n : Int), .int .i64 (t : Int)]) := Blk.below' KD.out bn
        have YN : Hid (By wn wn.heap.size An P5) := Rd.of_own rn.out
        have qn : wn.cell? ⟨gO, 5, none⟩ = some (.int .i64 (n : Int)) ∧ wn.cell? ⟨gO, 6, none⟩ = some (.int .i64 (t : Int)) := ⟨KN.out.cell 5, KN.out.cell 6⟩
        clear rn bn
        go_wp2_with fail
        refine hK.out _ _ qn (fun hHeld => ?_)
        clear hK K'
        (try simp only [Act.put, List.getElem_toArray, List.getElem_cons_succ, List.getElem_cons_zero, List.setIfInBounds_toArray, List.set_cons_zero, List.set_cons_succ])
        refine wpAnyH_ready (rs := [4]) (by kernel_rfl) (by simp) ?_
        refine AllReadyH.cons rfl (fun K' hK => ?_) AllReadyH.nil
        
        refine step_appG (v := .slice Aq L5.length cq) (n := L5.length) (m := P5.length) (nm := L6.length) (base := w1.heap.size) RN.out.r YN NL6.out rfl (.tmp 44) (.tmp 47) 26 rfl i0 (.int .u8 0) 1 Try.underlying26 hi hz0 hz1 hz2 rfl (by decide) rfl rfl (by rw [bts_len]; simp) (bts_one _) (by have := FL6.out; unfold maxLen; omega) (by have := FL6.out; omega) RN.out.z ?_
        intro Ap cp wp ho hg
        have Rwp : Hid (Row w wp w1.heap.size Ap cp L6) := RN.out.grown ho HL6.out rfl hg
        have Kwp : Hid (Blk wp gO 23 #[.int .i64 (a : Int), .int .i64 (s : Int), .bool true, .int .i64 (p : Int), .int .i64 (q : Int), .int .i64 (n : Int), .int .i64 (t : Int)]) := Oth.grown RN.out.r hg _ _ _ (by decide) KN.out
        have qwp : wp.cell? ⟨gO, 5, none⟩ = some (.int .i64 (n : Int)) ∧ wp.cell? ⟨gO, 6, none⟩ = some (.int .i64 (t : Int)) := ⟨Kwp.out.cell 5, Kwp.out.cell 6⟩
        clear ho hg
        refine hK.out _ _ qwp (fun hHeld => ?_)
        clear hK K'
        (try simp only [Act.put, List.getElem_toArray, List.getElem_cons_succ, List.getElem_cons_zero, List.setIfInBounds_toArray, List.set_cons_zero, List.set_cons_succ])
        refine wpAnyH_ready (rs := [7]) (by kernel_rfl) (by simp) ?_
        refine AllReadyH.cons rfl (fun K' hK => ?_) AllReadyH.nil
        go_simp
        refine (num_p HP6 _ (by have := Bt.out; omega) (by omega)).mono ?_
        rintro e wo ⟨Ao, co, rfl, ro, bo, _⟩
        have RO : Hid (Row w wo w1.heap.size Ap cp L6) := Rwp.out.below bo
        have KO : Hid (Blk wo gO 23 #[.int .i64 (a : Int), .int .i64 (s : Int), .bool true, .int .i64 (p : Int), .int .i64 (q : Int), .int .i64 (n : Int), .int .i64 (t : Int)]) := Blk.below' Kwp.out bo
        have YO : Hid (By wo wo.heap.size Ao P6) := Rd.of_own ro.out
        have qo : wo.cell? ⟨gO, 5, none⟩ = some (.int .i64 (n : Int)) ∧ wo.cell? ⟨gO, 6, none⟩ = some (.int .i64 (t : Int)) := ⟨KO.out.cell 5, KO.out.cell 6⟩
        clear ro bo
        go_wp2_with fail
        refine hK.out _ _ qo (fun hHeld => ?_)
        clear hK K'
        (try simp only [Act.put, List.getElem_toArray, List.getElem_cons_succ, List.getElem_cons_zero, List.setIfInBounds_toArray, List.set_cons_zero, List.set_cons_succ])
        refine wpAnyH_ready (rs := [8]) (by kernel_rfl) (by simp) ?_
        refine AllReadyH.cons rfl (fun K' hK => ?_) AllReadyH.nil
        
        refine step_appG (v := .slice Ap L6.length cp) (n := L6.length) (m := P6.length) (nm := L7.length) (base := w1.heap.size) RO.out.r YO NL7.out rfl (.tmp 48) (.tmp 51) 26 rfl i0 (.int .u8 0) 1 Try.underlying26 hi hz0 hz1 hz2 rfl (by decide) rfl rfl (by rw [bts_len]; simp) (bts_one _) (by have := FL7.out; unfold maxLen; omega) (by have := FL7.out; omega) RO.out.z ?_
        intro Aq cq wq ho hg
        have Rwq : Hid (Row w wq w1.heap.size Aq cq L7) := RO.out.grown ho HL7.out rfl hg
        have Kwq : Hid (Blk wq gO 23 #[.int .i64 (a : Int), .int .i64 (s : Int), .bool true, .int .i64 (p : Int), .int .i64 (q : Int), .int .i64 (n : Int), .int .i64 (t : Int)]) := Oth.grown RO.out.r hg _ _ _ (by decide) KO.out
        have qwq : wq.cell? ⟨gO, 5, none⟩ = some (.int .i64 (n : Int)) ∧ wq.cell? ⟨gO, 6, none⟩ = some (.int .i64 (t : Int)) := ⟨Kwq.out.cell 5, Kwq.out.cell 6⟩
        clear ho hg
        refine hK.out _ _ qwq (fun hHeld => ?_)
        clear hK K'
        (try simp only [Act.put, List.getElem_toArray, List.getElem_cons_succ, List.getElem_cons_zero, List.setIfInBounds_toArray, List.set_cons_zero, List.set_cons_succ])
        refine wpAnyH_take (i := 9) (v := ?_) rfl (by kernel_rfl) (by kernel_rfl) (by kernel_rfl) (fun _ _ _ h => h) (Or.inl ⟨by rfl, ?_⟩) (by assumption) ?_
        rotate_left
        · intro w' hSw
          (try dsimp only at hSw)
          go_simp
          try with_reducible rfl
        (try simp only [Act.put, List.getElem_toArray, List.getElem_cons_succ, List.getElem_cons_zero, List.setIfInBounds_toArray, List.set_cons_zero, List.set_cons_succ])
        refine wpAnyH_done (by kernel_rfl) ?_ _
        clear RD KD qd RN KN YN qn Rwp Kwp qwp RO KO YO qo qwq hHeld RW KX
        have RW := Rwq
        have KX := Kwq
        clear Rwq Kwq
        go_wp2_with fail
        go_ret
        rw [← hE.out]
        exact ⟨_, _, rfl, Rd.of_own RW.out.r, RW.out.b⟩
    have q0 : (k == 0) = false := beq_eq_false_iff_ne.2 k0
    by_cases k1 : k = 1
    · have q1 : (k == 1) = true := beq_iff_eq.2 k1
      obtain ⟨P1, hP1⟩ : ∃ P, putB i 4 = P := ⟨_, rfl⟩
      have HP1 : Hid (putB i 4 = P1) := hP1
      have YP1 : Hid (P1.length = 4) := by show _ = _; rw [← hP1, putB_len]
      clear hP1
      obtain ⟨L1, hL1⟩ : ∃ L, L = [byt k.toNat 0] ++ P1 := ⟨_, rfl⟩
      have HL1 : Hid (L1 = [byt k.toNat 0] ++ P1) := hL1
      have NL1 : Hid (L1.length = [byt k.toNat 0].length + P1.length) := by show _ = _; rw [hL1, List.length_append]
      have XL1 : Hid (L1.length = 5) := by show _ = _; rw [NL1.out, YP1.out] <;> rfl
      have FL1 : Hid ([byt k.toNat 0].length + P1.length ≤ 100) := by show _ ≤ _; rw [← NL1.out, XL1.out]; decide
      clear hL1
      have hE : Hid (L1 = E) := by
        show _ = _
        rw [he.out]
        unfold bodB
        rw [if_neg k0, if_pos (by exact .inl k1)]
        simp only [Int.toNat_natCast]
        rw [HL1.out, HP1.out]
      go_wp2_with fail
      refine (num_p HP1 _ (by have := Bi.out; omega) (by omega)).mono ?_
      rintro e wn ⟨An, cn, rfl, rn, bn, _⟩
      have RN : Hid (Row w wn w1.heap.size (some ⟨w1.heap.size, 0, none⟩) 1 [byt k.toNat 0]) := RW.out.below bn
      have RR : Hid (wn.ownsRow w1.heap.size 5 1 (.slice (some ⟨w1.heap.size, 0, none⟩) 1 1) 1 (bts [byt k.toNat 0])) := RN.out.r
      have YN : Hid (By wn wn.heap.size An P1) := Rd.of_own rn.out
      have XX : Hid (L1.length = 1 + P1.length) := NL1.out
      clear rn bn j0 j1 j2 j3 j4 j5 j6 j7 j8 j9 j10 j11
      go_wp2_with (at_builtin; refine wpList_appR (w0 := w) (B := w.heap.size) (nm := L1.length) RR RN.out.b YN XX.out rfl _ _ _ rfl i0 (.int .u8 0) 1 Try.underlying26 hi hz0 hz1 hz2 rfl (by decide) rfl rfl (by rw [bts_len]; simp) (bts_one _) (by have := YP1.out; unfold maxLen; omega) (by have := YP1.out; omega) RN.out.h RN.out.z (Nat.le_trans RN.out.h RN.out.z) ?_; intro A5 c5 w5 ho hb hs)
      have YE : Hid (By w5 w5.heap.size A5 L1) := by
        have h := ho.out
        rw [← bts_app, ← HL1.out] at h
        exact Rd.of_own h
      have BE := Lib.hid hb
      clear ho hb
      go_wp2_with fail
      go_ret
      rw [← hE.out]
      exact ⟨_, _, rfl, YE.out, BE.out⟩
    have q1 : (k == 1) = false := beq_eq_false_iff_ne.2 k1
    by_cases k3 : k = 3
    · have q3 : (k == 3) = true := beq_iff_eq.2 k3
      obtain ⟨P1, hP1⟩ : ∃ P, putB i 4 = P := ⟨_, rfl⟩
      have HP1 : Hid (putB i 4 = P1) := hP1
      have YP1 : Hid (P1.length = 4) := by show _ = _; rw [← hP1, putB_len]
      clear hP1
      obtain ⟨L1, hL1⟩ : ∃ L, L = [byt k.toNat 0] ++ P1 := ⟨_, rfl⟩
      have HL1 : Hid (L1 = [byt k.toNat 0] ++ P1) := hL1
      have NL1 : Hid (L1.length = [byt k.toNat 0].length + P1.length) := by show _ = _; rw [hL1, List.length_append]
      have XL1 : Hid (L1.length = 5) := by show _ = _; rw [NL1.out, YP1.out] <;> rfl
      have FL1 : Hid ([byt k.toNat 0].length + P1.length ≤ 100) := by show _ ≤ _; rw [← NL1.out, XL1.out]; decide
      clear hL1
      have hE : Hid (L1 = E) := by
        show _ = _
        rw [he.out]
        unfold bodB
        rw [if_neg k0, if_pos (by exact .inr k3)]
        simp only [Int.toNat_natCast]
        rw [HL1.out, HP1.out]
      go_wp2_with fail
      refine (num_p HP1 _ (by have := Bi.out; omega) (by omega)).mono ?_
      rintro e wn ⟨An, cn, rfl, rn, bn, _⟩
      have RN : Hid (Row w wn w1.heap.size (some ⟨w1.heap.size, 0, none⟩) 1 [byt k.toNat 0]) := RW.out.below bn
      have RR : Hid (wn.ownsRow w1.heap.size 5 1 (.slice (some ⟨w1.heap.size, 0, none⟩) 1 1) 1 (bts [byt k.toNat 0])) := RN.out.r
      have YN : Hid (By wn wn.heap.size An P1) := Rd.of_own rn.out
      have XX : Hid (L1.length = 1 + P1.length) := NL1.out
      clear rn bn j0 j1 j2 j3 j4 j5 j6 j7 j8 j9 j10 j11
      go_wp2_with (at_builtin; refine wpList_appR (w0 := w) (B := w.heap.size) (nm := L1.length) RR RN.out.b YN XX.out rfl _ _ _ rfl i0 (.int .u8 0) 1 Try.underlying26 hi hz0 hz1 hz2 rfl (by decide) rfl rfl (by rw [bts_len]; simp) (bts_one _) (by have := YP1.out; unfold maxLen; omega) (by have := YP1.out; omega) RN.out.h RN.out.z (Nat.le_trans RN.out.h RN.out.z) ?_; intro A5 c5 w5 ho hb hs)
      have YE : Hid (By w5 w5.heap.size A5 L1) := by
        have h := ho.out
        rw [← bts_app, ← HL1.out] at h
        exact Rd.of_own h
      have BE := Lib.hid hb
      clear ho hb
      go_wp2_with fail
      go_ret
      rw [← hE.out]
      exact ⟨_, _, rfl, YE.out, BE.out⟩
    have q3 : (k == 3) = false := beq_eq_false_iff_ne.2 k3
    have k13 : Hid (¬ (k = 1 ∨ k = 3)) := by show ¬ _; omega
    by_cases k2 : k = 2
    · have q2 : (k == 2) = true := beq_iff_eq.2 k2
      obtain ⟨P1, hP1⟩ : ∃ P, putB i 4 = P := ⟨_, rfl⟩
      have HP1 : Hid (putB i 4 = P1) := hP1
      have YP1 : Hid (P1.length = 4) := by show _ = _; rw [← hP1, putB_len]
      clear hP1
      obtain ⟨P2, hP2⟩ : ∃ P, putB y 8 = P := ⟨_, rfl⟩
      have HP2 : Hid (putB y 8 = P2) := hP2
      have YP2 : Hid (P2.length = 8) := by show _ = _; rw [← hP2, putB_len]
      clear hP2
      obtain ⟨L1, hL1⟩ : ∃ L, L = [byt k.toNat 0] ++ P1 := ⟨_, rfl⟩
      have HL1 : Hid (L1 = [byt k.toNat 0] ++ P1) := hL1
      have NL1 : Hid (L1.length = [byt k.toNat 0].length + P1.length) := by show _ = _; rw [hL1, List.length_append]
      have XL1 : Hid (L1.length = 5) := by show _ = _; rw [NL1.out, YP1.out] <;> rfl
      have FL1 : Hid ([byt k.toNat 0].length + P1.length ≤ 100) := by show _ ≤ _; rw [← NL1.out, XL1.out]; decide
      clear hL1
      obtain ⟨L2, hL2⟩ : ∃ L, L = L1 ++ P2 := ⟨_, rfl⟩
      have HL2 : Hid (L2 = L1 ++ P2) := hL2
      have NL2 : Hid (L2.length = L1.length + P2.length) := by show _ = _; rw [hL2, List.length_append]
      have XL2 : Hid (L2.length = 13) := by show _ = _; rw [NL2.out, XL1.out, YP2.out] <;> rfl
      have FL2 : Hid (L1.length + P2.length ≤ 100) := by show _ ≤ _; rw [← NL2.out, XL2.out]; decide
      clear hL2
      have hE : Hid (L2 = E) := by
        show _ = _
        rw [he.out]
        unfold bodB
        rw [if_neg k0, if_neg k13.out, if_pos k2]
        simp only [Int.toNat_natCast]
        rw [HL2.out, HL1.out, HP1.out, HP2.out, List.append_assoc]
      go_upto_region 17 with fail
      clear j0 j1 j2 j3 j4 j5 j6 j7 j8 j9 j10 j11
      have RD : Hid (Row w wX.drew w1.heap.size (some ⟨w1.heap.size, 0, none⟩) 1 [byt k.toNat 0]) := RW.out.drew
      have KD : Hid (Blk wX.drew w.heap.size 25 #[.int .i64 k, .int .i64 (a : Int), .int .i64 (s : Int), .bool x, .int .i64 (p : Int), .int .i64 (q : Int), .int .i64 (n : Int), .int .i64 (t : Int), .int .i64 (i : Int), .int .i64 (y : Int), .int .i64 (z : Int), .int .i64 (v : Int)]) := KX.out
      have qd : wX.drew.cell? ⟨w.heap.size, 8, none⟩ = some (.int .i64 (i : Int)) ∧ wX.drew.cell? ⟨w.heap.size, 9, none⟩ = some (.int .i64 (y : Int)) := ⟨KD.out.cell 8, KD.out.cell 9⟩
      refine wp_region_held_drew (S := (fun w' => w'.cell? ⟨w.heap.size, 8, none⟩ = some (.int .i64 (i : Int)) ∧ w'.cell? ⟨w.heap.size, 9, none⟩ = some (.int .i64 (y : Int)))) (by kernel_rfl) qd (fun hHeld => ?_)
      refine wpAnyH_take (i := 0) (v := ?_) rfl (by kernel_rfl) (by kernel_rfl) (by kernel_rfl) (fun _ _ _ h => h) (Or.inl ⟨by rfl, ?_⟩) (by assumption) ?_
      rotate_left
      · intro w' hSw
        (try dsimp only at hSw)
        go_simp
        try with_reducible rfl
      (try simp only [Act.put, List.getElem_toArray, List.getElem_cons_succ, List.getElem_cons_zero, List.setIfInBounds_toArray, List.set_cons_zero, List.set_cons_succ])
      refine wpAnyH_take (i := 1) (v := ?_) rfl (by kernel_rfl) (by kernel_rfl) (by kernel_rfl) (fun _ _ _ h => h) (Or.inl ⟨by rfl, ?_⟩) (by assumption) ?_
      rotate_left
      · intro w' hSw
        (try dsimp only at hSw)
        go_simp
        try with_reducible rfl
      (try simp only [Act.put, List.getElem_toArray, List.getElem_cons_succ, List.getElem_cons_zero, List.setIfInBounds_toArray, List.set_cons_zero, List.set_cons_succ])
      refine wpAnyH_take (i := 2) (v := ?_) rfl (by kernel_rfl) (by kernel_rfl) (by kernel_rfl) (fun _ _ _ h => h) (Or.inl ⟨by rfl, ?_⟩) (by assumption) ?_
      rotate_left
      · intro w' hSw
        (try dsimp only at hSw)
        go_simp
        try with_reducible rfl
      (try simp only [Act.put, List.getElem_toArray, List.getElem_cons_succ, List.getElem_cons_zero, List.setIfInBounds_toArray, List.set_cons_zero, List.set_cons_succ])
      refine wpAnyH_take (i := 5) (v := ?_) rfl (by kernel_rfl) (by kernel_rfl) (by kernel_rfl) (fun _ _ _ h => h) (Or.inl ⟨by rfl, ?_⟩) (by assumption) ?_
      rotate_left
      · intro w' hSw
        (try dsimp only at hSw)
        go_simp
        try with_reducible rfl
      (try simp only [Act.put, List.getElem_toArray, List.getElem_cons_succ, List.getElem_cons_zero, List.setIfInBounds_toArray, List.set_cons_zero, List.set_cons_succ])
      refine wpAnyH_take (i := 6) (v := ?_) rfl (by kernel_rfl) (by kernel_rfl) (by kernel_rfl) (fun _ _ _ h => h) (Or.inl ⟨by rfl, ?_⟩) (by assumption) ?_
      rotate_left
      · intro w' hSw
        (try dsimp only at hSw)
        go_simp
        try with_reducible rfl
      (try simp only [Act.put, List.getElem_toArray, List.getElem_cons_succ, List.getElem_cons_zero, List.setIfInBounds_toArray, List.set_cons_zero, List.set_cons_succ])
      refine wpAnyH_ready (rs := [3]) (by kernel_rfl) (by simp) ?_
      refine AllReadyH.cons rfl (fun K' hK => ?_) AllReadyH.nil
      go_simp
      refine (num_p HP1 _ (by have := Bi.out; omega) (by omega)).mono ?_
      rintro e wn ⟨An, cn, rfl, rn, bn, _⟩
      have RN : Hid (Row w wn w1.heap.size (some ⟨w1.heap.size, 0, none⟩) 1 [byt k.toNat 0]) := RD.out.below bn
      have KN : Hid (Blk wn w.heap.size 25 #[.int .i64 k, .int .i64 (a : Int), .int .i64 (s : Int), .bool x, .int .i64 (p : Int), .int .i64 (q : Int), .int .i64 (n : Int), .int .i64 (t : Int), .int .i64 (i : Int), .int .i64 (y : Int), .int .i64 (z : Int), .int .i64 (v : Int)]) := Blk.below' KD.out bn
      have YN : Hid (By wn wn.heap.size An P1) := Rd.of_own rn.out
      have qn : wn.cell? ⟨w.heap.size, 8, none⟩ = some (.int .i64 (i : Int)) ∧ wn.cell? ⟨w.heap.size, 9, none⟩ = some (.int .i64 (y : Int)) := ⟨KN.out.cell 8, KN.out.cell 9⟩
      clear rn bn
      go_wp2_with fail
      refine hK.out _ _ qn (fun hHeld => ?_)
      clear hK K'
      (try simp only [Act.put, List.getElem_toArray, List.getElem_cons_succ, List.getElem_cons_zero, List.setIfInBounds_toArray, List.set_cons_zero, List.set_cons_succ])
      refine wpAnyH_ready (rs := [4]) (by kernel_rfl) (by simp) ?_
      refine AllReadyH.cons rfl (fun K' hK => ?_) AllReadyH.nil
      
      refine step_appG (v := .slice (some ⟨w1.heap.size, 0, none⟩) [byt k.toNat 0].length 1) (n := [byt k.toNat 0].length) (m := P1.length) (nm := L1.length) (base := w1.heap.size) RN.out.r YN NL1.out rfl (.tmp 63) (.tmp 66) 26 rfl i0 (.int .u8 0) 1 Try.underlying26 hi hz0 hz1 hz2 rfl (by decide) rfl rfl (by rw [bts_len]; simp) (bts_one _) (by have := FL1.out; unfold maxLen; omega) (by have := FL1.out; omega) RN.out.z ?_
      intro Ap cp wp ho hg
      have Rwp : Hid (Row w wp w1.heap.size Ap cp L1) := RN.out.grown ho HL1.out rfl hg
      have Kwp : Hid (Blk wp w.heap.size 25 #[.int .i64 k, .int .i64 (a : Int), .int .i64 (s : Int), .bool x, .int .i64 (p : Int), .int .i64 (q : Int), .int .i64 (n : Int), .int .i64 (t : Int), .int .i64 (i : Int), .int .i64 (y : Int), .int .i64 (z : Int), .int .i64 (v : Int)]) := Oth.grown RN.out.r hg _ _ _ (by decide) KN.out
      have qwp : wp.cell? ⟨w.heap.size, 8, none⟩ = some (.int .i64 (i : Int)) ∧ wp.cell? ⟨w.heap.size, 9, none⟩ = some (.int .i64 (y : Int)) := ⟨Kwp.out.cell 8, Kwp.out.cell 9⟩
      clear ho hg
      refine hK.out _ _ qwp (fun hHeld => ?_)
      clear hK K'
      (try simp only [Act.put, List.getElem_toArray, List.getElem_cons_succ, List.getElem_cons_zero, List.setIfInBounds_toArray, List.set_cons_zero, List.set_cons_succ])
      refine wpAnyH_ready (rs := [7]) (by kernel_rfl) (by simp) ?_
      refine AllReadyH.cons rfl (fun K' hK => ?_) AllReadyH.nil
      go_simp
      refine (num_p HP2 _ (by have := By'.out; omega) (by omega)).mono ?_
      rintro e wo ⟨Ao, co, rfl, ro, bo, _⟩
      have RO : Hid (Row w wo w1.heap.size Ap cp L1) := Rwp.out.below bo
      have KO : Hid (Blk wo w.heap.size 25 #[.int .i64 k, .int .i64 (a : Int), .int .i64 (s : Int), .bool x, .int .i64 (p : Int), .int .i64 (q : Int), .int .i64 (n : Int), .int .i64 (t : Int), .int .i64 (i : Int), .int .i64 (y : Int), .int .i64 (z : Int), .int .i64 (v : Int)]) := Blk.below' Kwp.out bo
      have YO : Hid (By wo wo.heap.size Ao P2) := Rd.of_own ro.out
      have qo : wo.cell? ⟨w.heap.size, 8, none⟩ = some (.int .i64 (i : Int)) ∧ wo.cell? ⟨w.heap.size, 9, none⟩ = some (.int .i64 (y : Int)) := ⟨KO.out.cell 8, KO.out.cell 9⟩
      clear ro bo
      go_wp2_with fail
      refine hK.out _ _ qo (fun hHeld => ?_)
      clear hK K'
      (try simp only [Act.put, List.getElem_toArray, List.getElem_cons_succ, List.getElem_cons_zero, List.setIfInBounds_toArray, List.set_cons_zero, List.set_cons_succ])
      refine wpAnyH_ready (rs := [8]) (by kernel_rfl) (by simp) ?_
      refine AllReadyH.cons rfl (fun K' hK => ?_) AllReadyH.nil
      
      refine step_appG (v := .slice Ap L1.length cp) (n := L1.length) (m := P2.length) (nm := L2.length) (base := w1.heap.size) RO.out.r YO NL2.out rfl (.tmp 67) (.tmp 70) 26 rfl i0 (.int .u8 0) 1 Try.underlying26 hi hz0 hz1 hz2 rfl (by decide) rfl rfl (by rw [bts_len]; simp) (bts_one _) (by have := FL2.out; unfold maxLen; omega) (by have := FL2.out; omega) RO.out.z ?_
      intro Aq cq wq ho hg
      have Rwq : Hid (Row w wq w1.heap.size Aq cq L2) := RO.out.grown ho HL2.out rfl hg
      have Kwq : Hid (Blk wq w.heap.size 25 #[.int .i64 k, .int .i64 (a : Int), .int .i64 (s : Int), .bool x, .int .i64 (p : Int), .int .i64 (q : Int), .int .i64 (n : Int), .int .i64 (t : Int), .int .i64 (i : Int), .int .i64 (y : Int), .int .i64 (z : Int), .int .i64 (v : Int)]) := Oth.grown RO.out.r hg _ _ _ (by decide) KO.out
      have qwq : wq.cell? ⟨w.heap.size, 8, none⟩ = some (.int .i64 (i : Int)) ∧ wq.cell? ⟨w.heap.size, 9, none⟩ = some (.int .i64 (y : Int)) := ⟨Kwq.out.cell 8, Kwq.out.cell 9⟩
      clear ho hg
      refine hK.out _ _ qwq (fun hHeld => ?_)
      clear hK K'
      (try simp only [Act.put, List.getElem_toArray, List.getElem_cons_succ, List.getElem_cons_zero, List.setIfInBounds_toArray, List.set_cons_zero, List.set_cons_succ])
      refine wpAnyH_take (i := 9) (v := ?_) rfl (by kernel_rfl) (by kernel_rfl) (by kernel_rfl) (fun _ _ _ h => h) (Or.inl ⟨by rfl, ?_⟩) (by assumption) ?_
      rotate_left
      · intro w' hSw
        (try dsimp only at hSw)
        go_simp
        try with_reducible rfl
      (try simp only [Act.put, List.getElem_toArray, List.getElem_cons_succ, List.getElem_cons_zero, List.setIfInBounds_toArray, List.set_cons_zero, List.set_cons_succ])
      refine wpAnyH_done (by kernel_rfl) ?_ _
      clear RD KD qd RN KN YN qn Rwp Kwp qwp RO KO YO qo qwq hHeld RW KX
      have RW := Rwq
      have KX := Kwq
      clear Rwq Kwq
      go_wp2_with fail
      go_ret
      rw [← hE.out]
      exact ⟨_, _, rfl, Rd.of_own RW.out.r, RW.out.b⟩
    have q2 : (k == 2) = false := beq_eq_false_iff_ne.2 k2
    by_cases k6 : k = 6
    · have q6 : (k == 6) = true := beq_iff_eq.2 k6
      obtain ⟨P1, hP1⟩ : ∃ P, putB z 2 = P := ⟨_, rfl⟩
      have HP1 : Hid (putB z 2 = P1) := hP1
      have YP1 : Hid (P1.length = 2) := by show _ = _; rw [← hP1, putB_len]
      clear hP1
      obtain ⟨P2, hP2⟩ : ∃ P, putB v 8 = P := ⟨_, rfl⟩
      have HP2 : Hid (putB v 8 = P2) := hP2
      have YP2 : Hid (P2.length = 8) := by show _ = _; rw [← hP2, putB_len]
      clear hP2
      obtain ⟨L1, hL1⟩ : ∃ L, L = [byt k.toNat 0] ++ P1 := ⟨_, rfl⟩
      have HL1 : Hid (L1 = [byt k.toNat 0] ++ P1) := hL1
      have NL1 : Hid (L1.length = [byt k.toNat 0].length + P1.length) := by show _ = _; rw [hL1, List.length_append]
      have XL1 : Hid (L1.length = 3) := by show _ = _; rw [NL1.out, YP1.out] <;> rfl
      have FL1 : Hid ([byt k.toNat 0].length + P1.length ≤ 100) := by show _ ≤ _; rw [← NL1.out, XL1.out]; decide
      clear hL1
      obtain ⟨L2, hL2⟩ : ∃ L, L = L1 ++ P2 := ⟨_, rfl⟩
      have HL2 : Hid (L2 = L1 ++ P2) := hL2
      have NL2 : Hid (L2.length = L1.length + P2.length) := by show _ = _; rw [hL2, List.length_append]
      have XL2 : Hid (L2.length = 11) := by show _ = _; rw [NL2.out, XL1.out, YP2.out] <;> rfl
      have FL2 : Hid (L1.length + P2.length ≤ 100) := by show _ ≤ _; rw [← NL2.out, XL2.out]; decide
      clear hL2
      have hE : Hid (L2 = E) := by
        show _ = _
        rw [he.out]
        unfold bodB
        rw [if_neg k0, if_neg k13.out, if_neg k2, if_pos k6]
        simp only [Int.toNat_natCast]
        rw [HL2.out, HL1.out, HP1.out, HP2.out, List.append_assoc]
      go_upto_region 19 with fail
      clear j0 j1 j2 j3 j4 j5 j6 j7 j8 j9 j10 j11
      have RD : Hid (Row w wX.drew w1.heap.size (some ⟨w1.heap.size, 0, none⟩) 1 [byt k.toNat 0]) := RW.out.drew
      have KD : Hid (Blk wX.drew w.heap.size 25 #[.int .i64 k, .int .i64 (a : Int), .int .i64 (s : Int), .bool x, .int .i64 (p : Int), .int .i64 (q : Int), .int .i64 (n : Int), .int .i64 (t : Int), .int .i64 (i : Int), .int .i64 (y : Int), .int .i64 (z : Int), .int .i64 (v : Int)]) := KX.out
      have qd : wX.drew.cell? ⟨w.heap.size, 10, none⟩ = some (.int .i64 (z : Int)) ∧ wX.drew.cell? ⟨w.heap.size, 11, none⟩ = some (.int .i64 (v : Int)) := ⟨KD.out.cell 10, KD.out.cell 11⟩
      refine wp_region_held_drew (S := (fun w' => w'.cell? ⟨w.heap.size, 10, none⟩ = some (.int .i64 (z : Int)) ∧ w'.cell? ⟨w.heap.size, 11, none⟩ = some (.int .i64 (v : Int)))) (by kernel_rfl) qd (fun hHeld => ?_)
      refine wpAnyH_take (i := 0) (v := ?_) rfl (by kernel_rfl) (by kernel_rfl) (by kernel_rfl) (fun _ _ _ h => h) (Or.inl ⟨by rfl, ?_⟩) (by assumption) ?_
      rotate_left
      · intro w' hSw
        (try dsimp only at hSw)
        go_simp
        try with_reducible rfl
      (try simp only [Act.put, List.getElem_toArray, List.getElem_cons_succ, List.getElem_cons_zero, List.setIfInBounds_toArray, List.set_cons_zero, List.set_cons_succ])
      refine wpAnyH_take (i := 1) (v := ?_) rfl (by kernel_rfl) (by kernel_rfl) (by kernel_rfl) (fun _ _ _ h => h) (Or.inl ⟨by rfl, ?_⟩) (by assumption) ?_
      rotate_left
      · intro w' hSw
        (try dsimp only at hSw)
        go_simp
        try with_reducible rfl
      (try simp only [Act.put, List.getElem_toArray, List.getElem_cons_succ, List.getElem_cons_zero, List.setIfInBounds_toArray, List.set_cons_zero, List.set_cons_succ])
      refine wpAnyH_take (i := 2) (v := ?_) rfl (by kernel_rfl) (by kernel_rfl) (by kernel_rfl) (fun _ _ _ h => h) (Or.inl ⟨by rfl, ?_⟩) (by assumption) ?_
      rotate_left
      · intro w' hSw
        (try dsimp only at hSw)
        go_simp
        try with_reducible rfl
      (try simp only [Act.put, List.getElem_toArray, List.getElem_cons_succ, List.getElem_cons_zero, List.setIfInBounds_toArray, List.set_cons_zero, List.set_cons_succ])
      refine wpAnyH_take (i := 5) (v := ?_) rfl (by kernel_rfl) (by kernel_rfl) (by kernel_rfl) (fun _ _ _ h => h) (Or.inl ⟨by rfl, ?_⟩) (by assumption) ?_
      rotate_left
      · intro w' hSw
        (try dsimp only at hSw)
        go_simp
        try with_reducible rfl
      (try simp only [Act.put, List.getElem_toArray, List.getElem_cons_succ, List.getElem_cons_zero, List.setIfInBounds_toArray, List.set_cons_zero, List.set_cons_succ])
      refine wpAnyH_take (i := 6) (v := ?_) rfl (by kernel_rfl) (by kernel_rfl) (by kernel_rfl) (fun _ _ _ h => h) (Or.inl ⟨by rfl, ?_⟩) (by assumption) ?_
      rotate_left
      · intro w' hSw
        (try dsimp only at hSw)
        go_simp
        try with_reducible rfl
      (try simp only [Act.put, List.getElem_toArray, List.getElem_cons_succ, List.getElem_cons_zero, List.setIfInBounds_toArray, List.set_cons_zero, List.set_cons_succ])
      refine wpAnyH_ready (rs := [3]) (by kernel_rfl) (by simp) ?_
      refine AllReadyH.cons rfl (fun K' hK => ?_) AllReadyH.nil
      go_simp
      refine (num_p HP1 _ (by have := Bz.out; omega) (by omega)).mono ?_
      rintro e wn ⟨An, cn, rfl, rn, bn, _⟩
      have RN : Hid (Row w wn w1.heap.size (some ⟨w1.heap.size, 0, none⟩) 1 [byt k.toNat 0]) := RD.out.below bn
      have KN : Hid (Blk wn w.heap.size 25 #[.int .i64 k, .int .i64 (a : Int), .int .i64 (s : Int), .bool x, .int .i64 (p : Int), .int .i64 (q : Int), .int .i64 (n : Int), .int .i64 (t : Int), .int .i64 (i : Int), .int .i64 (y : Int), .int .i64 (z : Int), .int .i64 (v : Int)]) := Blk.below' KD.out bn
      have YN : Hid (By wn wn.heap.size An P1) := Rd.of_own rn.out
      have qn : wn.cell? ⟨w.heap.size, 10, none⟩ = some (.int .i64 (z : Int)) ∧ wn.cell? ⟨w.heap.size, 11, none⟩ = some (.int .i64 (v : Int)) := ⟨KN.out.cell 10, KN.out.cell 11⟩
      clear rn bn
      go_wp2_with fail
      refine hK.out _ _ qn (fun hHeld => ?_)
      clear hK K'
      (try simp only [Act.put, List.getElem_toArray, List.getElem_cons_succ, List.getElem_cons_zero, List.setIfInBounds_toArray, List.set_cons_zero, List.set_cons_succ])
      refine wpAnyH_ready (rs := [4]) (by kernel_rfl) (by simp) ?_
      refine AllReadyH.cons rfl (fun K' hK => ?_) AllReadyH.nil
      
      refine step_appG (v := .slice (some ⟨w1.heap.size, 0, none⟩) [byt k.toNat 0].length 1) (n := [byt k.toNat 0].length) (m := P1.length) (nm := L1.length) (base := w1.heap.size) RN.out.r YN NL1.out rfl (.tmp 74) (.tmp 77) 26 rfl i0 (.int .u8 0) 1 Try.underlying26 hi hz0 hz1 hz2 rfl (by decide) rfl rfl (by rw [bts_len]; simp) (bts_one _) (by have := FL1.out; unfold maxLen; omega) (by have := FL1.out; omega) RN.out.z ?_
      intro Ap cp wp ho hg
      have Rwp : Hid (Row w wp w1.heap.size Ap cp L1) := RN.out.grown ho HL1.out rfl hg
      have Kwp : Hid (Blk wp w.heap.size 25 #[.int .i64 k, .int .i64 (a : Int), .int .i64 (s : Int), .bool x, .int .i64 (p : Int), .int .i64 (q : Int), .int .i64 (n : Int), .int .i64 (t : Int), .int .i64 (i : Int), .int .i64 (y : Int), .int .i64 (z : Int), .int .i64 (v : Int)]) := Oth.grown RN.out.r hg _ _ _ (by decide) KN.out
      have qwp : wp.cell? ⟨w.heap.size, 10, none⟩ = some (.int .i64 (z : Int)) ∧ wp.cell? ⟨w.heap.size, 11, none⟩ = some (.int .i64 (v : Int)) := ⟨Kwp.out.cell 10, Kwp.out.cell 11⟩
      clear ho hg
      refine hK.out _ _ qwp (fun hHeld => ?_)
      clear hK K'
      (try simp only [Act.put, List.getElem_toArray, List.getElem_cons_succ, List.getElem_cons_zero, List.setIfInBounds_toArray, List.set_cons_zero, List.set_cons_succ])
      refine wpAnyH_ready (rs := [7]) (by kernel_rfl) (by simp) ?_
      refine AllReadyH.cons rfl (fun K' hK => ?_) AllReadyH.nil
      go_simp
      refine (num_p HP2 _ (by have := Bv.out; omega) (by omega)).mono ?_
      rintro e wo ⟨Ao, co, rfl, ro, bo, _⟩
      have RO : Hid (Row w wo w1.heap.size Ap cp L1) := Rwp.out.below bo
      have KO : Hid (Blk wo w.heap.size 25 #[.int .i64 k, .int .i64 (a : Int), .int .i64 (s : Int), .bool x, .int .i64 (p : Int), .int .i64 (q : Int), .int .i64 (n : Int), .int .i64 (t : Int), .int .i64 (i : Int), .int .i64 (y : Int), .int .i64 (z : Int), .int .i64 (v : Int)]) := Blk.below' Kwp.out bo
      have YO : Hid (By wo wo.heap.size Ao P2) := Rd.of_own ro.out
      have qo : wo.cell? ⟨w.heap.size, 10, none⟩ = some (.int .i64 (z : Int)) ∧ wo.cell? ⟨w.heap.size, 11, none⟩ = some (.int .i64 (v : Int)) := ⟨KO.out.cell 10, KO.out.cell 11⟩
      clear ro bo
      go_wp2_with fail
      refine hK.out _ _ qo (fun hHeld => ?_)
      clear hK K'
      (try simp only [Act.put, List.getElem_toArray, List.getElem_cons_succ, List.getElem_cons_zero, List.setIfInBounds_toArray, List.set_cons_zero, List.set_cons_succ])
      refine wpAnyH_ready (rs := [8]) (by kernel_rfl) (by simp) ?_
      refine AllReadyH.cons rfl (fun K' hK => ?_) AllReadyH.nil
      
      refine step_appG (v := .slice Ap L1.length cp) (n := L1.length) (m := P2.length) (nm := L2.length) (base := w1.heap.size) RO.out.r YO NL2.out rfl (.tmp 78) (.tmp 81) 26 rfl i0 (.int .u8 0) 1 Try.underlying26 hi hz0 hz1 hz2 rfl (by decide) rfl rfl (by rw [bts_len]; simp) (bts_one _) (by have := FL2.out; unfold maxLen; omega) (by have := FL2.out; omega) RO.out.z ?_
      intro Aq cq wq ho hg
      have Rwq : Hid (Row w wq w1.heap.size Aq cq L2) := RO.out.grown ho HL2.out rfl hg
      have Kwq : Hid (Blk wq w.heap.size 25 #[.int .i64 k, .int .i64 (a : Int), .int .i64 (s : Int), .bool x, .int .i64 (p : Int), .int .i64 (q : Int), .int .i64 (n : Int), .int .i64 (t : Int), .int .i64 (i : Int), .int .i64 (y : Int), .int .i64 (z : Int), .int .i64 (v : Int)]) := Oth.grown RO.out.r hg _ _ _ (by decide) KO.out
      have qwq : wq.cell? ⟨w.heap.size, 10, none⟩ = some (.int .i64 (z : Int)) ∧ wq.cell? ⟨w.heap.size, 11, none⟩ = some (.int .i64 (v : Int)) := ⟨Kwq.out.cell 10, Kwq.out.cell 11⟩
      clear ho hg
      refine hK.out _ _ qwq (fun hHeld => ?_)
      clear hK K'
      (try simp only [Act.put, List.getElem_toArray, List.getElem_cons_succ, List.getElem_cons_zero, List.setIfInBounds_toArray, List.set_cons_zero, List.set_cons_succ])
      refine wpAnyH_take (i := 9) (v := ?_) rfl (by kernel_rfl) (by kernel_rfl) (by kernel_rfl) (fun _ _ _ h => h) (Or.inl ⟨by rfl, ?_⟩) (by assumption) ?_
      rotate_left
      · intro w' hSw
        (try dsimp only at hSw)
        go_simp
        try with_reducible rfl
      (try simp only [Act.put, List.getElem_toArray, List.getElem_cons_succ, List.getElem_cons_zero, List.setIfInBounds_toArray, List.set_cons_zero, List.set_cons_succ])
      refine wpAnyH_done (by kernel_rfl) ?_ _
      clear RD KD qd RN KN YN qn Rwp Kwp qwp RO KO YO qo qwq hHeld RW KX
      have RW := Rwq
      have KX := Kwq
      clear Rwq Kwq
      go_wp2_with fail
      go_ret
      rw [← hE.out]
      exact ⟨_, _, rfl, Rd.of_own RW.out.r, RW.out.b⟩
    have q6 : (k == 6) = false := beq_eq_false_iff_ne.2 k6
    have hE : Hid ([byt k.toNat 0] = E) := by
      show _ = _
      rw [he.out]
      unfold bodB
      rw [if_neg k0, if_neg k13.out, if_neg k2, if_neg k6]
      simp
    go_wp2_with fail
    go_ret
    rw [← hE.out]
    exact ⟨_, _, rfl, Rd.of_own RW.out.r, RW.out.b⟩
end Go.Proofs.Ytebnjhfmlihjcaa.Wre
