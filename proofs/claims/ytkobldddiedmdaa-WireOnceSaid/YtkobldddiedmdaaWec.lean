/- Contract: a message's bytes, by wire. No condition. -/
import Derived.Test.YtkobldddiedmdaaWpo
namespace Go.Proofs.Ytkobldddiedmdaa.Wec
set_option maxRecDepth 100000
open Go.ChangeShapes Go.WideShapes Go.ChangeAt Go.RowKit Mem Tre Ref3 Law3 Fix3 CrdB CrdC Rr4 Wpl Wmr Wrt St7 Rul6 Wen Tl5 Wpo
set_option linter.unusedVariables false
set_option linter.unusedSimpArgs false

set_option maxHeartbeats 8000000 in
theorem encode_any (m : M) (w : World) (hwf : WfM m) : Calls Try.prog 6 #[mvl m] w (MadeBy w.heap.size (encB m) w) := by
  obtain ⟨k, a, s, x, p, q, n, t, i, y, z, v⟩ := m
  obtain ⟨wk, wa, ws, wp, wq, wn, wt, wi, wy, wz, wv⟩ := hwf
  simp only [inI] at wk wa ws wp wq wn wt wi wy wz wv
  show Calls Try.prog 6 #[.agg #[.int .i64 k, .int .i64 a, .int .i64 s, .bool x, .int .i64 p, .int .i64 q, .int .i64 n, .int .i64 t, .int .i64 i, .int .i64 y, .int .i64 z, .int .i64 v]] w (MadeBy w.heap.size (encB ⟨k, a, s, x, p, q, n, t, i, y, z, v⟩) w)
  have b0 : Hid (Below w.heap.size w (w.alloc (.cells #[.int .i64 k, .int .i64 a, .int .i64 s, .bool x, .int .i64 p, .int .i64 q, .int .i64 n, .int .i64 t, .int .i64 i, .int .i64 y, .int .i64 z, .int .i64 v] 28))) := (Below.refl _ _).alloc (Nat.le_refl _) _
  have K0 : Hid (Blk (w.alloc (.cells #[.int .i64 k, .int .i64 a, .int .i64 s, .bool x, .int .i64 p, .int .i64 q, .int .i64 n, .int .i64 t, .int .i64 i, .int .i64 y, .int .i64 z, .int .i64 v] 28)) w.heap.size 28 #[.int .i64 k, .int .i64 a, .int .i64 s, .bool x, .int .i64 p, .int .i64 q, .int .i64 n, .int .i64 t, .int .i64 i, .int .i64 y, .int .i64 z, .int .i64 v]) := Blk.fresh w _ _
  have s0 : Hid ((w.alloc (.cells #[.int .i64 k, .int .i64 a, .int .i64 s, .bool x, .int .i64 p, .int .i64 q, .int .i64 n, .int .i64 t, .int .i64 i, .int .i64 y, .int .i64 z, .int .i64 v] 28)).heap.size = w.heap.size + 1) := by show _ = _; simp
  cases hR : rightM ⟨k, a, s, x, p, q, n, t, i, y, z, v⟩ with
  | false =>
    have he : encB ⟨k, a, s, x, p, q, n, t, i, y, z, v⟩ = [] := by unfold encB; rw [hR]; rfl
    rw [he]
    have HR := Lib.hid hR
    clear hR wk wa ws wp wq wn wt wi wy wz wv
    go_enter Try.func6, Try.ntmps6
    go_wp2_with fail
    refine (right_any ⟨k, a, s, x, p, q, n, t, i, y, z, v⟩ _).mono ?_
    rintro e w1 ⟨rfl, hb1⟩
    rw [HR.out]
    have b1 := below_step b0.out hb1
    go_wp2_with fail
    go_ret
    exact ⟨none, 0, rfl, World.ownsRow_nil _ _ _ _, b1, Oth.below b1⟩
  | true =>
    obtain ⟨hk0, hk6, -, fa, fs, fz, fi, fp, fq, fn, ft, fy, fv⟩ := rightM_of hR
    simp only [] at hk0 hk6 fa fs fz fi fp fq fn ft fy fv
    have he : Hid (encB ⟨k, a, s, x, p, q, n, t, i, y, z, v⟩ = [byt k.toNat 0] ++ bodB ⟨k, a, s, x, p, q, n, t, i, y, z, v⟩) := by show _ = _; unfold encB; rw [hR]; rfl
    generalize encB ⟨k, a, s, x, p, q, n, t, i, y, z, v⟩ = E at he ⊢
    have hbk : Hid (k % 256 = ((byt k.toNat 0).toNat : Int)) := by show _ = _; rw [byt_nat]; simp; omega
    have FK : Hid ((0 ≤ k ∧ k ≤ 6) ∧ (0 ≤ a ∧ a ≤ 9223372036854775807) ∧ (0 ≤ s ∧ s ≤ 9223372036854775807) ∧ (0 ≤ z ∧ z ≤ 9223372036854775807) ∧ (0 ≤ i ∧ i ≤ 9223372036854775807)) := ⟨⟨hk0, hk6⟩, ⟨fa.1, wa.2⟩, ⟨fs.1, ws.2⟩, ⟨fz.1, wz.2⟩, ⟨fi.1, wi.2⟩⟩
    have FL : Hid ((0 ≤ p ∧ p ≤ 9223372036854775807) ∧ (0 ≤ q ∧ q ≤ 9223372036854775807) ∧ (0 ≤ n ∧ n ≤ 9223372036854775807) ∧ (0 ≤ t ∧ t ≤ 9223372036854775807) ∧ (0 ≤ y ∧ y ≤ 9223372036854775807) ∧ (0 ≤ v ∧ v ≤ 9223372036854775807)) := ⟨⟨fp, wp.2⟩, ⟨fq, wq.2⟩, ⟨fn, wn.2⟩, ⟨ft, wt.2⟩, ⟨fy, wy.2⟩, ⟨fv, wv.2⟩⟩
    clear hk0 hk6 fa fs fz fi fp fq fn ft fy fv wk wa ws wp wq wn wt wi wy wz wv
    have HR := Lib.hid hR
    clear hR
    go_enter Try.func6, Try.ntmps6
    go_wp2_with fail
    refine (right_any ⟨k, a, s, x, p, q, n, t, i, y, z, v⟩ _).mono ?_
    rintro e w1 ⟨rfl, hb1⟩
    rw [HR.out]
    have b1 : Hid (Below w.heap.size w w1) := below_step b0.out hb1
    have K1 : Hid (Blk w1 w.heap.size 28 #[.int .i64 k, .int .i64 a, .int .i64 s, .bool x, .int .i64 p, .int .i64 q, .int .i64 n, .int .i64 t, .int .i64 i, .int .i64 y, .int .i64 z, .int .i64 v]) := Blk.below' K0.out hb1
    clear b0 K0 s0 hb1
    have hgw : w.heap.size < w1.heap.size := K1.out.lt
    obtain ⟨j0, j1, j2, j3, j4, j5, j6, j7, j8, j9, j10, j11⟩ := c12_of K1.out
    go_upto_region 4 with fail
    clear j0 j1 j2 j3 j4 j5 j6 j7 j8 j9 j10 j11
    have r2 : Hid ((w1.alloc (.cells #[.int .u8 (k % 256)] 5)).ownsRow w1.heap.size 5 1 (.slice (some ⟨w1.heap.size, 0, none⟩) 1 1) 1 (bts [byt k.toNat 0])) := own_oneB (Blk.fresh _ _ _) hbk.out (Nat.le_refl _)
    have K2 : Hid (Blk (w1.alloc (.cells #[.int .u8 (k % 256)] 5)) w.heap.size 28 #[.int .i64 k, .int .i64 a, .int .i64 s, .bool x, .int .i64 p, .int .i64 q, .int .i64 n, .int .i64 t, .int .i64 i, .int .i64 y, .int .i64 z, .int .i64 v]) := K1.out.alloc _
    have b2 : Hid (Below w.heap.size w (w1.alloc (.cells #[.int .u8 (k % 256)] 5))) := b1.out.alloc b1.out.size _
    have z2 : Hid ((w1.alloc (.cells #[.int .u8 (k % 256)] 5)).heap.size = w1.heap.size + 1) := by show _ = _; simp
    clear b1 K1
    generalize (w1.alloc (.cells #[.int .u8 (k % 256)] 5)) = w2 at r2 K2 b2 z2 ⊢
    obtain ⟨j0, j1, j2, j3, j4, j5, j6, j7, j8, j9, j10, j11⟩ := c12_of K2.out
    by_cases k0 : k = 0
    · have q0 : (k == 0) = true := beq_iff_eq.2 k0
      have hE : Hid ([byt k.toNat 0] ++ ordL a.toNat s.toNat x p.toNat q.toNat n.toNat t.toNat = E) := by show _ = _; rw [he.out]; unfold bodB; rw [if_pos k0]; rfl
      go_wp2_with fail
      refine (putO_any w1.heap.size (some ⟨w1.heap.size, 0, none⟩) 1 [byt k.toNat 0] a s x p q n t _ FK.out.2.1 FK.out.2.2.1 FL.out.1 FL.out.2.1 FL.out.2.2.1 FL.out.2.2.2.1 (by simp) (by have := z2.out; omega) r2).mono ?_
      rintro e w3 ⟨A3, c3, rfl, r3, b3, o3⟩
      rw [hE.out] at r3 ⊢
      have b4 : Hid (Below w.heap.size w w3) := b2.out.trans (b3.mono (by omega))
      clear b3 o3
      go_wp2_with fail
      go_ret
      exact ⟨A3, c3, rfl, own_mono r3.out (by omega), b4.out, Oth.below b4.out⟩
    have q0 : (k == 0) = false := beq_eq_false_iff_ne.2 k0
    by_cases k1 : k = 1
    · have q1 : (k == 1) = true := beq_iff_eq.2 k1
      have hE : Hid ([byt k.toNat 0] ++ putB i.toNat 4 = E) := by show _ = _; rw [he.out]; unfold bodB; rw [if_neg k0, if_pos (.inl k1)]
      go_wp2_with fail
      refine (put_any w1.heap.size (some ⟨w1.heap.size, 0, none⟩) 1 [byt k.toNat 0] i 4 _ FK.out.2.2.2.2.1 FK.out.2.2.2.2.2 (by omega) (by simp) (by have := z2.out; omega) r2).mono ?_
      rintro e w3 ⟨A3, c3, rfl, r3, b3, o3⟩
      rw [hE.out] at r3 ⊢
      have b4 : Hid (Below w.heap.size w w3) := b2.out.trans (b3.mono (by omega))
      clear b3 o3
      go_wp2_with fail
      go_ret
      exact ⟨A3, c3, rfl, own_mono r3.out (by omega), b4.out, Oth.below b4.out⟩
    have q1 : (k == 1) = false := beq_eq_false_iff_ne.2 k1
    by_cases k3 : k = 3
    · have q3 : (k == 3) = true := beq_iff_eq.2 k3
      have hE : Hid ([byt k.toNat 0] ++ putB i.toNat 4 = E) := by show _ = _; rw [he.out]; unfold bodB; rw [if_neg k0, if_pos (.inr k3)]
      go_wp2_with fail
      refine (put_any w1.heap.size (some ⟨w1.heap.size, 0, none⟩) 1 [byt k.toNat 0] i 4 _ FK.out.2.2.2.2.1 FK.out.2.2.2.2.2 (by omega) (by simp) (by have := z2.out; omega) r2).mono ?_
      rintro e w3 ⟨A3, c3, rfl, r3, b3, o3⟩
      rw [hE.out] at r3 ⊢
      have b4 : Hid (Below w.heap.size w w3) := b2.out.trans (b3.mono (by omega))
      clear b3 o3
      go_wp2_with fail
      go_ret
      exact ⟨A3, c3, rfl, own_mono r3.out (by omega), b4.out, Oth.below b4.out⟩
    have q3 : (k == 3) = false := beq_eq_false_iff_ne.2 k3
    have k13 : Hid (¬ (k = 1 ∨ k = 3)) := by show ¬ _; omega
    by_cases k2 : k = 2
    · have q2 : (k == 2) = true := beq_iff_eq.2 k2
      have hE : Hid (([byt k.toNat 0] ++ putB i.toNat 4) ++ putB y.toNat 8 = E) := by show _ = _; rw [he.out]; unfold bodB; rw [if_neg k0, if_neg k13.out, if_pos k2, List.append_assoc]
      go_wp2_with fail
      refine (put_any w1.heap.size (some ⟨w1.heap.size, 0, none⟩) 1 [byt k.toNat 0] i 4 _ FK.out.2.2.2.2.1 FK.out.2.2.2.2.2 (by omega) (by simp) (by have := z2.out; omega) r2).mono ?_
      rintro e w3 ⟨A3, c3, rfl, r3, b3, o3⟩
      have hl3 : Hid (([byt k.toNat 0] ++ putB i.toNat 4).length ≤ 1000) := by show _ ≤ _; rw [List.length_append, putB_len]; simp
      generalize [byt k.toNat 0] ++ putB i.toNat 4 = L3 at r3 hE hl3 ⊢
      have K3 : Hid (Blk w3 w.heap.size 28 #[.int .i64 k, .int .i64 a, .int .i64 s, .bool x, .int .i64 p, .int .i64 q, .int .i64 n, .int .i64 t, .int .i64 i, .int .i64 y, .int .i64 z, .int .i64 v]) := o3 _ _ _ (by decide) K2.out
      have b4 : Hid (Below w.heap.size w w3) := b2.out.trans (b3.mono (by omega))
      have z3 : Hid (w1.heap.size ≤ w3.heap.size) := by have := b3.size; have := z2.out; show _ ≤ _; omega
      clear b3 o3 j0 j1 j2 j3 j4 j5 j6 j7 j8 j9 j10 j11
      obtain ⟨j0, j1, j2, j3, j4, j5, j6, j7, j8, j9, j10, j11⟩ := c12_of K3.out
      go_wp2_with fail
      refine (put_any w1.heap.size A3 c3 L3 y 8 _ FL.out.2.2.2.2.1.1 FL.out.2.2.2.2.1.2 (by omega) (by have := hl3.out; omega) z3.out r3).mono ?_
      rintro e w5 ⟨A5, c5, rfl, r5, b5, o5⟩
      rw [hE.out] at r5 ⊢
      have b6 : Hid (Below w.heap.size w w5) := b4.out.trans (b5.mono (by omega))
      clear b5 o5
      go_wp2_with fail
      go_ret
      exact ⟨A5, c5, rfl, own_mono r5.out (by omega), b6.out, Oth.below b6.out⟩
    have q2 : (k == 2) = false := beq_eq_false_iff_ne.2 k2
    by_cases k6 : k = 6
    · have q6 : (k == 6) = true := beq_iff_eq.2 k6
      have hE : Hid (([byt k.toNat 0] ++ putB z.toNat 2) ++ putB v.toNat 8 = E) := by show _ = _; rw [he.out]; unfold bodB; rw [if_neg k0, if_neg k13.out, if_neg k2, if_pos k6, List.append_assoc]
      go_wp2_with fail
      refine (put_any w1.heap.size (some ⟨w1.heap.size, 0, none⟩) 1 [byt k.toNat 0] z 2 _ FK.out.2.2.2.1.1 FK.out.2.2.2.1.2 (by omega) (by simp) (by have := z2.out; omega) r2).mono ?_
      rintro e w3 ⟨A3, c3, rfl, r3, b3, o3⟩
      have hl3 : Hid (([byt k.toNat 0] ++ putB z.toNat 2).length ≤ 1000) := by show _ ≤ _; rw [List.length_append, putB_len]; simp
      generalize [byt k.toNat 0] ++ putB z.toNat 2 = L3 at r3 hE hl3 ⊢
      have K3 : Hid (Blk w3 w.heap.size 28 #[.int .i64 k, .int .i64 a, .int .i64 s, .bool x, .int .i64 p, .int .i64 q, .int .i64 n, .int .i64 t, .int .i64 i, .int .i64 y, .int .i64 z, .int .i64 v]) := o3 _ _ _ (by decide) K2.out
      have b4 : Hid (Below w.heap.size w w3) := b2.out.trans (b3.mono (by omega))
      have z3 : Hid (w1.heap.size ≤ w3.heap.size) := by have := b3.size; have := z2.out; show _ ≤ _; omega
      clear b3 o3 j0 j1 j2 j3 j4 j5 j6 j7 j8 j9 j10 j11
      obtain ⟨j0, j1, j2, j3, j4, j5, j6, j7, j8, j9, j10, j11⟩ := c12_of K3.out
      go_wp2_with fail
      refine (put_any w1.heap.size A3 c3 L3 v 8 _ FL.out.2.2.2.2.2.1 FL.out.2.2.2.2.2.2 (by omega) (by have := hl3.out; omega) z3.out r3).mono ?_
      rintro e w5 ⟨A5, c5, rfl, r5, b5, o5⟩
      rw [hE.out] at r5 ⊢
      have b6 : Hid (Below w.heap.size w w5) := b4.out.trans (b5.mono (by omega))
      clear b5 o5
      go_wp2_with fail
      go_ret
      exact ⟨A5, c5, rfl, own_mono r5.out (by omega), b6.out, Oth.below b6.out⟩
    have q6 : (k == 6) = false := beq_eq_false_iff_ne.2 k6
    have hE : Hid (E = [byt k.toNat 0]) := by show _ = _; rw [he.out]; unfold bodB; rw [if_neg k0, if_neg k13.out, if_neg k2, if_neg k6]; rfl
    go_wp2_with fail
    go_ret
    rw [hE.out]
    exact ⟨some ⟨w1.heap.size, 0, none⟩, 1, rfl, own_mono r2.out (by omega), b2.out, Oth.below b2.out⟩
end Go.Proofs.Ytkobldddiedmdaa.Wec
