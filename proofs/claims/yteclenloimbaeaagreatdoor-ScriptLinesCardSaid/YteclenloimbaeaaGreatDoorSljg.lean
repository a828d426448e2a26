/- Texts side by side. -/
import Derived.Test.YteclenloimbaeaaGreatDoorSljf
set_option linter.unusedVariables false
set_option linter.unusedSimpArgs false
set_option maxRecDepth 100000
set_option maxHeartbeats 16000000
namespace Go.Proofs.YteclenloimbaeaaGreatDoor
open Go.ChangeShapes Go.WideShapes Go.ChangeAt Go.RowKit Mem Tre Ref3 Law3 Fix3 CrdB Wpl Wmr Wrt Rul6 Tl5 Lax
namespace Wry
attribute [local go_sem high] eqP12 eqQ12
attribute [local go_sem] undef
theorem s19 {W : World} {gM gO : Nat} {te tf : TypeId} {v0 v1 v2 v3 v4 v5 v6 v7 v8 v9 v10 v11 r0 r1 r2 r3 r4 r5 r6 : Value} (hM : Blk W gM te #[v0, v1, v2, v3, v4, v5, v6, v7, v8, v9, v10, v11]) (hO : Blk W gO tf #[r0, r1, r2, r3, r4, r5, r6]) :
    W.cell? ⟨gM, 0, none⟩ = some v0 ∧ W.cell? ⟨gM, 1, none⟩ = some v1 ∧ W.cell? ⟨gM, 2, none⟩ = some v2 ∧ W.cell? ⟨gM, 3, none⟩ = some v3 ∧ W.cell? ⟨gM, 4, none⟩ = some v4 ∧ W.cell? ⟨gM, 5, none⟩ = some v5 ∧ W.cell? ⟨gM, 6, none⟩ = some v6 ∧ W.cell? ⟨gM, 7, none⟩ = some v7 ∧ W.cell? ⟨gM, 8, none⟩ = some v8 ∧ W.cell? ⟨gM, 9, none⟩ = some v9 ∧ W.cell? ⟨gM, 10, none⟩ = some v10 ∧ W.cell? ⟨gM, 11, none⟩ = some v11 ∧ W.cell? ⟨gO, 0, none⟩ = some r0 ∧ W.cell? ⟨gO, 1, none⟩ = some r1 ∧ W.cell? ⟨gO, 2, none⟩ = some r2 ∧ W.cell? ⟨gO, 3, none⟩ = some r3 ∧ W.cell? ⟨gO, 4, none⟩ = some r4 ∧ W.cell? ⟨gO, 5, none⟩ = some r5 ∧ W.cell? ⟨gO, 6, none⟩ = some r6 :=
  ⟨hM.cell 0, hM.cell 1, hM.cell 2, hM.cell 3, hM.cell 4, hM.cell 5, hM.cell 6, hM.cell 7, hM.cell 8, hM.cell 9, hM.cell 10, hM.cell 11, hO.cell 0, hO.cell 1, hO.cell 2, hO.cell 3, hO.cell 4, hO.cell 5, hO.cell 6⟩
theorem rr (k a s p q n t i y z v k2 a2 s2 p2 q2 n2 t2 i2 y2 z2 v2 : Int) (x x2 res : Bool) (w : World) (hA : Hid (alM ⟨k, a, s, x, p, q, n, t, i, y, z, v⟩ = ⟨k2, a2, s2, x2, p2, q2, n2, t2, i2, y2, z2, v2⟩)) (hres : Hid (res = (decide (0 ≤ k) && decide (k ≤ 6) && (eqM ⟨k2, a2, s2, x2, p2, q2, n2, t2, i2, y2, z2, v2⟩ ⟨k, a, s, x, p, q, n, t, i, y, z, v⟩) && (decide (0 ≤ a) && decide (a ≤ 65535)) && (decide (0 ≤ s) && decide (s ≤ 65535)) && (decide (0 ≤ z) && decide (z ≤ 65535)) && decide (0 ≤ i) && decide (i ≤ 4294967295) && decide (0 ≤ p) && decide (0 ≤ q) && decide (0 ≤ n) && decide (0 ≤ t) && decide (0 ≤ y) && decide (0 ≤ v)))) :
    Calls Tryz.prog 22 #[.agg #[.int .i64 k, .int .i64 a, .int .i64 s, .bool x, .int .i64 p, .int .i64 q, .int .i64 n, .int .i64 t, .int .i64 i, .int .i64 y, .int .i64 z, .int .i64 v]] w (MadeBl res w) := by
  have b0 : Hid (Below w.heap.size w ((w.alloc (.cells #[.int .i64 k, .int .i64 a, .int .i64 s, .bool x, .int .i64 p, .int .i64 q, .int .i64 n, .int .i64 t, .int .i64 i, .int .i64 y, .int .i64 z, .int .i64 v] 25)).alloc (.cells #[.int .i64 a, .int .i64 s, .bool x, .int .i64 p, .int .i64 q, .int .i64 n, .int .i64 t] 23))) := ((Below.refl _ _).alloc (Nat.le_refl _) _).alloc (by simp) _
  have K0 : Hid (Blk ((w.alloc (.cells #[.int .i64 k, .int .i64 a, .int .i64 s, .bool x, .int .i64 p, .int .i64 q, .int .i64 n, .int .i64 t, .int .i64 i, .int .i64 y, .int .i64 z, .int .i64 v] 25)).alloc (.cells #[.int .i64 a, .int .i64 s, .bool x, .int .i64 p, .int .i64 q, .int .i64 n, .int .i64 t] 23)) w.heap.size 25 #[.int .i64 k, .int .i64 a, .int .i64 s, .bool x, .int .i64 p, .int .i64 q, .int .i64 n, .int .i64 t, .int .i64 i, .int .i64 y, .int .i64 z, .int .i64 v]) := (Blk.fresh w _ _).alloc _
  have O0 : Hid (Blk ((w.alloc (.cells #[.int .i64 k, .int .i64 a, .int .i64 s, .bool x, .int .i64 p, .int .i64 q, .int .i64 n, .int .i64 t, .int .i64 i, .int .i64 y, .int .i64 z, .int .i64 v] 25)).alloc (.cells #[.int .i64 a, .int .i64 s, .bool x, .int .i64 p, .int .i64 q, .int .i64 n, .int .i64 t] 23)) (w.heap.size + 1) 23 #[.int .i64 a, .int .i64 s, .bool x, .int .i64 p, .int .i64 q, .int .i64 n, .int .i64 t]) := blk_at (by simp)
  go_enter Tryz.func22, Tryz.ntmps22
  go_upto_region 2 with fail
  generalize ((w.alloc (.cells #[.int .i64 k, .int .i64 a, .int .i64 s, .bool x, .int .i64 p, .int .i64 q, .int .i64 n, .int .i64 t, .int .i64 i, .int .i64 y, .int .i64 z, .int .i64 v] 25)).alloc (.cells #[.int .i64 a, .int .i64 s, .bool x, .int .i64 p, .int .i64 q, .int .i64 n, .int .i64 t] 23)) = w1 at b0 K0 O0 ⊢
  generalize w.heap.size + 1 = gO at O0 ⊢
  obtain ⟨gM, hgM⟩ : ∃ gM, gM = w.heap.size := ⟨_, rfl⟩
  have K1 : Hid (Blk w1 gM 25 #[.int .i64 k, .int .i64 a, .int .i64 s, .bool x, .int .i64 p, .int .i64 q, .int .i64 n, .int .i64 t, .int .i64 i, .int .i64 y, .int .i64 z, .int .i64 v]) := by rw [hgM]; exact K0.out
  have O1 := O0
  clear K0 O0
  have B1 : Hid (Below w1.heap.size w1 w1.drew) := (Below.refl _ _).drew
  have q1 : w1.drew.cell? ⟨gM, 0, none⟩ = some (.int .i64 k) ∧ w1.drew.cell? ⟨gM, 1, none⟩ = some (.int .i64 a) ∧ w1.drew.cell? ⟨gM, 2, none⟩ = some (.int .i64 s) ∧ w1.drew.cell? ⟨gM, 3, none⟩ = some (.bool x) ∧ w1.drew.cell? ⟨gM, 4, none⟩ = some (.int .i64 p) ∧ w1.drew.cell? ⟨gM, 5, none⟩ = some (.int .i64 q) ∧ w1.drew.cell? ⟨gM, 6, none⟩ = some (.int .i64 n) ∧ w1.drew.cell? ⟨gM, 7, none⟩ = some (.int .i64 t) ∧ w1.drew.cell? ⟨gM, 8, none⟩ = some (.int .i64 i) ∧ w1.drew.cell? ⟨gM, 9, none⟩ = some (.int .i64 y) ∧ w1.drew.cell? ⟨gM, 10, none⟩ = some (.int .i64 z) ∧ w1.drew.cell? ⟨gM, 11, none⟩ = some (.int .i64 v) ∧ w1.drew.cell? ⟨gO, 0, none⟩ = some (.int .i64 a) ∧ w1.drew.cell? ⟨gO, 1, none⟩ = some (.int .i64 s) ∧ w1.drew.cell? ⟨gO, 2, none⟩ = some (.bool x) ∧ w1.drew.cell? ⟨gO, 3, none⟩ = some (.int .i64 p) ∧ w1.drew.cell? ⟨gO, 4, none⟩ = some (.int .i64 q) ∧ w1.drew.cell? ⟨gO, 5, none⟩ = some (.int .i64 n) ∧ w1.drew.cell? ⟨gO, 6, none⟩ = some (.int .i64 t) := s19 (Blk.below' K1.out B1.out) (Blk.below' O1.out B1.out)
  simp only [← hgM]
  have HG := Lib.hid hgM
  clear hgM
  simp only [List.append_eq, List.cons_append, List.nil_append]
  refine wp_region_held_drew (S := (fun w' => w'.cell? ⟨gM, 0, none⟩ = some (.int .i64 k) ∧ w'.cell? ⟨gM, 1, none⟩ = some (.int .i64 a) ∧ w'.cell? ⟨gM, 2, none⟩ = some (.int .i64 s) ∧ w'.cell? ⟨gM, 3, none⟩ = some (.bool x) ∧ w'.cell? ⟨gM, 4, none⟩ = some (.int .i64 p) ∧ w'.cell? ⟨gM, 5, none⟩ = some (.int .i64 q) ∧ w'.cell? ⟨gM, 6, none⟩ = some (.int .i64 n) ∧ w'.cell? ⟨gM, 7, none⟩ = some (.int .i64 t) ∧ w'.cell? ⟨gM, 8, none⟩ = some (.int .i64 i) ∧ w'.cell? ⟨gM, 9, none⟩ = some (.int .i64 y) ∧ w'.cell? ⟨gM, 10, none⟩ = some (.int .i64 z) ∧ w'.cell? ⟨gM, 11, none⟩ = some (.int .i64 v) ∧ w'.cell? ⟨gO, 0, none⟩ = some (.int .i64 a) ∧ w'.cell? ⟨gO, 1, none⟩ = some (.int .i64 s) ∧ w'.cell? ⟨gO, 2, none⟩ = some (.bool x) ∧ w'.cell? ⟨gO, 3, none⟩ = some (.int .i64 p) ∧ w'.cell? ⟨gO, 4, none⟩ = some (.int .i64 q) ∧ w'.cell? ⟨gO, 5, none⟩ = some (.int .i64 n) ∧ w'.cell? ⟨gO, 6, none⟩ = some (.int .i64 t))) (by kernel_rfl) q1 (fun hHeld => ?_)
  refine jT 0 ?_
  refine jT 1 ?_
  rcases Bool.eq_false_or_eq_true (decide (0 ≤ k)) with ct0 | ct0
  rotate_left
  · refine jT 2 ?_
    refine jT 3 ?_
    refine jS 4 ?_
    refine jS 5 ?_
    refine jS 6 ?_
    refine jT 7 ?_
    refine jT 8 ?_
    refine jS 9 ?_
    refine jS 11 ?_
    refine jS 10 ?_
    refine jS 12 ?_
    refine jT 13 ?_
    refine jT 14 ?_
    refine jS 15 ?_
    refine jS 16 ?_
    refine jS 17 ?_
    refine jT 18 ?_
    refine jT 19 ?_
    refine jS 20 ?_
    refine jS 21 ?_
    refine jS 22 ?_
    refine jT 23 ?_
    refine jT 24 ?_
    refine jS 25 ?_
    refine jS 26 ?_
    refine jS 27 ?_
    refine jT 28 ?_
    refine jT 29 ?_
    refine jS 30 ?_
    refine jS 31 ?_
    refine jS 32 ?_
    refine jT 33 ?_
    refine jT 34 ?_
    refine jS 35 ?_
    refine jS 36 ?_
    refine jS 37 ?_
    refine jT 38 ?_
    refine jT 39 ?_
    refine jS 40 ?_
    refine jS 41 ?_
    refine jS 42 ?_
    refine jT 43 ?_
    refine jT 44 ?_
    refine jS 45 ?_
    refine jS 46 ?_
    refine jS 47 ?_
    refine jT 48 ?_
    refine jT 49 ?_
    refine jS 50 ?_
    refine jS 51 ?_
    refine jS 52 ?_
    refine jT 53 ?_
    refine jT 54 ?_
    refine jS 55 ?_
    refine jS 56 ?_
    refine jS 57 ?_
    refine jT 58 ?_
    refine jT 59 ?_
    refine jS 60 ?_
    refine jS 61 ?_
    refine jS 62 ?_
    refine jT 63 ?_
    refine jT 64 ?_
    refine jS 65 ?_
    refine jS 66 ?_
    refine jS 67 ?_
    refine jT 68 ?_
    refine jT 69 ?_
    refine wpAnyH_done (by kernel_rfl) ?_ _
    have B9 : Below w.heap.size w w1.drew := below_step b0.out B1.out
    go_wp2_with fail
    go_ret
    exact ⟨by rw [hres.out, ct0]; rfl, B9⟩
  refine jT 2 ?_
  refine jT 3 ?_
  refine jT 4 ?_
  refine jT 5 ?_
  rcases Bool.eq_false_or_eq_true (decide (k ≤ 6)) with ct1 | ct1
  rotate_left
  · refine jT 6 ?_
    refine jT 7 ?_
    refine jT 8 ?_
    refine jS 9 ?_
    refine jS 11 ?_
    refine jS 10 ?_
    refine jS 12 ?_
    refine jT 13 ?_
    refine jT 14 ?_
    refine jS 15 ?_
    refine jS 16 ?_
    refine jS 17 ?_
    refine jT 18 ?_
    refine jT 19 ?_
    refine jS 20 ?_
    refine jS 21 ?_
    refine jS 22 ?_
    refine jT 23 ?_
    refine jT 24 ?_
    refine jS 25 ?_
    refine jS 26 ?_
    refine jS 27 ?_
    refine jT 28 ?_
    refine jT 29 ?_
    refine jS 30 ?_
    refine jS 31 ?_
    refine jS 32 ?_
    refine jT 33 ?_
    refine jT 34 ?_
    refine jS 35 ?_
    refine jS 36 ?_
    refine jS 37 ?_
    refine jT 38 ?_
    refine jT 39 ?_
    refine jS 40 ?_
    refine jS 41 ?_
    refine jS 42 ?_
    refine jT 43 ?_
    refine jT 44 ?_
    refine jS 45 ?_
    refine jS 46 ?_
    refine jS 47 ?_
    refine jT 48 ?_
    refine jT 49 ?_
    refine jS 50 ?_
    refine jS 51 ?_
    refine jS 52 ?_
    refine jT 53 ?_
    refine jT 54 ?_
    refine jS 55 ?_
    refine jS 56 ?_
    refine jS 57 ?_
    refine jT 58 ?_
    refine jT 59 ?_
    refine jS 60 ?_
    refine jS 61 ?_
    refine jS 62 ?_
    refine jT 63 ?_
    refine jT 64 ?_
    refine jS 65 ?_
    refine jS 66 ?_
    refine jS 67 ?_
    refine jT 68 ?_
    refine jT 69 ?_
    refine wpAnyH_done (by kernel_rfl) ?_ _
    have B9 : Below w.heap.size w w1.drew := below_step b0.out B1.out
    go_wp2_with fail
    go_ret
    exact ⟨by rw [hres.out, ct0, ct1]; rfl, B9⟩
  refine jT 6 ?_
  refine jT 7 ?_
  refine jT 8 ?_
  refine jT 9 ?_
  refine jT 11 ?_
  refine wpAnyH_ready (rs := [10]) (by kernel_rfl) (by simp) ?_
  refine AllReadyH.cons rfl (fun K' hK => ?_) AllReadyH.nil
  go_simp
  refine (bare_any ⟨k, a, s, x, p, q, n, t, i, y, z, v⟩ _).mono ?_
  rw [hA.out]
  rintro e w2 ⟨rfl, hb2⟩
  rw [show mvl ⟨k2, a2, s2, x2, p2, q2, n2, t2, i2, y2, z2, v2⟩ = .agg #[.int .i64 k2, .int .i64 a2, .int .i64 s2, .bool x2, .int .i64 p2, .int .i64 q2, .int .i64 n2, .int .i64 t2, .int .i64 i2, .int .i64 y2, .int .i64 z2, .int .i64 v2] from rfl]
  have B2 : Hid (Below w1.heap.size w1 w2) := below_step B1.out hb2
  have hq2 : w2.cell? ⟨gM, 0, none⟩ = some (.int .i64 k) ∧ w2.cell? ⟨gM, 1, none⟩ = some (.int .i64 a) ∧ w2.cell? ⟨gM, 2, none⟩ = some (.int .i64 s) ∧ w2.cell? ⟨gM, 3, none⟩ = some (.bool x) ∧ w2.cell? ⟨gM, 4, none⟩ = some (.int .i64 p) ∧ w2.cell? ⟨gM, 5, none⟩ = some (.int .i64 q) ∧ w2.cell? ⟨gM, 6, none⟩ = some (.int .i64 n) ∧ w2.cell? ⟨gM, 7, none⟩ = some (.int .i64 t) ∧ w2.cell? ⟨gM, 8, none⟩ = some (.int .i64 i) ∧ w2.cell? ⟨gM, 9, none⟩ = some (.int .i64 y) ∧ w2.cell? ⟨gM, 10, none⟩ = some (.int .i64 z) ∧ w2.cell? ⟨gM, 11, none⟩ = some (.int .i64 v) ∧ w2.cell? ⟨gO, 0, none⟩ = some (.int .i64 a) ∧ w2.cell? ⟨gO, 1, none⟩ = some (.int .i64 s) ∧ w2.cell? ⟨gO, 2, none⟩ = some (.bool x) ∧ w2.cell? ⟨gO, 3, none⟩ = some (.int .i64 p) ∧ w2.cell? ⟨gO, 4, none⟩ = some (.int .i64 q) ∧ w2.cell? ⟨gO, 5, none⟩ = some (.int .i64 n) ∧ w2.cell? ⟨gO, 6, none⟩ = some (.int .i64 t) := s19 (Blk.below' K1.out B2.out) (Blk.below' O1.out B2.out)
  go_wp2_with fail
  refine hK.out _ _ hq2 (fun hHeld => ?_)
  clear hK K'
  refine jP ?_
  rcases Bool.eq_false_or_eq_true (eqM ⟨k2, a2, s2, x2, p2, q2, n2, t2, i2, y2, z2, v2⟩ ⟨k, a, s, x, p, q, n, t, i, y, z, v⟩) with ct2 | ct2
  rotate_left
  · refine jT 12 ?_
    refine jT 13 ?_
    refine jT 14 ?_
    refine jS 15 ?_
    refine jS 16 ?_
    refine jS 17 ?_
    refine jT 18 ?_
    refine jT 19 ?_
    refine jS 20 ?_
    refine jS 21 ?_
    refine jS 22 ?_
    refine jT 23 ?_
    refine jT 24 ?_
    refine jS 25 ?_
    refine jS 26 ?_
    refine jS 27 ?_
    refine jT 28 ?_
    refine jT 29 ?_
    refine jS 30 ?_
    refine jS 31 ?_
    refine jS 32 ?_
    refine jT 33 ?_
    refine jT 34 ?_
    refine jS 35 ?_
    refine jS 36 ?_
    refine jS 37 ?_
    refine jT 38 ?_
    refine jT 39 ?_
    refine jS 40 ?_
    refine jS 41 ?_
    refine jS 42 ?_
    refine jT 43 ?_
    refine jT 44 ?_
    refine jS 45 ?_
    refine jS 46 ?_
    refine jS 47 ?_
    refine jT 48 ?_
    refine jT 49 ?_
    refine jS 50 ?_
    refine jS 51 ?_
    refine jS 52 ?_
    refine jT 53 ?_
    refine jT 54 ?_
    refine jS 55 ?_
    refine jS 56 ?_
    refine jS 57 ?_
    refine jT 58 ?_
    refine jT 59 ?_
    refine jS 60 ?_
    refine jS 61 ?_
    refine jS 62 ?_
    refine jT 63 ?_
    refine jT 64 ?_
    refine jS 65 ?_
    refine jS 66 ?_
    refine jS 67 ?_
    refine jT 68 ?_
    refine jT 69 ?_
    refine wpAnyH_done (by kernel_rfl) ?_ _
    have B9 : Below w.heap.size w w2 := below_step b0.out B2.out
    go_wp2_with fail
    go_ret
    exact ⟨by rw [hres.out, ct0, ct1, ct2]; rfl, B9⟩
  refine jT 12 ?_
  refine jT 13 ?_
  refine jT 14 ?_
  refine jT 15 ?_
  refine jT 16 ?_
  rcases Bool.eq_false_or_eq_true ((decide (0 ≤ a) && decide (a ≤ 65535))) with ct3 | ct3
  rotate_left
  · refine wpAnyH_ready (rs := [17]) (by kernel_rfl) (by simp) ?_
    refine AllReadyH.cons rfl (fun K' hK => ?_) AllReadyH.nil
    go_simp
    refine (short_any _ _).mono ?_
    rintro e w3 ⟨rfl, rfl⟩
    go_wp2_with fail
    refine hK.out _ _ hq2 (fun hHeld => ?_)
    clear hK K'
    refine jP ?_
    refine jT 18 ?_
    refine jT 19 ?_
    refine jS 20 ?_
    refine jS 21 ?_
    refine jS 22 ?_
    refine jT 23 ?_
    refine jT 24 ?_
    refine jS 25 ?_
    refine jS 26 ?_
    refine jS 27 ?_
    refine jT 28 ?_
    refine jT 29 ?_
    refine jS 30 ?_
    refine jS 31 ?_
    refine jS 32 ?_
    refine jT 33 ?_
    refine jT 34 ?_
    refine jS 35 ?_
    refine jS 36 ?_
    refine jS 37 ?_
    refine jT 38 ?_
    refine jT 39 ?_
    refine jS 40 ?_
    refine jS 41 ?_
    refine jS 42 ?_
    refine jT 43 ?_
    refine jT 44 ?_
    refine jS 45 ?_
    refine jS 46 ?_
    refine jS 47 ?_
    refine jT 48 ?_
    refine jT 49 ?_
    refine jS 50 ?_
    refine jS 51 ?_
    refine jS 52 ?_
    refine jT 53 ?_
    refine jT 54 ?_
    refine jS 55 ?_
    refine jS 56 ?_
    refine jS 57 ?_
    refine jT 58 ?_
    refine jT 59 ?_
    refine jS 60 ?_
    refine jS 61 ?_
    refine jS 62 ?_
    refine jT 63 ?_
    refine jT 64 ?_
    refine jS 65 ?_
    refine jS 66 ?_
    refine jS 67 ?_
    refine jT 68 ?_
    refine jT 69 ?_
    refine wpAnyH_done (by kernel_rfl) ?_ _
    have B9 : Below w.heap.size w w2 := below_step b0.out B2.out
    go_wp2_with fail
    go_ret
    exact ⟨by rw [hres.out, ct0, ct1, ct2, ct3]; rfl, B9⟩
  refine wpAnyH_ready (rs := [17]) (by kernel_rfl) (by simp) ?_
  refine AllReadyH.cons rfl (fun K' hK => ?_) AllReadyH.nil
  go_simp
  refine (short_any _ _).mono ?_
  rintro e w3 ⟨rfl, rfl⟩
  go_wp2_with fail
  refine hK.out _ _ hq2 (fun hHeld => ?_)
  clear hK K'
  refine jP ?_
  refine jT 18 ?_
  refine jT 19 ?_
  refine jT 20 ?_
  refine jT 21 ?_
  rcases Bool.eq_false_or_eq_true ((decide (0 ≤ s) && decide (s ≤ 65535))) with ct4 | ct4
  rotate_left
  · refine wpAnyH_ready (rs := [22]) (by kernel_rfl) (by simp) ?_
    refine AllReadyH.cons rfl (fun K' hK => ?_) AllReadyH.nil
    go_simp
    refine (short_any _ _).mono ?_
    rintro e w3 ⟨rfl, rfl⟩
    go_wp2_with fail
    refine hK.out _ _ hq2 (fun hHeld => ?_)
    clear hK K'
    refine jP ?_
    refine jT 23 ?_
    refine jT 24 ?_
    refine jS 25 ?_
    refine jS 26 ?_
    refine jS 27 ?_
    refine jT 28 ?_
    refine jT 29 ?_
    refine jS 30 ?_
    refine jS 31 ?_
    refine jS 32 ?_
    refine jT 33 ?_
    refine jT 34 ?_
    refine jS 35 ?_
    refine jS 36 ?_
    refine jS 37 ?_
    refine jT 38 ?_
    refine jT 39 ?_
    refine jS 40 ?_
    refine jS 41 ?_
    refine jS 42 ?_
    refine jT 43 ?_
    refine jT 44 ?_
    refine jS 45 ?_
    refine jS 46 ?_
    refine jS 47 ?_
    refine jT 48 ?_
    refine jT 49 ?_
    refine jS 50 ?_
    refine jS 51 ?_
    refine jS 52 ?_
    refine jT 53 ?_
    refine jT 54 ?_
    refine jS 55 ?_
    refine jS 56 ?_
    refine jS 57 ?_
    refine jT 58 ?_
    refine jT 59 ?_
    refine jS 60 ?_
    refine jS 61 ?_
    refine jS 62 ?_
    refine jT 63 ?_
    refine jT 64 ?_
    refine jS 65 ?_
    refine jS 66 ?_
    refine jS 67 ?_
    refine jT 68 ?_
    refine jT 69 ?_
    refine wpAnyH_done (by kernel_rfl) ?_ _
    have B9 : Below w.heap.size w w2 := below_step b0.out B2.out
    go_wp2_with fail
    go_ret
    exact ⟨by rw [hres.out, ct0, ct1, ct2, ct3, ct4]; rfl, B9⟩
  refine wpAnyH_ready (rs := [22]) (by kernel_rfl) (by simp) ?_
  refine AllReadyH.cons rfl (fun K' hK => ?_) AllReadyH.nil
  go_simp
  refine (short_any _ _).mono ?_
  rintro e w3 ⟨rfl, rfl⟩
  go_wp2_with fail
  refine hK.out _ _ hq2 (fun hHeld => ?_)
  clear hK K'
  refine jP ?_
  refine jT 23 ?_
  refine jT 24 ?_
  refine jT 25 ?_
  refine jT 26 ?_
  rcases Bool.eq_false_or_eq_true ((decide (0 ≤ z) && decide (z ≤ 65535))) with ct5 | ct5
  rotate_left
  · refine wpAnyH_ready (rs := [27]) (by kernel_rfl) (by simp) ?_
    refine AllReadyH.cons rfl (fun K' hK => ?_) AllReadyH.nil
    go_simp
    refine (short_any _ _).mono ?_
    rintro e w3 ⟨rfl, rfl⟩
    go_wp2_with fail
    refine hK.out _ _ hq2 (fun hHeld => ?_)
    clear hK K'
    refine jP ?_
    refine jT 28 ?_
    refine jT 29 ?_
    refine jS 30 ?_
    refine jS 31 ?_
    refine jS 32 ?_
    refine jT 33 ?_
    refine jT 34 ?_
    refine jS 35 ?_
    refine jS 36 ?_
    refine jS 37 ?_
    refine jT 38 ?_
    refine jT 39 ?_
    refine jS 40 ?_
    refine jS 41 ?_
    refine jS 42 ?_
    refine jT 43 ?_
    refine jT 44 ?_
    refine jS 45 ?_
    refine jS 46 ?_
    refine jS 47 ?_
    refine jT 48 ?_
    refine jT 49 ?_
    refine jS 50 ?_
    refine jS 51 ?_
    refine jS 52 ?_
    refine jT 53 ?_
    refine jT 54 ?_
    refine jS 55 ?_
    refine jS 56 ?_
    refine jS 57 ?_
    refine jT 58 ?_
    refine jT 59 ?_
    refine jS 60 ?_
    refine jS 61 ?_
    refine jS 62 ?_
    refine jT 63 ?_
    refine jT 64 ?_
    refine jS 65 ?_
    refine jS 66 ?_
    refine jS 67 ?_
    refine jT 68 ?_
    refine jT 69 ?_
    refine wpAnyH_done (by kernel_rfl) ?_ _
    have B9 : Below w.heap.size w w2 := below_step b0.out B2.out
    go_wp2_with fail
    go_ret
    exact ⟨by rw [hres.out, ct0, ct1, ct2, ct3, ct4, ct5]; rfl, B9⟩
  refine wpAnyH_ready (rs := [27]) (by kernel_rfl) (by simp) ?_
  refine AllReadyH.cons rfl (fun K' hK => ?_) AllReadyH.nil
  go_simp
  refine (short_any _ _).mono ?_
  rintro e w3 ⟨rfl, rfl⟩
  go_wp2_with fail
  refine hK.out _ _ hq2 (fun hHeld => ?_)
  clear hK K'
  refine jP ?_
  refine jT 28 ?_
  refine jT 29 ?_
  refine jT 30 ?_
  refine jT 31 ?_
  rcases Bool.eq_false_or_eq_true (decide (0 ≤ i)) with ct6 | ct6
  rotate_left
  · refine jT 32 ?_
    refine jT 33 ?_
    refine jT 34 ?_
    refine jS 35 ?_
    refine jS 36 ?_
    refine jS 37 ?_
    refine jT 38 ?_
    refine jT 39 ?_
    refine jS 40 ?_
    refine jS 41 ?_
    refine jS 42 ?_
    refine jT 43 ?_
    refine jT 44 ?_
    refine jS 45 ?_
    refine jS 46 ?_
    refine jS 47 ?_
    refine jT 48 ?_
    refine jT 49 ?_
    refine jS 50 ?_
    refine jS 51 ?_
    refine jS 52 ?_
    refine jT 53 ?_
    refine jT 54 ?_
    refine jS 55 ?_
    refine jS 56 ?_
    refine jS 57 ?_
    refine jT 58 ?_
    refine jT 59 ?_
    refine jS 60 ?_
    refine jS 61 ?_
    refine jS 62 ?_
    refine jT 63 ?_
    refine jT 64 ?_
    refine jS 65 ?_
    refine jS 66 ?_
    refine jS 67 ?_
    refine jT 68 ?_
    refine jT 69 ?_
    refine wpAnyH_done (by kernel_rfl) ?_ _
    have B9 : Below w.heap.size w w2 := below_step b0.out B2.out
    go_wp2_with fail
    go_ret
    exact ⟨by rw [hres.out, ct0, ct1, ct2, ct3, ct4, ct5, ct6]; rfl, B9⟩
  refine jT 32 ?_
  refine jT 33 ?_
  refine jT 34 ?_
  refine jT 35 ?_
  refine jT 36 ?_
  rcases Bool.eq_false_or_eq_true (decide (i ≤ 4294967295)) with ct7 | ct7
  rotate_left
  · refine jT 37 ?_
    refine jT 38 ?_
    refine jT 39 ?_
    refine jS 40 ?_
    refine jS 41 ?_
    refine jS 42 ?_
    refine jT 43 ?_
    refine jT 44 ?_
    refine jS 45 ?_
    refine jS 46 ?_
    refine jS 47 ?_
    refine jT 48 ?_
    refine jT 49 ?_
    refine jS 50 ?_
    refine jS 51 ?_
    refine jS 52 ?_
    refine jT 53 ?_
    refine jT 54 ?_
    refine jS 55 ?_
    refine jS 56 ?_
    refine jS 57 ?_
    refine jT 58 ?_
    refine jT 59 ?_
    refine jS 60 ?_
    refine jS 61 ?_
    refine jS 62 ?_
    refine jT 63 ?_
    refine jT 64 ?_
    refine jS 65 ?_
    refine jS 66 ?_
    refine jS 67 ?_
    refine jT 68 ?_
    refine jT 69 ?_
    refine wpAnyH_done (by kernel_rfl) ?_ _
    have B9 : Below w.heap.size w w2 := below_step b0.out B2.out
    go_wp2_with fail
    go_ret
    exact ⟨by rw [hres.out, ct0, ct1, ct2, ct3, ct4, ct5, ct6, ct7]; rfl, B9⟩
  refine jT 37 ?_
  refine jT 38 ?_
  refine jT 39 ?_
  refine jT 40 ?_
  refine jT 41 ?_
  rcases Bool.eq_false_or_eq_true (decide (0 ≤ p)) with ct8 | ct8
  rotate_left
  · refine jT 42 ?_
    refine jT 43 ?_
    refine jT 44 ?_
    refine jS 45 ?_
    refine jS 46 ?_
    refine jS 47 ?_
    refine jT 48 ?_
    refine jT 49 ?_
    refine jS 50 ?_
    refine jS 51 ?_
    refine jS 52 ?_
    refine jT 53 ?_
    refine jT 54 ?_
    refine jS 55 ?_
    refine jS 56 ?_
    refine jS 57 ?_
    refine jT 58 ?_
    refine jT 59 ?_
    refine jS 60 ?_
    refine jS 61 ?_
    refine jS 62 ?_
    refine jT 63 ?_
    refine jT 64 ?_
    refine jS 65 ?_
    refine jS 66 ?_
    refine jS 67 ?_
    refine jT 68 ?_
    refine jT 69 ?_
    refine wpAnyH_done (by kernel_rfl) ?_ _
    have B9 : Below w.heap.size w w2 := below_step b0.out B2.out
    go_wp2_with fail
    go_ret
    exact ⟨by rw [hres.out, ct0, ct1, ct2, ct3, ct4, ct5, ct6, ct7, ct8]; rfl, B9⟩
  refine jT 42 ?_
  refine jT 43 ?_
  refine jT 44 ?_
  refine jT 45 ?_
  refine jT 46 ?_
  rcases Bool.eq_false_or_eq_true (decide (0 ≤ q)) with ct9 | ct9
  rotate_left
  · refine jT 47 ?_
    refine jT 48 ?_
    refine jT 49 ?_
    refine jS 50 ?_
    refine jS 51 ?_
    refine jS 52 ?_
    refine jT 53 ?_
    refine jT 54 ?_
    refine jS 55 ?_
    refine jS 56 ?_
    refine jS 57 ?_
    refine jT 58 ?_
    refine jT 59 ?_
    refine jS 60 ?_
    refine jS 61 ?_
    refine jS 62 ?_
    refine jT 63 ?_
    refine jT 64 ?_
    refine jS 65 ?_
    refine jS 66 ?_
    refine jS 67 ?_
    refine jT 68 ?_
    refine jT 69 ?_
    refine wpAnyH_done (by kernel_rfl) ?_ _
    have B9 : Below w.heap.size w w2 := below_step b0.out B2.out
    go_wp2_with fail
    go_ret
    exact ⟨by rw [hres.out, ct0, ct1, ct2, ct3, ct4, ct5, ct6, ct7, ct8, ct9]; rfl, B9⟩
  refine jT 47 ?_
  refine jT 48 ?_
  refine jT 49 ?_
  refine jT 50 ?_
  refine jT 51 ?_
  rcases Bool.eq_false_or_eq_true (decide (0 ≤ n)) with ct10 | ct10
  rotate_left
  · refine jT 52 ?_
    refine jT 53 ?_
    refine jT 54 ?_
    refine jS 55 ?_
    refine jS 56 ?_
    refine jS 57 ?_
    refine jT 58 ?_
    refine jT 59 ?_
    refine jS 60 ?_
    refine jS 61 ?_
    refine jS 62 ?_
    refine jT 63 ?_
    refine jT 64 ?_
    refine jS 65 ?_
    refine jS 66 ?_
    refine jS 67 ?_
    refine jT 68 ?_
    refine jT 69 ?_
    refine wpAnyH_done (by kernel_rfl) ?_ _
    have B9 : Below w.heap.size w w2 := below_step b0.out B2.out
    go_wp2_with fail
    go_ret
    exact ⟨by rw [hres.out, ct0, ct1, ct2, ct3, ct4, ct5, ct6, ct7, ct8, ct9, ct10]; rfl, B9⟩
  refine jT 52 ?_
  refine jT 53 ?_
  refine jT 54 ?_
  refine jT 55 ?_
  refine jT 56 ?_
  rcases Bool.eq_false_or_eq_true (decide (0 ≤ t)) with ct11 | ct11
  rotate_left
  · refine jT 57 ?_
    refine jT 58 ?_
    refine jT 59 ?_
    refine jS 60 ?_
    refine jS 61 ?_
    refine jS 62 ?_
    refine jT 63 ?_
    refine jT 64 ?_
    refine jS 65 ?_
    refine jS 66 ?_
    refine jS 67 ?_
    refine jT 68 ?_
    refine jT 69 ?_
    refine wpAnyH_done (by kernel_rfl) ?_ _
    have B9 : Below w.heap.size w w2 := below_step b0.out B2.out
    go_wp2_with fail
    go_ret
    exact ⟨by rw [hres.out, ct0, ct1, ct2, ct3, ct4, ct5, ct6, ct7, ct8, ct9, ct10, ct11]; rfl, B9⟩
  refine jT 57 ?_
  refine jT 58 ?_
  refine jT 59 ?_
  refine jT 60 ?_
  refine jT 61 ?_
  rcases Bool.eq_false_or_eq_true (decide (0 ≤ y)) with ct12 | ct12
  rotate_left
  · refine jT 62 ?_
    refine jT 63 ?_
    refine jT 64 ?_
    refine jS 65 ?_
    refine jS 66 ?_
    refine jS 67 ?_
    refine jT 68 ?_
    refine jT 69 ?_
    refine wpAnyH_done (by kernel_rfl) ?_ _
    have B9 : Below w.heap.size w w2 := below_step b0.out B2.out
    go_wp2_with fail
    go_ret
    exact ⟨by rw [hres.out, ct0, ct1, ct2, ct3, ct4, ct5, ct6, ct7, ct8, ct9, ct10, ct11, ct12]; rfl, B9⟩
  refine jT 62 ?_
  refine jT 63 ?_
  refine jT 64 ?_
  refine jT 65 ?_
  refine jT 66 ?_
  rcases Bool.eq_false_or_eq_true (decide (0 ≤ v)) with ct13 | ct13
  rotate_left
  · refine jT 67 ?_
    refine jT 68 ?_
    refine jT 69 ?_
    refine wpAnyH_done (by kernel_rfl) ?_ _
    have B9 : Below w.heap.size w w2 := below_step b0.out B2.out
    go_wp2_with fail
    go_ret
    exact ⟨by rw [hres.out, ct0, ct1, ct2, ct3, ct4, ct5, ct6, ct7, ct8, ct9, ct10, ct11, ct12, ct13]; rfl, B9⟩
  refine jT 67 ?_
  refine jT 68 ?_
  refine jT 69 ?_
  refine wpAnyH_done (by kernel_rfl) ?_ _
  have B9 : Below w.heap.size w w2 := below_step b0.out B2.out
  go_wp2_with fail
  go_ret
  exact ⟨by rw [hres.out, ct0, ct1, ct2, ct3, ct4, ct5, ct6, ct7, ct8, ct9, ct10, ct11, ct12, ct13]; rfl, B9⟩
theorem rright_any (m : M) (w : World) : Calls Tryz.prog 22 #[mvl m] w (MadeBl (rightM m) w) := by
  obtain ⟨k, a, s, x, p, q, n, t, i, y, z, v⟩ := m
  show Calls Tryz.prog 22 #[.agg #[.int .i64 k, .int .i64 a, .int .i64 s, .bool x, .int .i64 p, .int .i64 q, .int .i64 n, .int .i64 t, .int .i64 i, .int .i64 y, .int .i64 z, .int .i64 v]] w (MadeBl (rightM ⟨k, a, s, x, p, q, n, t, i, y, z, v⟩) w)
  generalize hA : alM ⟨k, a, s, x, p, q, n, t, i, y, z, v⟩ = A
  obtain ⟨k2, a2, s2, x2, p2, q2, n2, t2, i2, y2, z2, v2⟩ := A
  refine rr k a s p q n t i y z v k2 a2 s2 p2 q2 n2 t2 i2 y2 z2 v2 x x2 _ w hA ?_
  show _ = _
  rw [Bool.eq_iff_iff]
  simp only [Bool.and_eq_true, decide_eq_true_eq]
  constructor
  · intro h
    obtain ⟨r1, r2, r3, r4⟩ := rightM_of h
    have r5 : eqM ⟨k2, a2, s2, x2, p2, q2, n2, t2, i2, y2, z2, v2⟩ ⟨k, a, s, x, p, q, n, t, i, y, z, v⟩ = true := by rw [← hA, ← r3]; exact eqM_self _
    unfold fitP at r4
    simp only [] at r4 r1 r2
    simp only [r5, true_and, and_true]
    omega
  · intro h
    have h3 : eqM ⟨k2, a2, s2, x2, p2, q2, n2, t2, i2, y2, z2, v2⟩ ⟨k, a, s, x, p, q, n, t, i, y, z, v⟩ = true := h.1.1.1.1.1.1.1.1.1.1.1.2
    refine rightM_t (by show 0 ≤ k; omega) (by show k ≤ 6; omega) (by rw [hA]; exact ((eqM_iff _ _).1 h3).symm) ?_
    unfold fitP
    simp only []
    omega
end Wry
end Go.Proofs.YteclenloimbaeaaGreatDoor
