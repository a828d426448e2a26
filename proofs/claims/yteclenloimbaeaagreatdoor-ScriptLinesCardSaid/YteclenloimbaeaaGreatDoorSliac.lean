/- Texts side by side. -/
import Derived.Laws.BitsAllLaws
import Derived.Maps.Range
import Derived.Test.YteclenloimbaeaaGreatDoorSliab
set_option linter.unusedVariables false
set_option linter.unusedSimpArgs false
set_option maxRecDepth 100000
set_option maxHeartbeats 16000000
namespace Go.Proofs.YteclenloimbaeaaGreatDoor
namespace Wry
open Go.ChangeShapes Go.WideShapes Go.ChangeAt Go.RowKit Mem Tre Ref3 Law3 Fix3 CrdB Wpl Wmr Wrt Rul6 Tl5 Lax
attribute [local go_sem high] eqP12 eqQ12
attribute [local go_sem] undef
theorem s19 {W : World} {gM gO : Nat} {te tf : TypeId} {v0 v1 v2 v3 v4 v5 v6 v7 v8 v9 v10 v11 r0 r1 r2 r3 r4 r5 r6 : Value} (hM : Blk W gM te #[v0, v1, v2, v3, v4, v5, v6, v7, v8, v9, v10, v11]) (hO : Blk W gO tf #[r0, r1, r2, r3, r4, r5, r6]) :
    W.cell? ⟨gM, 0, none⟩ = some v0 ∧ W.cell? ⟨gM, 1, none⟩ = some v1 ∧ W.cell? ⟨gM, 2, none⟩ = some v2 ∧ W.cell? ⟨gM, 3, none⟩ = some v3 ∧ W.cell? ⟨gM, 4, none⟩ = some v4 ∧ W.cell? ⟨gM, 5, none⟩ = some v5 ∧ W.cell? ⟨gM, 6, none⟩ = some v6 ∧ W.cell? ⟨gM, 7, none⟩ = some v7 ∧ W.cell? ⟨gM, 8, none⟩ = some v8 ∧ W.cell? ⟨gM, 9, none⟩ = some v9 ∧ W.cell? ⟨gM, 10, none⟩ = some v10 ∧ W.cell? ⟨gM, 11, none⟩ = some v11 ∧ W.cell? ⟨gO, 0, none⟩ = some r0 ∧ W.cell? ⟨gO, 1, none⟩ = some r1 ∧ W.cell? ⟨gO, 2, none⟩ = some r2 ∧ W.cell? ⟨gO, 3, none⟩ = some r3 ∧ W.cell? ⟨gO, 4, none⟩ = some r4 ∧ W.cell? ⟨gO, 5, none⟩ = some r5 ∧ W.cell? ⟨gO, 6, none⟩ = some r6 :=
  ⟨hM.cell 0, hM.cell 1, hM.cell 2, hM.cell 3, hM.cell 4, hM.cell 5, hM.cell 6, hM.cell 7, hM.cell 8, hM.cell 9, hM.cell 10, hM.cell 11, hO.cell 0, hO.cell 1, hO.cell 2, hO.cell 3, hO.cell 4, hO.cell 5, hO.cell 6⟩
theorem rr (k a s p q n t i y z v k2 a2 s2 p2 q2 n2 t2 i2 y2 z2 v2 : Int) (x x2 res : Bool) (w : World) (hA : Hid (alM ⟨k, a, s, x, p, q, n, t, i, y, z, v⟩ = ⟨k2, a2, s2, x2, p2, q2, n2, t2, i2, y2, z2, v2⟩)) (hres : Hid (res = (decide (0 ≤ k) && decide (k ≤ 6) && (eqM ⟨k2, a2, s2, x2, p2, q2, n2, t2, i2, y2, z2, v2⟩ ⟨k, a, s, x, p, q, n, t, i, y, z, v⟩) && (decide (0 ≤ a) && decide (a ≤ 65535)) && (decide (0 ≤ s) && decide (s ≤ 65535)) && (decide (0 ≤ z) && decide (z ≤ 65535)) && decide (0 ≤ i) && decide (i ≤ 4294967295) && decide (0 ≤ p) && decide (0 ≤ q) && decide (0 ≤ n) && decide (0 ≤ t) && decide (0 ≤ y) && decide (0 ≤ v)))) :
    Calls Tryz.prog 22 #[.agg #[.int .i64 k, .int .i64 a, .int .i64 s, .bool x, .int .i64 p, .int .i64 q, .int .i64 n, .int .i64 t, .int .i64 i, .int .i64 y, .int .i64 z, .int .i64 v]] w (MadeBl res w) := by
  have b0 : Hid (Below w.heap.size w ((w.alloc (.cells #[.int .i64 k, .int .i64 a, .int .i64 s, .bool x, .int .i64 p, .int .i64 q, .int .i64 n, .int .i64 t, .int .i64 i, .int .i64 y, .int .i64 z, .int .i64 v] 25)).alloc (.cells #[.int .i64 a, .int .i64 s, .bool x, .int .i64 p, .int .i64 q, .int .i64 n, .int .i64 t] 23))) := ((Below.refl _ _).alloc (Nat.le_refl _) _).alloc (by simp) _
  have K0 : Hid (Blk ((w.alloc (.cells #[.int .i64 k, .int .i64 a, .int .i64 s, .bool x, .int .i64 p, .int .i64 q, .int .i64 n, .int .i64 t, .int .i64 i, .int .i64 y, .int .i64 z, .int .i64 v] 25)).alloc (.cells #[.int .i64 a, .int .i64 s, .bool x, .int .i64 p, .int .i64 q, .int .i64 n, .int .i64 t] 23)) w.heap.size 25 #[.int .i64 k, .int .i64 a, .int .i64 s, .bool x, .int .i64 p, .int .i64 q, .int .i64 n, .int .i64 t, .int .i64 i, .int .i64 y, .int .i64 z, .int .i64 v]) := (Blk.fresh w _ _).alloc _
  have O0 : Hid (Blk ((w.alloc (.cells #[.int .i64 k, .int .i64 a, .int .i64 s, .bool x, .int .i64 p, .int .i64 q, .int .i64 n, .int .i64 t, .int .i64 i, .int .i64 y, .int .i64 z, .int .i64 v] 25)).alloc (.cells #[.int .i64 a, .int .i64 s, .bool x, .int .i64 p, .int .i64 q, .int .i64 n, .int .i64 t] 23)) (w.heap.size + 1) 23 #[.int .i64 a, .int .i64 s, .bool x, .int .i64 p, .int .i64 q, .int .i64 n, .int .i64 t]) := blk_at (by simp)
  go_enter Tryz.func22, Tryz.ntmps22
  go_upto_region 2 with fail
  generalize ((w.alloc (.cells #[.int .i64 k, .int .i64 a, .int .i64 s, .bool x, .int .i64 p, .int .i64 q, .int .i64 n, .int .i64 t, .int .i64 i, .int .i64 y, .int .i64 z, .int .i64 v] 25)).alloc (.cells #[.int .i64 a, .int .i64 s, .bool x, .int .i64 p, .int .i64 q, .int .i64 n, .int .i64 t] 23)) = w1 at b0 K0 O0 ⊢
  generalize w.heap.size + 1 = gO at O0 ⊢
  obtain ⟨gM, hgM⟩ : ∃ gM, gM = w.heap.size := ⟨_, rfl⟩
  have K1 : Hid (Blk w1 gM 25 #[.int .i64 k, .int .i64 a, .int .i64 s, .bool x, .int .i64 p, .int .i64 q, .int .i64 n, .int .i64 t, .int .i64 i, .int .i64 y, .int .i64 z, .int .i64 v]) := by rw [hgM]; exact K0.out
  have O1 := O0
  clear K0 O0
  have B1 : Hid (Below w1.heap.size w1 w1.drew) := (Below.refl _ _).drew
  have q1 : w1.drew.cell? ⟨gM, 0, none⟩ = some (.int .i64 k) ∧ w1.drew.cell? ⟨gM, 1, none⟩ = some (.int .i64 a) ∧ w1.drew.cell? ⟨gM, 2, none⟩ = some (.int .i64 s) ∧ w1.drew.cell? ⟨gM, 3, none⟩ = some (.bool x) ∧ w1.drew.cell? ⟨gM, 4, none⟩ = some (.int .i64 p) ∧ w1.drew.cell? ⟨gM, 5, none⟩ = some (.int .i64 q) ∧ w1.drew.cell? ⟨gM, 6, none⟩ = some (.int .i64 n) ∧ w1.drew.cell? ⟨gM, 7, none⟩ = some (.int .i64 t) ∧ w1.drew.cell? ⟨gM, 8, none⟩ = some (.int .i64 i) ∧ w1.drew.cell? ⟨gM, 9, none⟩ = some (.int .i64 y) ∧ w1.drew.cell? ⟨gM, 10, none⟩ = some (.int .i64 z) ∧ w1.drew.cell? ⟨gM, 11, none⟩ = some (.int .i64 v) ∧ w1.drew.cell? ⟨gO, 0, none⟩ = some (.int .i64 a) ∧ w1.drew.cell? ⟨gO, 1, none⟩ = some (.int .i64 s) ∧ w1.drew.cell? ⟨gO, 2, none⟩ = some (.bool x) ∧ w1.drew.cell? ⟨gO, 3, none⟩ = some (.int .i64 p) ∧ w1.drew.cell? ⟨gO, 4, none⟩ = some (.int .i64 q) ∧ w1.drew.cell? ⟨gO, 5, none⟩ = some (.int .i64 n) ∧ w1.drew.cell? ⟨gO, 6, none⟩ = some (.int .i64 t) := s19 (Blk.below' K1.out B1.out) (Blk.below' O1.out B1.out)
  simp only [← hgM]
  have HG := Lib.hid hgM
  clear hgM
  simp only [List.append_eq, List.cons_append, List.nil_append]
  refine wp_region_held_drew (S := (fun w' => w'.cell? ⟨gM, 0, none⟩ = some (.int .i64 k) ∧ w'.cell? ⟨gM, 1, none⟩ = some (.int .i64 a) ∧ w'.cell? ⟨gM, 2, none⟩ = some (.int .i64 s) ∧ w'.cell? ⟨gM, 3, none⟩ = some (.bool x) ∧ w'.cell? ⟨gM, 4, none⟩ = some (.int .i64 p) ∧ w'.cell? ⟨gM, 5, none⟩ = some (.int .i64 q) ∧ w'.cell? ⟨gM, 6, none⟩ = some (.int .i64 n) ∧ w'.cell? ⟨gM, 7, none⟩ = some (.int .i64 t) ∧ w'.cell? ⟨gM, 8, none⟩ = some (.int .i64 i) ∧ w'.cell? ⟨gM, 9, none⟩ = some (.int .i64 y) ∧ w'.cell? ⟨gM, 10, none⟩ = some (.int .i64 z) ∧ w'.cell? ⟨gM, 11, none⟩ = some (.int .i64 v) ∧ w'.cell? ⟨gO, 0, none⟩ = some (.int .i64 a) ∧ w'.cell? ⟨gO, 1, none⟩ = some (.int .i64 s) ∧ w'.cell? ⟨gO, 2, none⟩ = some (.bool x) ∧ w'.cell? ⟨gO, 3, none⟩ = some (.int .i64 p) ∧ w'.cell? ⟨gO, 4, none⟩ = some (.int .i64 q) ∧ w'.cell? ⟨gO, 5, none⟩ = some (.int .i64 n) ∧ w'.cell? ⟨gO, 6, none⟩ = some (.int .i64 t))) (by kernel_rfl) q1 (fun hHeld => ?_)
  refine jT 0 ?_
  refine jT 1 ?_
  rcases Bool.eq_false_or_eq_true (decide (0 ≤ k)) with ct0 | ct0
  rotate_left
  · refine jT 2 ?_
    refine jT 3 ?_
    refine jS 4 ?_
    refine jS 5 ?_
    refine jS 6 ?_
    refine jT 7 ?_
    refine jT 8 ?_
    refine jS 9 ?_
    refine jS 11 ?_
    refine jS 10 ?_
    refine jS 12 ?_
    refine jT 13 ?_
    refine jT 14 ?_
    refine jS 15 ?_
    refine jS 16 ?_
    refine jS 17 ?_
    refine jT 18 ?_
    refine jT 19 ?_
    refine jS 20 ?_
    refine jS 21 ?_
    refine jS 22 ?_
    refine jT 23 ?_
    refine jT 24 ?_
    refine jS 25 ?_
    refine jS 26 ?_
    refine jS 27 ?_
    refine jT 28 ?_
    refine jT 29 ?_
    refine jS 30 ?_
    refine jS 31 ?_
    refine jS 32 ?_
    refine jT 33 ?_
    refine jT 34 ?_
    refine jS 35 ?_
    refine jS 36 ?_
    refine jS 37 ?_
    refine jT 38 ?_
    refine jT 39 ?_
    refine jS 40 ?_
    refine jS 41 ?_
    refine jS 42 ?_
    refine jT 43 ?_
    refine jT 44 ?_
    refine jS 45 ?_
    refine jS 46 ?_
    refine jS 47 ?_
    refine jT 48 ?_
    refine jT 49 ?_
    refine jS 50 ?_
    refine jS 51 ?_
    refine jS 52 ?_
    refine jT 53 ?_
    refine jT 54 ?_
    refine jS 55 ?_
    refine jS 56 ?_
    refine jS 57 ?_
    refine jT 58 ?_
    refine jT 59 ?_
    refine jS 60 ?_
    refine jS 61 ?_
    refine jS 62 ?_
    refine jT 63 ?_
    refine jT 64 ?_
    refine jS 65 ?_
    refine jS 66 ?_
    refine jS 67 ?_
    refine jT 68 ?_
    refine jT 69 ?_
    refine wpAnyH_done (by kernel_rfl) ?_ _
    have B9 : Below w.heap.size w w1.drew := below_step b0.out B1.out
    go_wp2_with fail
    go_ret
    exact ⟨by rw [hres.out, ct0]; rfl, B9⟩
  refine jT 2 ?_
  refine jT 3 ?_
  refine jT 4 ?_
  refine jT 5 ?_
  rcases Bool.eq_false_or_eq_true (decide (k ≤ 6)) with ct1 | ct1
  rotate_left
  · refine jT 6 ?_
    refine jT 7 ?_
    refine jT 8 ?_
    refine jS 9 ?_
    refine jS 11 ?_
    refine jS 10 ?_
    refine jS 12 ?_
    refine jT 13 ?_
    refine jT 14 ?_
    refine jS 15 ?_
    refine jS 16 ?_
    refine jS 17 ?_
    refine jT 18 ?_
    refine jT 19 ?_
    refine jS 20 ?_
    refine jS 21 ?_
    refine jS 22 ?_
    refine jT 23 ?_
    refine jT 24 ?_
    refine jS 25 ?_
    refine jS 26 ?_
    refine jS 27 ?_
    refine jT 28 ?_
    refine jT 29 ?_
    refine jS 30 ?_
    refine jS 31 ?_
    refine jS 32 ?_
    refine jT 33 ?_
    refine jT 34 ?_
    refine jS 35 ?_
    refine jS 36 ?_
    refine jS 37 ?_
    refine jT 38 ?_
    refine jT 39 ?_
    refine jS 40 ?_
    refine jS 41 ?_
    refine jS 42 ?_
    refine jT 43 ?_
    refine jT 44 ?_
    refine jS 45 ?_
    refine jS 46 ?_
    refine jS 47 ?_
    refine jT 48 ?_
    refine jT 49 ?_
    refine jS 50 ?_
    refine jS 51 ?_
    refine jS 52 ?_
    refine jT 53 ?_
    refine jT 54 ?_
    refine jS 55 ?_
    refine jS 56 ?_
    refine jS 57 ?_
    refine jT 58 ?_
    refine jT 59 ?_
    refine jS 60 ?_
    refine jS 61 ?_
    refine jS 62 ?_
    refine jT 63 ?_
    refine jT 64 ?_
    refine jS 65 ?_
    refine jS 66 ?_
    refine jS 67 ?_
    refine jT 68 ?_
    refine jT 69 ?_
    refine wpAnyH_done (by kernel_rfl) ?_ _
    have B9 : Below w.heap.size w w1.drew := below_step b0.out B1.out
    go_wp2_with fail
    go_ret
    exact ⟨by rw [hres.out, ct0, ct1]; rfl, B9⟩
  refine jT 6 ?_
  refine jT 7 ?_
  refine jT 8 ?_
  refine jT 9 ?_
  refine jT 11 ?_
  refine wpAnyH_ready (rs := [10]) (by kernel_rfl) (by simp) ?_
  refine AllReadyH.cons rfl (fun K' hK => ?_) AllReadyH.nil
  go_simp
  refine (bare_any ⟨k, a, s, x, p, q, n, t, i, y, z, v⟩ _).mono ?_
  rw [hA.out]
  rintro e w2 ⟨rfl, hb2⟩
  rw [show mvl ⟨k2, a2, s2, x2, p2, q2, n2, t2, i2, y2, z2, v2⟩ = .agg #[.int .i64 k2, .int .i64 a2, .int .i64 s2, .bool x2, .int .i64 p2, .int .i64 q2, .int .i64 n2, .int .i64 t2, .int .i64 i2, .int .i64 y2, .int .i64 z2, .int .i64 v2] from rfl]
  have B2 : Hid (Below w1.heap.size w1 w2) := below_step B1.out hb2
  have hq2 : w2.cell? ⟨gM, 0, none⟩ = some (.int .i64 k) ∧ w2.cell? ⟨gM, 1, none⟩ = some (.int .i64 a) ∧ w2.cell? ⟨gM, 2, none⟩ = some (.int .i64 s) ∧ w2.cell? ⟨gM, 3, none⟩ = some (.bool x) ∧ w2.cell? ⟨gM, 4, none⟩ = some (.int .i64 p) ∧ w2.cell? ⟨gM, 5, none⟩ = some (.int .i64 q) ∧ w2.cell? ⟨gM, 6, none⟩ = some (.int .i64 n) ∧ w2.cell? ⟨gM, 7, none⟩ = some (.int .i64 t) ∧ w2.cell? ⟨gM, 8, none⟩ = some (.int .i64 i) ∧ w2.cell? ⟨gM, 9, none⟩ = some (.int .i64 y) ∧ w2.cell? ⟨gM, 10, none⟩ = some (.int .i64 z) ∧ w2.cell? ⟨gM, 11, none⟩ = some (.int .i64 v) ∧ w2.cell? ⟨gO, 0, none⟩ = some (.int .i64 a) ∧ w2.cell? ⟨gO, 1, none⟩ = some (.int .i64 s) ∧ w2.cell? ⟨gO, 2, none⟩ = some (.bool x) ∧ w2.cell? ⟨gO, 3, none⟩ = some (.int .i64 p) ∧ w2.cell? ⟨gO, 4, none⟩ = some (.int .i64 q) ∧ w2.cell? ⟨gO, 5, none⟩ = some (.int .i64 n) ∧ w2.cell? ⟨gO, 6, none⟩ = some (.int .i64 t) := s19 (Blk.below' K1.out B2.out) (Blk.below' O1.out B2.out)
  go_wp2_with fail
  refine hK.out _ _ hq2 (fun hHeld => ?_)
  clear hK K'
  refine jP ?_
  rcases Bool.eq_false_or_eq_true (eqM ⟨k2, a2, s2, x2, p2, q2, n2, t2, i2, y2, z2, v2⟩ ⟨k, a, s, x, p, q, n, t, i, y, z, v⟩) with ct2 | ct2
  rotate_left
  · refine jT 12 ?_
    refine jT 13 ?_
    refine jT 14 ?_
    refine jS 15 ?_
    refine jS 16 ?_
    refine jS 17 ?_
    refine jT 18 ?_
    refine jT 19 ?_
    refine jS 20 ?_
    refine jS 21 ?_
    refine jS 22 ?_
    refine jT 23 ?_
    refine jT 24 ?_
    refine jS 25 ?_
    refine jS 26 ?_
    refine jS 27 ?_
    refine jT 28 ?_
    refine jT 29 ?_
    refine jS 30 ?_
    refine jS 31 ?_
    refine jS 32 ?_
    refine jT 33 ?_
    refine jT 34 ?_
    refine jS 35 ?_
    refine jS 36 ?_
    refine jS 37 ?_
    refine jT 38 ?_
    refine jT 39 ?_
    refine jS 40 ?_
    refine jS 41 ?_
    refine jS 42 ?_
    refine jT 43 ?_
    refine jT 44 ?_
    refine jS 45 ?_
    refine jS 46 ?_
    refine jS 47 ?_
    refine jT 48 ?_
    refine jT 49 ?_
    refine jS 50 ?_
    refine jS 51 ?_
    refine jS 52 ?_
    refine jT 53 ?_
    refine jT 54 ?_
    refine jS 55 ?_
    refine jS 56 ?_
    refine jS 57 ?_
    refine jT 58 ?_
    refine jT 59 ?_
    refine jS 60 ?_
    refine jS 61 ?_
    refine jS 62 ?_
    refine jT 63 ?_
    refine jT 64 ?_
    refine jS 65 ?_
    refine jS 66 ?_
    refine jS 67 ?_
    refine jT 68 ?_
    refine jT 69 ?_
    refine wpAnyH_done (by kernel_rfl) ?_ _
    have B9 : Below w.heap.size w w2 := below_step b0.out B2.out
    go_wp2_with fail
    go_ret
    exact ⟨by rw [hres.out, ct0, ct1, ct2]; rfl, B9⟩
  refine jT 12 ?_
  refine jT 13 ?_
  refine jT 14 ?_
  refine jT 15 ?_
  refine jT 16 ?_
  rcases Bool.eq_false_or_eq_true ((decide (0 ≤ a) && decide (a ≤ 65535))) with ct3 | ct3
  rotate_left
  · refine wpAnyH_ready (rs := [17]) (by kernel_rfl) (by simp) ?_
    refine AllReadyH.cons rfl (fun K' hK => ?_) AllReadyH.nil
    go_simp
    refine (short_any _ _).mono ?_
    rintro e w3 ⟨rfl, rfl⟩
    go_wp2_with fail
    refine hK.out _ _ hq2 (fun hHeld => ?_)
    clear hK K'
    refine jP ?_
    refine jT 18 ?_
    refine jT 19 ?_
    refine jS 20 ?_
    refine jS 21 ?_
    refine jS 22 ?_
    refine jT 23 ?_
    refine jT 24 ?_
    refine jS 25 ?_
    refine jS 26 ?_
    refine jS 27 ?_
    refine jT 28 ?_
    refine jT 29 ?_
    refine jS 30 ?_
    refine jS 31 ?_
    refine jS 32 ?_
    refine jT 33 ?_
    refine jT 34 ?_
    refine jS 35 ?_
    refine jS 36 ?_
    refine jS 37 ?_
    refine jT 38 ?_
    refine jT 39 ?_
    refine jS 40 ?_
    refine jS 41 ?_
    refine jS 42 ?_
    refine jT 43 ?_
    refine jT 44 ?_
    refine jS 45 ?_
    refine jS 46 ?_
    refine jS 47 ?_
    refine jT 48 ?_
    refine jT 49 ?_
    refine jS 50 ?_
    refine jS 51 ?_
    refine jS 52 ?_
    refine jT 53 ?_
    refine jT 54 ?_
    refine jS 55 ?_
    refine jS 56 ?_
    refine jS 57 ?_
    refine jT 58 ?_
    refine jT 59 ?_
    refine jS 60 ?_
    refine jS 61 ?_
    refine jS 62 ?_
    refine jT 63 ?_
    refine jT 64 ?_
    refine jS 65 ?_
    refine jS 66 ?_
    refine jS 67 ?_
    refine jT 68 ?_
    refine jT 69 ?_
    refine wpAnyH_done (by kernel_rfl) ?_ _
    have B9 : Below w.heap.size w w2 := below_step b0.out B2.out
    go_wp2_with fail
    go_ret
    exact ⟨by rw [hres.out, ct0, ct1, ct2, ct3]; rfl, B9⟩
  refine wpAnyH_ready (rs := [17]) (by kernel_rfl) (by simp) ?_
  refine AllReadyH.cons rfl (fun K' hK => ?_) AllReadyH.nil
  go_simp
  refine (short_any _ _).mono ?_
  rintro e w3 ⟨rfl, rfl⟩
  go_wp2_with fail
  refine hK.out _ _ hq2 (fun hHeld => ?_)
  clear hK K'
  refine jP ?_
  refine jT 18 ?_
  refine jT 19 ?_
  refine jT 20 ?_
  refine jT 21 ?_
  rcases Bool.eq_false_or_eq_true ((decide (0 ≤ s) && decide (s ≤ 65535))) with ct4 | ct4
  rotate_left
  · refine wpAnyH_ready (rs := [22]) (by kernel_rfl) (by simp) ?_
    refine AllReadyH.cons rfl (fun K' hK => ?_) AllReadyH.nil
    go_simp
    refine (short_any _ _).mono ?_
    rintro e w3 ⟨rfl, rfl⟩
    go_wp2_with fail
    refine hK.out _ _ hq2 (fun hHeld => ?_)
    clear hK K'
    refine jP ?_
    refine jT 23 ?_
    refine jT 24 ?_
    refine jS 25 ?_
    refine jS 26 ?_
    refine jS 27 ?_
    refine jT 28 ?_
    refine jT 29 ?_
    refine jS 30 ?_
    refine jS 31 ?_
    refine jS 32 ?_
    refine jT 33 ?_
    refine jT 34 ?_
    refine jS 35 ?_
    refine jS 36 ?_
    refine jS 37 ?_
    refine jT 38 ?_
    refine jT 39 ?_
    refine jS 40 ?_
    refine jS 41 ?_
    refine jS 42 ?_
    refine jT 43 ?_
    refine jT 44 ?_
    refine jS 45 ?_
    refine jS 46 ?_
    refine jS 47 ?_
    refine jT 48 ?_
    refine jT 49 ?_
    refine jS 50 ?_
    refine jS 51 ?_
    refine jS 52 ?_
    refine jT 53 ?_
    refine jT 54 ?_
    refine jS 55 ?_
    refine jS 56 ?_
    refine jS 57 ?_
    refine jT 58 ?_
    refine jT 59 ?_
    refine jS 60 ?_
    refine jS 61 ?_
    refine jS 62 ?_
    refine jT 63 ?_
    refine jT 64 ?_
    refine jS 65 ?_
    refine jS 66 ?_
    refine jS 67 ?_
    refine jT 68 ?_
    refine jT 69 ?_
    refine wpAnyH_done (by kernel_rfl) ?_ _
    have B9 : Below w.heap.size w w2 := below_step b0.out B2.out
    go_wp2_with fail
    go_ret
    exact ⟨by rw [hres.out, ct0, ct1, ct2, ct3, ct4]; rfl, B9⟩
  refine wpAnyH_ready (rs := [22]) (by kernel_rfl) (by simp) ?_
  refine AllReadyH.cons rfl (fun K' hK => ?_) AllReadyH.nil
  go_simp
  refine (short_any _ _).mono ?_
  rintro e w3 ⟨rfl, rfl⟩
  go_wp2_with fail
  refine hK.out _ _ hq2 (fun hHeld => ?_)
  clear hK K'
  refine jP ?_
  refine jT 23 ?_
  refine jT 24 ?_
  refine jT 25 ?_
  refine jT 26 ?_
  rcases Bool.eq_false_or_eq_true ((decide (0 ≤ z) && decide (z ≤ 65535))) with ct5 | ct5
  rotate_left
  · refine wpAnyH_ready (rs := [27]) (by kernel_rfl) (by simp) ?_
    refine AllReadyH.cons rfl (fun K' hK => ?_) AllReadyH.nil
    go_simp
    refine (short_any _ _).mono ?_
    rintro e w3 ⟨rfl, rfl⟩
    go_wp2_with fail
    refine hK.out _ _ hq2 (fun hHeld => ?_)
    clear hK K'
    refine jP ?_
    refine jT 28 ?_
    refine jT 29 ?_
    refine jS 30 ?_
    refine jS 31 ?_
    refine jS 32 ?_
    refine jT 33 ?_
    refine jT 34 ?_
    refine jS 35 ?_
    refine jS 36 ?_
    refine jS 37 ?_
    refine jT 38 ?_
    refine jT 39 ?_
    refine jS 40 ?_
    refine jS 41 ?_
    refine jS 42 ?_
    refine jT 43 ?_
    refine jT 44 ?_
    refine jS 45 ?_
    refine jS 46 ?_
    refine jS 47 ?_
    refine jT 48 ?_
    refine jT 49 ?_
    refine jS 50 ?_
    refine jS 51 ?_
    refine jS 52 ?_
    refine jT 53 ?_
    refine jT 54 ?_
    refine jS 55 ?_
    refine jS 56 ?_
    refine jS 57 ?_
    refine jT 58 ?_
    refine jT 59 ?_
    refine jS 60 ?_
    refine jS 61 ?_
    refine jS 62 ?_
    refine jT 63 ?_
    refine jT 64 ?_
    refine jS 65 ?_
    refine jS 66 ?_
    refine jS 67 ?_
    refine jT 68 ?_
    refine jT 69 ?_
    refine wpAnyH_done (by kernel_rfl) ?_ _
    have B9 : Below w.heap.size w w2 := below_step b0.out B2.out
    go_wp2_with fail
    go_ret
    exact ⟨by rw [hres.out, ct0, ct1, ct2, ct3, ct4, ct5]; rfl, B9⟩
  refine wpAnyH_ready (rs := [27]) (by kernel_rfl) (by simp) ?_
  refine AllReadyH.cons rfl (fun K' hK => ?_) AllReadyH.nil
  go_simp
  refine (short_any _ _).mono ?_
  rintro e w3 ⟨rfl, rfl⟩
  go_wp2_with fail
  refine hK.out _ _ hq2 (fun hHeld => ?_)
  clear hK K'
  refine jP ?_
  refine jT 28 ?_
  refine jT 29 ?_
  refine jT 30 ?_
  refine jT 31 ?_
  rcases Bool.eq_false_or_eq_true (decide (0 ≤ i)) with ct6 | ct6
  rotate_left
  · refine jT 32 ?_
    refine jT 33 ?_
    refine jT 34 ?_
    refine jS 35 ?_
    refine jS 36 ?_
    refine jS 37 ?_
    refine jT 38 ?_
    refine jT 39 ?_
    refine jS 40 ?_
    refine jS 41 ?_
    refine jS 42 ?_
    refine jT 43 ?_
    refine jT 44 ?_
    refine jS 45 ?_
    refine jS 46 ?_
    refine jS 47 ?_
    refine jT 48 ?_
    refine jT 49 ?_
    refine jS 50 ?_
    refine jS 51 ?_
    refine jS 52 ?_
    refine jT 53 ?_
    refine jT 54 ?_
    refine jS 55 ?_
    refine jS 56 ?_
    refine jS 57 ?_
    refine jT 58 ?_
    refine jT 59 ?_
    refine jS 60 ?_
    refine jS 61 ?_
    refine jS 62 ?_
    refine jT 63 ?_
    refine jT 64 ?_
    refine jS 65 ?_
    refine jS 66 ?_
    refine jS 67 ?_
    refine jT 68 ?_
    refine jT 69 ?_
    refine wpAnyH_done (by kernel_rfl) ?_ _
    have B9 : Below w.heap.size w w2 := below_step b0.out B2.out
    go_wp2_with fail
    go_ret
    exact ⟨by rw [hres.out, ct0, ct1, ct2, ct3, ct4, ct5, ct6]; rfl, B9⟩
  refine jT 32 ?_
  refine jT 33 ?_
  refine jT 34 ?_
  refine jT 35 ?_
  refine jT 36 ?_
  rcases Bool.eq_false_or_eq_true (decide (i ≤ 4294967295)) with ct7 | ct7
  rotate_left
  · refine jT 37 ?_
    refine jT 38 ?_
    refine jT 39 ?_
    refine jS 40 ?_
    refine jS 41 ?_
    refine jS 42 ?_
    refine jT 43 ?_
    refine jT 44 ?_
    refine jS 45 ?_
    refine jS 46 ?_
    refine jS 47 ?_
    refine jT 48 ?_
    refine jT 49 ?_
    refine jS 50 ?_
    refine jS 51 ?_
    refine jS 52 ?_
    refine jT 53 ?_
    refine jT 54 ?_
    refine jS 55 ?_
    refine jS 56 ?_
    refine jS 57 ?_
    refine jT 58 ?_
    refine jT 59 ?_
    refine jS 60 ?_
    refine jS 61 ?_
    refine jS 62 ?_
    refine jT 63 ?_
    refine jT 64 ?_
    refine jS 65 ?_
    refine jS 66 ?_
    refine jS 67 ?_
    refine jT 68 ?_
    refine jT 69 ?_
    refine wpAnyH_done (by kernel_rfl) ?_ _
    have B9 : Below w.heap.size w w2 := below_step b0.out B2.out
    go_wp2_with fail
    go_ret
    exact ⟨by rw [hres.out, ct0, ct1, ct2, ct3, ct4, ct5, ct6, ct7]; rfl, B9⟩
  refine jT 37 ?_
  refine jT 38 ?_
  refine jT 39 ?_
  refine jT 40 ?_
  refine jT 41 ?_
  rcases Bool.eq_false_or_eq_true (decide (0 ≤ p)) with ct8 | ct8
  rotate_left
  · refine jT 42 ?_
    refine jT 43 ?_
    refine jT 44 ?_
    refine jS 45 ?_
    refine jS 46 ?_
    refine jS 47 ?_
    refine jT 48 ?_
    refine jT 49 ?_
    refine jS 50 ?_
    refine jS 51 ?_
    refine jS 52 ?_
    refine jT 53 ?_
    refine jT 54 ?_
    refine jS 55 ?_
    refine jS 56 ?_
    refine jS 57 ?_
    refine jT 58 ?_
    refine jT 59 ?_
    refine jS 60 ?_
    refine jS 61 ?_
    refine jS 62 ?_
    refine jT 63 ?_
    refine jT 64 ?_
    refine jS 65 ?_
    refine jS 66 ?_
    refine jS 67 ?_
    refine jT 68 ?_
    refine jT 69 ?_
    refine wpAnyH_done (by kernel_rfl) ?_ _
    have B9 : Below w.heap.size w w2 := below_step b0.out B2.out
    go_wp2_with fail
    go_ret
    exact ⟨by rw [hres.out, ct0, ct1, ct2, ct3, ct4, ct5, ct6, ct7, ct8]; rfl, B9⟩
  refine jT 42 ?_
  refine jT 43 ?_
  refine jT 44 ?_
  refine jT 45 ?_
  refine jT 46 ?_
  rcases Bool.eq_false_or_eq_true (decide (0 ≤ q)) with ct9 | ct9
  rotate_left
  · refine jT 47 ?_
    refine jT 48 ?_
    refine jT 49 ?_
    refine jS 50 ?_
    refine jS 51 ?_
    refine jS 52 ?_
    refine jT 53 ?_
    refine jT 54 ?_
    refine jS 55 ?_
    refine jS 56 ?_
    refine jS 57 ?_
    refine jT 58 ?_
    refine jT 59 ?_
    refine jS 60 ?_
    refine jS 61 ?_
    refine jS 62 ?_
    refine jT 63 ?_
    refine jT 64 ?_
    refine jS 65 ?_
    refine jS 66 ?_
    refine jS 67 ?_
    refine jT 68 ?_
    refine jT 69 ?_
    refine wpAnyH_done (by kernel_rfl) ?_ _
    have B9 : Below w.heap.size w w2 := below_step b0.out B2.out
    go_wp2_with fail
    go_ret
    exact ⟨by rw [hres.out, ct0, ct1, ct2, ct3, ct4, ct5, ct6, ct7, ct8, ct9]; rfl, B9⟩
  refine jT 47 ?_
  refine jT 48 ?_
  refine jT 49 ?_
  refine jT 50 ?_
  refine jT 51 ?_
  rcases Bool.eq_false_or_eq_true (decide (0 ≤ n)) with ct10 | ct10
  rotate_left
  · refine jT 52 ?_
    refine jT 53 ?_
    refine jT 54 ?_
    refine jS 55 ?_
    refine jS 56 ?_
    refine jS 57 ?_
    refine jT 58 ?_
    refine jT 59 ?_
    refine jS 60 ?_
    refine jS 61 ?_
    refine jS 62 ?_
    refine jT 63 ?_
    refine jT 64 ?_
    refine jS 65 ?_
    refine jS 66 ?_
    refine jS 67 ?_
    refine jT 68 ?_
    refine jT 69 ?_
    refine wpAnyH_done (by kernel_rfl) ?_ _
    have B9 : Below w.heap.size w w2 := below_step b0.out B2.out
    go_wp2_with fail
    go_ret
    exact ⟨by rw [hres.out, ct0, ct1, ct2, ct3, ct4, ct5, ct6, ct7, ct8, ct9, ct10]; rfl, B9⟩
  refine jT 52 ?_
  refine jT 53 ?_
  refine jT 54 ?_
  refine jT 55 ?_
  refine jT 56 ?_
  rcases Bool.eq_false_or_eq_true (decide (0 ≤ t)) with ct11 | ct11
  rotate_left
  · refine jT 57 ?_
    refine jT 58 ?_
    refine jT 59 ?_
    refine jS 60 ?_
    refine jS 61 ?_
    refine jS 62 ?_
    refine jT 63 ?_
    refine jT 64 ?_
    refine jS 65 ?_
    refine jS 66 ?_
    refine jS 67 ?_
    refine jT 68 ?_
    refine jT 69 ?_
    refine wpAnyH_done (by kernel_rfl) ?_ _
    have B9 : Below w.heap.size w w2 := below_step b0.out B2.out
    go_wp2_with fail
    go_ret
    exact ⟨by rw [hres.out, ct0, ct1, ct2, ct3, ct4, ct5, ct6, ct7, ct8, ct9, ct10, ct11]; rfl, B9⟩
  refine jT 57 ?_
  refine jT 58 ?_
  refine jT 59 ?_
  refine jT 60 ?_
  refine jT 61 ?_
  rcases Bool.eq_false_or_eq_true (decide (0 ≤ y)) with ct12 | ct12
  rotate_left
  · refine jT 62 ?_
    refine jT 63 ?_
    refine jT 64 ?_
    refine jS 65 ?_
    refine jS 66 ?_
    refine jS 67 ?_
    refine jT 68 ?_
    refine jT 69 ?_
    refine wpAnyH_done (by kernel_rfl) ?_ _
    have B9 : Below w.heap.size w w2 := below_step b0.out B2.out
    go_wp2_with fail
    go_ret
    exact ⟨by rw [hres.out, ct0, ct1, ct2, ct3, ct4, ct5, ct6, ct7, ct8, ct9, ct10, ct11, ct12]; rfl, B9⟩
  refine jT 62 ?_
  refine jT 63 ?_
  refine jT 64 ?_
  refine jT 65 ?_
  refine jT 66 ?_
  rcases Bool.eq_false_or_eq_true (decide (0 ≤ v)) with ct13 | ct13
  rotate_left
  · refine jT 67 ?_
    refine jT 68 ?_
    refine jT 69 ?_
    refine wpAnyH_done (by kernel_rfl) ?_ _
    have B9 : Below w.heap.size w w2 := below_step b0.out B2.out
    go_wp2_with fail
    go_ret
    exact ⟨by rw [hres.out, ct0, ct1, ct2, ct3, ct4, ct5, ct6, ct7, ct8, ct9, ct10, ct11, ct12, ct13]; rfl, B9⟩
  refine jT 67 ?_
  refine jT 68 ?_
  refine jT 69 ?_
  refine wpAnyH_done (by kernel_rfl) ?_ _
  have B9 : Below w.heap.size w w2 := below_step b0.out B2.out
  go_wp2_with fail
  go_ret
  exact ⟨by rw [hres.out, ct0, ct1, ct2, ct3, ct4, ct5, ct6, ct7, ct8, ct9, ct10, ct11, ct12, ct13]; rfl, B9⟩
theorem rright_any (m : M) (w : World) : Calls Tryz.prog 22 #[mvl m] w (MadeBl (rightM m) w) := by
  obtain ⟨k, a, s, x, p, q, n, t, i, y, z, v⟩ := m
  show Calls Tryz.prog 22 #[.agg #[.int .i64 k, .int .i64 a, .int .i64 s, .bool x, .int .i64 p, .int .i64 q, .int .i64 n, .int .i64 t, .int .i64 i, .int .i64 y, .int .i64 z, .int .i64 v]] w (MadeBl (rightM ⟨k, a, s, x, p, q, n, t, i, y, z, v⟩) w)
  generalize hA : alM ⟨k, a, s, x, p, q, n, t, i, y, z, v⟩ = A
  obtain ⟨k2, a2, s2, x2, p2, q2, n2, t2, i2, y2, z2, v2⟩ := A
  refine rr k a s p q n t i y z v k2 a2 s2 p2 q2 n2 t2 i2 y2 z2 v2 x x2 _ w hA ?_
  show _ = _
  rw [Bool.eq_iff_iff]
  simp only [Bool.and_eq_true, decide_eq_true_eq]
  constructor
  · intro h
    obtain ⟨r1, r2, r3, r4⟩ := rightM_of h
    have r5 : eqM ⟨k2, a2, s2, x2, p2, q2, n2, t2, i2, y2, z2, v2⟩ ⟨k, a, s, x, p, q, n, t, i, y, z, v⟩ = true := by rw [← hA, ← r3]; exact eqM_self _
    unfold fitP at r4
    simp only [] at r4 r1 r2
    simp only [r5, true_and, and_true]
    omega
  · intro h
    have h3 : eqM ⟨k2, a2, s2, x2, p2, q2, n2, t2, i2, y2, z2, v2⟩ ⟨k, a, s, x, p, q, n, t, i, y, z, v⟩ = true := h.1.1.1.1.1.1.1.1.1.1.1.2
    refine rightM_t (by show 0 ≤ k; omega) (by show k ≤ 6; omega) (by rw [hA]; exact ((eqM_iff _ _).1 h3).symm) ?_
    unfold fitP
    simp only []
    omega
end Wry
namespace Rsl
open Kap Go.ChangeShapes Go.WideShapes Go.ChangeAt Go.RowKit Go.Lib Mem Wpl Wmr Wrt Wry Spa Spm Shw Rsa
theorem rr_no {m : M} (h : ¬ rightM m = true) (w : World) : Calls Tryz.prog 22 #[mvl m] w (MadeBl false w) := by
  have := rright_any m w
  rw [Bool.eq_false_iff.2 h] at this
  exact this
theorem rr_yes {m : M} (h : rightM m = true) (w : World) : Calls Tryz.prog 22 #[mvl m] w (MadeBl true w) := by
  have := rright_any m w
  rw [h] at this
  exact this
theorem rline2 (a s : Int) (x : Bool) (p q n t i y z v : Int) (w : World) (hw : WfM (⟨2, a, s, x, p, q, n, t, i, y, z, v⟩ : M)) (hr : rightM (⟨2, a, s, x, p, q, n, t, i, y, z, v⟩ : M) = true) : Calls Tryz.prog 10 #[mvl (⟨2, a, s, x, p, q, n, t, i, y, z, v⟩ : M)] w (MadeS (lineL (⟨2, a, s, x, p, q, n, t, i, y, z, v⟩ : M)) w) := by
  obtain ⟨_, _, _, ⟨ha, _⟩, ⟨hs, _⟩, ⟨hz, _⟩, ⟨hi, _⟩, hp, hq, hn, ht, hy, hv⟩ := rightM_of hr
  obtain ⟨_, ia, is, ip, iq, iN, it, ii, iy, iz, iv⟩ := hw
  have l1 := itoa_len ia
  have l2 := itoa_len is
  have l3 := itoa_len ip
  have l4 := itoa_len iq
  have l5 := itoa_len iN
  have l6 := itoa_len it
  have l7 := itoa_len ii
  have l8 := itoa_len iy
  have l9 := itoa_len iz
  have l10 := itoa_len iv
  simp only at ha hs hz hi hp hq hn ht hy hv ia is ip iq iN it ii iy iz iv l1 l2 l3 l4 l5 l6 l7 l8 l9 l10
  have hl : Hid (lineL (⟨2, a, s, x, p, q, n, t, i, y, z, v⟩ : M) = join [wFill, itoa i, itoa y] [32]) := κ (by unfold lineL; rw [if_pos hr]; rfl)
  rw [hl.out]
  have b0 := κ (β w (.cells #[.int .i64 2, .int .i64 a, .int .i64 s, .bool x, .int .i64 p, .int .i64 q, .int .i64 n, .int .i64 t, .int .i64 i, .int .i64 y, .int .i64 z, .int .i64 v] 25))
  have k0 := κ (δ w 25 #[.int .i64 2, .int .i64 a, .int .i64 s, .bool x, .int .i64 p, .int .i64 q, .int .i64 n, .int .i64 t, .int .i64 i, .int .i64 y, .int .i64 z, .int .i64 v] w.heap.size rfl)
  have hR := κ (rr_yes hr)
  clear hr hl
  rw [mvl_mk]
  go_enter Tryz.func10, Tryz.ntmps10
  obtain ⟨j0, j1, j2, j3, j4, j5, j6, j7, j8, j9, j10, j11⟩ := c12_of k0.out
  go_wp2_with fail
  clear j0 j1 j2 j3 j4 j5 j6 j7 j8 j9 j10 j11
  generalize (w.alloc (.cells #[.int .i64 2, .int .i64 a, .int .i64 s, .bool x, .int .i64 p, .int .i64 q, .int .i64 n, .int .i64 t, .int .i64 i, .int .i64 y, .int .i64 z, .int .i64 v] 25)) = w0 at b0 k0 ⊢
  generalize w.heap.size = gM at k0 ⊢
  refine (hR.out _).mono ?_
  rintro e w1 ⟨rfl, hb1⟩
  have b1 := κ (CrdB.below_step b0.out hb1)
  have k1 := κ (k0.out.below' hb1)
  clear hb1 b0 k0 hR
  have b2 := κ (b1.out.alloc b1.out.size (.cells #[.string ⟨#[111, 114, 100, 101, 114]⟩, .string ⟨#[99, 97, 110, 99, 101, 108]⟩, .string ⟨#[102, 105, 108, 108]⟩, .string ⟨#[97, 99, 107]⟩, .string ⟨#[107, 105, 108, 108]⟩, .string ⟨#[114, 101, 97, 114, 109]⟩, .string ⟨#[108, 105, 109, 105, 116]⟩] 9))
  have k2 := κ (k1.out.alloc (.cells #[.string ⟨#[111, 114, 100, 101, 114]⟩, .string ⟨#[99, 97, 110, 99, 101, 108]⟩, .string ⟨#[102, 105, 108, 108]⟩, .string ⟨#[97, 99, 107]⟩, .string ⟨#[107, 105, 108, 108]⟩, .string ⟨#[114, 101, 97, 114, 109]⟩, .string ⟨#[108, 105, 109, 105, 116]⟩] 9))
  have n2 := κ (δ w1 9 #[.string ⟨#[111, 114, 100, 101, 114]⟩, .string ⟨#[99, 97, 110, 99, 101, 108]⟩, .string ⟨#[102, 105, 108, 108]⟩, .string ⟨#[97, 99, 107]⟩, .string ⟨#[107, 105, 108, 108]⟩, .string ⟨#[114, 101, 97, 114, 109]⟩, .string ⟨#[108, 105, 109, 105, 116]⟩] w1.heap.size rfl)
  obtain ⟨j0, j1, j2, j3, j4, j5, j6, j7, j8, j9, j10, j11⟩ := c12_of k2.out
  have nm0 := n2.out.cell 2
  go_upto_region 17 with fail
  go_quiet ((go_at_call 23; exact Calls.quiet_of (rput_any _ _ (by (try simp only [List.length_append, List.length_cons, List.length_nil]); omega) (by assumption) (by unfold inI at *; omega) _)))
  go_wp2_with fail
  go_ret
  exact ⟨ret_eq (congrArg (fun l => sv l) (by rw [join_cons]; simp [joinTail, wFill])), Below.drewN' b2.out nq⟩
theorem rline6 (a s : Int) (x : Bool) (p q n t i y z v : Int) (w : World) (hw : WfM (⟨6, a, s, x, p, q, n, t, i, y, z, v⟩ : M)) (hr : rightM (⟨6, a, s, x, p, q, n, t, i, y, z, v⟩ : M) = true) : Calls Tryz.prog 10 #[mvl (⟨6, a, s, x, p, q, n, t, i, y, z, v⟩ : M)] w (MadeS (lineL (⟨6, a, s, x, p, q, n, t, i, y, z, v⟩ : M)) w) := by
  obtain ⟨_, _, _, ⟨ha, _⟩, ⟨hs, _⟩, ⟨hz, _⟩, ⟨hi, _⟩, hp, hq, hn, ht, hy, hv⟩ := rightM_of hr
  obtain ⟨_, ia, is, ip, iq, iN, it, ii, iy, iz, iv⟩ := hw
  have l1 := itoa_len ia
  have l2 := itoa_len is
  have l3 := itoa_len ip
  have l4 := itoa_len iq
  have l5 := itoa_len iN
  have l6 := itoa_len it
  have l7 := itoa_len ii
  have l8 := itoa_len iy
  have l9 := itoa_len iz
  have l10 := itoa_len iv
  simp only at ha hs hz hi hp hq hn ht hy hv ia is ip iq iN it ii iy iz iv l1 l2 l3 l4 l5 l6 l7 l8 l9 l10
  have hl : Hid (lineL (⟨6, a, s, x, p, q, n, t, i, y, z, v⟩ : M) = join [wLimit, itoa z, itoa v] [32]) := κ (by unfold lineL; rw [if_pos hr]; rfl)
  rw [hl.out]
  have b0 := κ (β w (.cells #[.int .i64 6, .int .i64 a, .int .i64 s, .bool x, .int .i64 p, .int .i64 q, .int .i64 n, .int .i64 t, .int .i64 i, .int .i64 y, .int .i64 z, .int .i64 v] 25))
  have k0 := κ (δ w 25 #[.int .i64 6, .int .i64 a, .int .i64 s, .bool x, .int .i64 p, .int .i64 q, .int .i64 n, .int .i64 t, .int .i64 i, .int .i64 y, .int .i64 z, .int .i64 v] w.heap.size rfl)
  have hR := κ (rr_yes hr)
  clear hr hl
  rw [mvl_mk]
  go_enter Tryz.func10, Tryz.ntmps10
  obtain ⟨j0, j1, j2, j3, j4, j5, j6, j7, j8, j9, j10, j11⟩ := c12_of k0.out
  go_wp2_with fail
  clear j0 j1 j2 j3 j4 j5 j6 j7 j8 j9 j10 j11
  generalize (w.alloc (.cells #[.int .i64 6, .int .i64 a, .int .i64 s, .bool x, .int .i64 p, .int .i64 q, .int .i64 n, .int .i64 t, .int .i64 i, .int .i64 y, .int .i64 z, .int .i64 v] 25)) = w0 at b0 k0 ⊢
  generalize w.heap.size = gM at k0 ⊢
  refine (hR.out _).mono ?_
  rintro e w1 ⟨rfl, hb1⟩
  have b1 := κ (CrdB.below_step b0.out hb1)
  have k1 := κ (k0.out.below' hb1)
  clear hb1 b0 k0 hR
  have b2 := κ (b1.out.alloc b1.out.size (.cells #[.string ⟨#[111, 114, 100, 101, 114]⟩, .string ⟨#[99, 97, 110, 99, 101, 108]⟩, .string ⟨#[102, 105, 108, 108]⟩, .string ⟨#[97, 99, 107]⟩, .string ⟨#[107, 105, 108, 108]⟩, .string ⟨#[114, 101, 97, 114, 109]⟩, .string ⟨#[108, 105, 109, 105, 116]⟩] 9))
  have k2 := κ (k1.out.alloc (.cells #[.string ⟨#[111, 114, 100, 101, 114]⟩, .string ⟨#[99, 97, 110, 99, 101, 108]⟩, .string ⟨#[102, 105, 108, 108]⟩, .string ⟨#[97, 99, 107]⟩, .string ⟨#[107, 105, 108, 108]⟩, .string ⟨#[114, 101, 97, 114, 109]⟩, .string ⟨#[108, 105, 109, 105, 116]⟩] 9))
  have n2 := κ (δ w1 9 #[.string ⟨#[111, 114, 100, 101, 114]⟩, .string ⟨#[99, 97, 110, 99, 101, 108]⟩, .string ⟨#[102, 105, 108, 108]⟩, .string ⟨#[97, 99, 107]⟩, .string ⟨#[107, 105, 108, 108]⟩, .string ⟨#[114, 101, 97, 114, 109]⟩, .string ⟨#[108, 105, 109, 105, 116]⟩] w1.heap.size rfl)
  obtain ⟨j0, j1, j2, j3, j4, j5, j6, j7, j8, j9, j10, j11⟩ := c12_of k2.out
  have nm0 := n2.out.cell 6
  go_upto_region 19 with fail
  go_quiet ((go_at_call 23; exact Calls.quiet_of (rput_any _ _ (by (try simp only [List.length_append, List.length_cons, List.length_nil]); omega) (by assumption) (by unfold inI at *; omega) _)))
  go_wp2_with fail
  go_ret
  exact ⟨ret_eq (congrArg (fun l => sv l) (by rw [join_cons]; simp [joinTail, wLimit])), Below.drewN' b2.out nq⟩
theorem rline1 (a s : Int) (x : Bool) (p q n t i y z v : Int) (w : World) (hw : WfM (⟨1, a, s, x, p, q, n, t, i, y, z, v⟩ : M)) (hr : rightM (⟨1, a, s, x, p, q, n, t, i, y, z, v⟩ : M) = true) : Calls Tryz.prog 10 #[mvl (⟨1, a, s, x, p, q, n, t, i, y, z, v⟩ : M)] w (MadeS (lineL (⟨1, a, s, x, p, q, n, t, i, y, z, v⟩ : M)) w) := by
  obtain ⟨_, _, _, ⟨ha, _⟩, ⟨hs, _⟩, ⟨hz, _⟩, ⟨hi, _⟩, hp, hq, hn, ht, hy, hv⟩ := rightM_of hr
  obtain ⟨_, ia, is, ip, iq, iN, it, ii, iy, iz, iv⟩ := hw
  have l1 := itoa_len ia
  have l2 := itoa_len is
  have l3 := itoa_len ip
  have l4 := itoa_len iq
  have l5 := itoa_len iN
  have l6 := itoa_len it
  have l7 := itoa_len ii
  have l8 := itoa_len iy
  have l9 := itoa_len iz
  have l10 := itoa_len iv
  simp only at ha hs hz hi hp hq hn ht hy hv ia is ip iq iN it ii iy iz iv l1 l2 l3 l4 l5 l6 l7 l8 l9 l10
  have hl : Hid (lineL (⟨1, a, s, x, p, q, n, t, i, y, z, v⟩ : M) = join [wCancel, itoa i] [32]) := κ (by unfold lineL; rw [if_pos hr]; rfl)
  rw [hl.out]
  have b0 := κ (β w (.cells #[.int .i64 1, .int .i64 a, .int .i64 s, .bool x, .int .i64 p, .int .i64 q, .int .i64 n, .int .i64 t, .int .i64 i, .int .i64 y, .int .i64 z, .int .i64 v] 25))
  have k0 := κ (δ w 25 #[.int .i64 1, .int .i64 a, .int .i64 s, .bool x, .int .i64 p, .int .i64 q, .int .i64 n, .int .i64 t, .int .i64 i, .int .i64 y, .int .i64 z, .int .i64 v] w.heap.size rfl)
  have hR := κ (rr_yes hr)
  clear hr hl
  rw [mvl_mk]
  go_enter Tryz.func10, Tryz.ntmps10
  obtain ⟨j0, j1, j2, j3, j4, j5, j6, j7, j8, j9, j10, j11⟩ := c12_of k0.out
  go_wp2_with fail
  clear j0 j1 j2 j3 j4 j5 j6 j7 j8 j9 j10 j11
  generalize (w.alloc (.cells #[.int .i64 1, .int .i64 a, .int .i64 s, .bool x, .int .i64 p, .int .i64 q, .int .i64 n, .int .i64 t, .int .i64 i, .int .i64 y, .int .i64 z, .int .i64 v] 25)) = w0 at b0 k0 ⊢
  generalize w.heap.size = gM at k0 ⊢
  refine (hR.out _).mono ?_
  rintro e w1 ⟨rfl, hb1⟩
  have b1 := κ (CrdB.below_step b0.out hb1)
  have k1 := κ (k0.out.below' hb1)
  clear hb1 b0 k0 hR
  have b2 := κ (b1.out.alloc b1.out.size (.cells #[.string ⟨#[111, 114, 100, 101, 114]⟩, .string ⟨#[99, 97, 110, 99, 101, 108]⟩, .string ⟨#[102, 105, 108, 108]⟩, .string ⟨#[97, 99, 107]⟩, .string ⟨#[107, 105, 108, 108]⟩, .string ⟨#[114, 101, 97, 114, 109]⟩, .string ⟨#[108, 105, 109, 105, 116]⟩] 9))
  have k2 := κ (k1.out.alloc (.cells #[.string ⟨#[111, 114, 100, 101, 114]⟩, .string ⟨#[99, 97, 110, 99, 101, 108]⟩, .string ⟨#[102, 105, 108, 108]⟩, .string ⟨#[97, 99, 107]⟩, .string ⟨#[107, 105, 108, 108]⟩, .string ⟨#[114, 101, 97, 114, 109]⟩, .string ⟨#[108, 105, 109, 105, 116]⟩] 9))
  have n2 := κ (δ w1 9 #[.string ⟨#[111, 114, 100, 101, 114]⟩, .string ⟨#[99, 97, 110, 99, 101, 108]⟩, .string ⟨#[102, 105, 108, 108]⟩, .string ⟨#[97, 99, 107]⟩, .string ⟨#[107, 105, 108, 108]⟩, .string ⟨#[114, 101, 97, 114, 109]⟩, .string ⟨#[108, 105, 109, 105, 116]⟩] w1.heap.size rfl)
  obtain ⟨j0, j1, j2, j3, j4, j5, j6, j7, j8, j9, j10, j11⟩ := c12_of k2.out
  have nm0 := n2.out.cell 1
  go_wp2_with fail
  refine (rput_any [99, 97, 110, 99, 101, 108] i (by decide) hi (by unfold inI at ii; omega) _).mono ?_
  rintro e w3 ⟨rfl, k3, rfl⟩
  go_wp2_with fail
  go_ret
  exact ⟨ret_eq (congrArg (fun l => sv l) (by rw [join_cons]; simp [joinTail, wCancel])), Below.drewN' b2.out k3⟩
theorem rline3 (a s : Int) (x : Bool) (p q n t i y z v : Int) (w : World) (hw : WfM (⟨3, a, s, x, p, q, n, t, i, y, z, v⟩ : M)) (hr : rightM (⟨3, a, s, x, p, q, n, t, i, y, z, v⟩ : M) = true) : Calls Tryz.prog 10 #[mvl (⟨3, a, s, x, p, q, n, t, i, y, z, v⟩ : M)] w (MadeS (lineL (⟨3, a, s, x, p, q, n, t, i, y, z, v⟩ : M)) w) := by
  obtain ⟨_, _, _, ⟨ha, _⟩, ⟨hs, _⟩, ⟨hz, _⟩, ⟨hi, _⟩, hp, hq, hn, ht, hy, hv⟩ := rightM_of hr
  obtain ⟨_, ia, is, ip, iq, iN, it, ii, iy, iz, iv⟩ := hw
  have l1 := itoa_len ia
  have l2 := itoa_len is
  have l3 := itoa_len ip
  have l4 := itoa_len iq
  have l5 := itoa_len iN
  have l6 := itoa_len it
  have l7 := itoa_len ii
  have l8 := itoa_len iy
  have l9 := itoa_len iz
  have l10 := itoa_len iv
  simp only at ha hs hz hi hp hq hn ht hy hv ia is ip iq iN it ii iy iz iv l1 l2 l3 l4 l5 l6 l7 l8 l9 l10
  have hl : Hid (lineL (⟨3, a, s, x, p, q, n, t, i, y, z, v⟩ : M) = join [wAck, itoa i] [32]) := κ (by unfold lineL; rw [if_pos hr]; rfl)
  rw [hl.out]
  have b0 := κ (β w (.cells #[.int .i64 3, .int .i64 a, .int .i64 s, .bool x, .int .i64 p, .int .i64 q, .int .i64 n, .int .i64 t, .int .i64 i, .int .i64 y, .int .i64 z, .int .i64 v] 25))
  have k0 := κ (δ w 25 #[.int .i64 3, .int .i64 a, .int .i64 s, .bool x, .int .i64 p, .int .i64 q, .int .i64 n, .int .i64 t, .int .i64 i, .int .i64 y, .int .i64 z, .int .i64 v] w.heap.size rfl)
  have hR := κ (rr_yes hr)
  clear hr hl
  rw [mvl_mk]
  go_enter Tryz.func10, Tryz.ntmps10
  obtain ⟨j0, j1, j2, j3, j4, j5, j6, j7, j8, j9, j10, j11⟩ := c12_of k0.out
  go_wp2_with fail
  clear j0 j1 j2 j3 j4 j5 j6 j7 j8 j9 j10 j11
  generalize (w.alloc (.cells #[.int .i64 3, .int .i64 a, .int .i64 s, .bool x, .int .i64 p, .int .i64 q, .int .i64 n, .int .i64 t, .int .i64 i, .int .i64 y, .int .i64 z, .int .i64 v] 25)) = w0 at b0 k0 ⊢
  generalize w.heap.size = gM at k0 ⊢
  refine (hR.out _).mono ?_
  rintro e w1 ⟨rfl, hb1⟩
  have b1 := κ (CrdB.below_step b0.out hb1)
  have k1 := κ (k0.out.below' hb1)
  clear hb1 b0 k0 hR
  have b2 := κ (b1.out.alloc b1.out.size (.cells #[.string ⟨#[111, 114, 100, 101, 114]⟩, .string ⟨#[99, 97, 110, 99, 101, 108]⟩, .string ⟨#[102, 105, 108, 108]⟩, .string ⟨#[97, 99, 107]⟩, .string ⟨#[107, 105, 108, 108]⟩, .string ⟨#[114, 101, 97, 114, 109]⟩, .string ⟨#[108, 105, 109, 105, 116]⟩] 9))
  have k2 := κ (k1.out.alloc (.cells #[.string ⟨#[111, 114, 100, 101, 114]⟩, .string ⟨#[99, 97, 110, 99, 101, 108]⟩, .string ⟨#[102, 105, 108, 108]⟩, .string ⟨#[97, 99, 107]⟩, .string ⟨#[107, 105, 108, 108]⟩, .string ⟨#[114, 101, 97, 114, 109]⟩, .string ⟨#[108, 105, 109, 105, 116]⟩] 9))
  have n2 := κ (δ w1 9 #[.string ⟨#[111, 114, 100, 101, 114]⟩, .string ⟨#[99, 97, 110, 99, 101, 108]⟩, .string ⟨#[102, 105, 108, 108]⟩, .string ⟨#[97, 99, 107]⟩, .string ⟨#[107, 105, 108, 108]⟩, .string ⟨#[114, 101, 97, 114, 109]⟩, .string ⟨#[108, 105, 109, 105, 116]⟩] w1.heap.size rfl)
  obtain ⟨j0, j1, j2, j3, j4, j5, j6, j7, j8, j9, j10, j11⟩ := c12_of k2.out
  have nm0 := n2.out.cell 3
  go_wp2_with fail
  refine (rput_any [97, 99, 107] i (by decide) hi (by unfold inI at ii; omega) _).mono ?_
  rintro e w3 ⟨rfl, k3, rfl⟩
  go_wp2_with fail
  go_ret
  exact ⟨ret_eq (congrArg (fun l => sv l) (by rw [join_cons]; simp [joinTail, wAck])), Below.drewN' b2.out k3⟩
theorem rline4 (a s : Int) (x : Bool) (p q n t i y z v : Int) (w : World) (hw : WfM (⟨4, a, s, x, p, q, n, t, i, y, z, v⟩ : M)) (hr : rightM (⟨4, a, s, x, p, q, n, t, i, y, z, v⟩ : M) = true) : Calls Tryz.prog 10 #[mvl (⟨4, a, s, x, p, q, n, t, i, y, z, v⟩ : M)] w (MadeS (lineL (⟨4, a, s, x, p, q, n, t, i, y, z, v⟩ : M)) w) := by
  obtain ⟨_, _, _, ⟨ha, _⟩, ⟨hs, _⟩, ⟨hz, _⟩, ⟨hi, _⟩, hp, hq, hn, ht, hy, hv⟩ := rightM_of hr
  obtain ⟨_, ia, is, ip, iq, iN, it, ii, iy, iz, iv⟩ := hw
  have l1 := itoa_len ia
  have l2 := itoa_len is
  have l3 := itoa_len ip
  have l4 := itoa_len iq
  have l5 := itoa_len iN
  have l6 := itoa_len it
  have l7 := itoa_len ii
  have l8 := itoa_len iy
  have l9 := itoa_len iz
  have l10 := itoa_len iv
  simp only at ha hs hz hi hp hq hn ht hy hv ia is ip iq iN it ii iy iz iv l1 l2 l3 l4 l5 l6 l7 l8 l9 l10
  have hl : Hid (lineL (⟨4, a, s, x, p, q, n, t, i, y, z, v⟩ : M) = join [wKill] [32]) := κ (by unfold lineL; rw [if_pos hr]; rfl)
  rw [hl.out]
  have b0 := κ (β w (.cells #[.int .i64 4, .int .i64 a, .int .i64 s, .bool x, .int .i64 p, .int .i64 q, .int .i64 n, .int .i64 t, .int .i64 i, .int .i64 y, .int .i64 z, .int .i64 v] 25))
  have k0 := κ (δ w 25 #[.int .i64 4, .int .i64 a, .int .i64 s, .bool x, .int .i64 p, .int .i64 q, .int .i64 n, .int .i64 t, .int .i64 i, .int .i64 y, .int .i64 z, .int .i64 v] w.heap.size rfl)
  have hR := κ (rr_yes hr)
  clear hr hl
  rw [mvl_mk]
  go_enter Tryz.func10, Tryz.ntmps10
  obtain ⟨j0, j1, j2, j3, j4, j5, j6, j7, j8, j9, j10, j11⟩ := c12_of k0.out
  go_wp2_with fail
  clear j0 j1 j2 j3 j4 j5 j6 j7 j8 j9 j10 j11
  generalize (w.alloc (.cells #[.int .i64 4, .int .i64 a, .int .i64 s, .bool x, .int .i64 p, .int .i64 q, .int .i64 n, .int .i64 t, .int .i64 i, .int .i64 y, .int .i64 z, .int .i64 v] 25)) = w0 at b0 k0 ⊢
  generalize w.heap.size = gM at k0 ⊢
  refine (hR.out _).mono ?_
  rintro e w1 ⟨rfl, hb1⟩
  have b1 := κ (CrdB.below_step b0.out hb1)
  have k1 := κ (k0.out.below' hb1)
  clear hb1 b0 k0 hR
  have b2 := κ (b1.out.alloc b1.out.size (.cells #[.string ⟨#[111, 114, 100, 101, 114]⟩, .string ⟨#[99, 97, 110, 99, 101, 108]⟩, .string ⟨#[102, 105, 108, 108]⟩, .string ⟨#[97, 99, 107]⟩, .string ⟨#[107, 105, 108, 108]⟩, .string ⟨#[114, 101, 97, 114, 109]⟩, .string ⟨#[108, 105, 109, 105, 116]⟩] 9))
  have k2 := κ (k1.out.alloc (.cells #[.string ⟨#[111, 114, 100, 101, 114]⟩, .string ⟨#[99, 97, 110, 99, 101, 108]⟩, .string ⟨#[102, 105, 108, 108]⟩, .string ⟨#[97, 99, 107]⟩, .string ⟨#[107, 105, 108, 108]⟩, .string ⟨#[114, 101, 97, 114, 109]⟩, .string ⟨#[108, 105, 109, 105, 116]⟩] 9))
  have n2 := κ (δ w1 9 #[.string ⟨#[111, 114, 100, 101, 114]⟩, .string ⟨#[99, 97, 110, 99, 101, 108]⟩, .string ⟨#[102, 105, 108, 108]⟩, .string ⟨#[97, 99, 107]⟩, .string ⟨#[107, 105, 108, 108]⟩, .string ⟨#[114, 101, 97, 114, 109]⟩, .string ⟨#[108, 105, 109, 105, 116]⟩] w1.heap.size rfl)
  obtain ⟨j0, j1, j2, j3, j4, j5, j6, j7, j8, j9, j10, j11⟩ := c12_of k2.out
  have nm0 := n2.out.cell 4
  go_wp2_with fail
  go_ret
  exact ⟨rfl, b2.out⟩
theorem rline5 (a s : Int) (x : Bool) (p q n t i y z v : Int) (w : World) (hw : WfM (⟨5, a, s, x, p, q, n, t, i, y, z, v⟩ : M)) (hr : rightM (⟨5, a, s, x, p, q, n, t, i, y, z, v⟩ : M) = true) : Calls Tryz.prog 10 #[mvl (⟨5, a, s, x, p, q, n, t, i, y, z, v⟩ : M)] w (MadeS (lineL (⟨5, a, s, x, p, q, n, t, i, y, z, v⟩ : M)) w) := by
  obtain ⟨_, _, _, ⟨ha, _⟩, ⟨hs, _⟩, ⟨hz, _⟩, ⟨hi, _⟩, hp, hq, hn, ht, hy, hv⟩ := rightM_of hr
  obtain ⟨_, ia, is, ip, iq, iN, it, ii, iy, iz, iv⟩ := hw
  have l1 := itoa_len ia
  have l2 := itoa_len is
  have l3 := itoa_len ip
  have l4 := itoa_len iq
  have l5 := itoa_len iN
  have l6 := itoa_len it
  have l7 := itoa_len ii
  have l8 := itoa_len iy
  have l9 := itoa_len iz
  have l10 := itoa_len iv
  simp only at ha hs hz hi hp hq hn ht hy hv ia is ip iq iN it ii iy iz iv l1 l2 l3 l4 l5 l6 l7 l8 l9 l10
  have hl : Hid (lineL (⟨5, a, s, x, p, q, n, t, i, y, z, v⟩ : M) = join [wRearm] [32]) := κ (by unfold lineL; rw [if_pos hr]; rfl)
  rw [hl.out]
  have b0 := κ (β w (.cells #[.int .i64 5, .int .i64 a, .int .i64 s, .bool x, .int .i64 p, .int .i64 q, .int .i64 n, .int .i64 t, .int .i64 i, .int .i64 y, .int .i64 z, .int .i64 v] 25))
  have k0 := κ (δ w 25 #[.int .i64 5, .int .i64 a, .int .i64 s, .bool x, .int .i64 p, .int .i64 q, .int .i64 n, .int .i64 t, .int .i64 i, .int .i64 y, .int .i64 z, .int .i64 v] w.heap.size rfl)
  have hR := κ (rr_yes hr)
  clear hr hl
  rw [mvl_mk]
  go_enter Tryz.func10, Tryz.ntmps10
  obtain ⟨j0, j1, j2, j3, j4, j5, j6, j7, j8, j9, j10, j11⟩ := c12_of k0.out
  go_wp2_with fail
  clear j0 j1 j2 j3 j4 j5 j6 j7 j8 j9 j10 j11
  generalize (w.alloc (.cells #[.int .i64 5, .int .i64 a, .int .i64 s, .bool x, .int .i64 p, .int .i64 q, .int .i64 n, .int .i64 t, .int .i64 i, .int .i64 y, .int .i64 z, .int .i64 v] 25)) = w0 at b0 k0 ⊢
  generalize w.heap.size = gM at k0 ⊢
  refine (hR.out _).mono ?_
  rintro e w1 ⟨rfl, hb1⟩
  have b1 := κ (CrdB.below_step b0.out hb1)
  have k1 := κ (k0.out.below' hb1)
  clear hb1 b0 k0 hR
  have b2 := κ (b1.out.alloc b1.out.size (.cells #[.string ⟨#[111, 114, 100, 101, 114]⟩, .string ⟨#[99, 97, 110, 99, 101, 108]⟩, .string ⟨#[102, 105, 108, 108]⟩, .string ⟨#[97, 99, 107]⟩, .string ⟨#[107, 105, 108, 108]⟩, .string ⟨#[114, 101, 97, 114, 109]⟩, .string ⟨#[108, 105, 109, 105, 116]⟩] 9))
  have k2 := κ (k1.out.alloc (.cells #[.string ⟨#[111, 114, 100, 101, 114]⟩, .string ⟨#[99, 97, 110, 99, 101, 108]⟩, .string ⟨#[102, 105, 108, 108]⟩, .string ⟨#[97, 99, 107]⟩, .string ⟨#[107, 105, 108, 108]⟩, .string ⟨#[114, 101, 97, 114, 109]⟩, .string ⟨#[108, 105, 109, 105, 116]⟩] 9))
  have n2 := κ (δ w1 9 #[.string ⟨#[111, 114, 100, 101, 114]⟩, .string ⟨#[99, 97, 110, 99, 101, 108]⟩, .string ⟨#[102, 105, 108, 108]⟩, .string ⟨#[97, 99, 107]⟩, .string ⟨#[107, 105, 108, 108]⟩, .string ⟨#[114, 101, 97, 114, 109]⟩, .string ⟨#[108, 105, 109, 105, 116]⟩] w1.heap.size rfl)
  obtain ⟨j0, j1, j2, j3, j4, j5, j6, j7, j8, j9, j10, j11⟩ := c12_of k2.out
  have nm0 := n2.out.cell 5
  go_wp2_with fail
  go_ret
  exact ⟨rfl, b2.out⟩
theorem rline0t (a s : Int) (p q n t i y z v : Int) (w : World) (hw : WfM (⟨0, a, s, true, p, q, n, t, i, y, z, v⟩ : M)) (hr : rightM (⟨0, a, s, true, p, q, n, t, i, y, z, v⟩ : M) = true) : Calls Tryz.prog 10 #[mvl (⟨0, a, s, true, p, q, n, t, i, y, z, v⟩ : M)] w (MadeS (lineL (⟨0, a, s, true, p, q, n, t, i, y, z, v⟩ : M)) w) := by
  obtain ⟨_, _, _, ⟨ha, _⟩, ⟨hs, _⟩, ⟨hz, _⟩, ⟨hi, _⟩, hp, hq, hn, ht, hy, hv⟩ := rightM_of hr
  obtain ⟨_, ia, is, ip, iq, iN, it, ii, iy, iz, iv⟩ := hw
  have l1 := itoa_len ia
  have l2 := itoa_len is
  have l3 := itoa_len ip
  have l4 := itoa_len iq
  have l5 := itoa_len iN
  have l6 := itoa_len it
  have l7 := itoa_len ii
  have l8 := itoa_len iy
  have l9 := itoa_len iz
  have l10 := itoa_len iv
  simp only at ha hs hz hi hp hq hn ht hy hv ia is ip iq iN it ii iy iz iv l1 l2 l3 l4 l5 l6 l7 l8 l9 l10
  have hl : Hid (lineL (⟨0, a, s, true, p, q, n, t, i, y, z, v⟩ : M) = join [wOrder, itoa a, itoa s, sideL true, itoa p, itoa q, itoa n, itoa t] [32]) := κ (by unfold lineL; rw [if_pos hr]; rfl)
  rw [hl.out]
  have b0 := κ (β w (.cells #[.int .i64 0, .int .i64 a, .int .i64 s, .bool true, .int .i64 p, .int .i64 q, .int .i64 n, .int .i64 t, .int .i64 i, .int .i64 y, .int .i64 z, .int .i64 v] 25))
  have k0 := κ (δ w 25 #[.int .i64 0, .int .i64 a, .int .i64 s, .bool true, .int .i64 p, .int .i64 q, .int .i64 n, .int .i64 t, .int .i64 i, .int .i64 y, .int .i64 z, .int .i64 v] w.heap.size rfl)
  have hR := κ (rr_yes hr)
  clear hr hl
  rw [mvl_mk]
  go_enter Tryz.func10, Tryz.ntmps10
  obtain ⟨j0, j1, j2, j3, j4, j5, j6, j7, j8, j9, j10, j11⟩ := c12_of k0.out
  go_wp2_with fail
  clear j0 j1 j2 j3 j4 j5 j6 j7 j8 j9 j10 j11
  generalize (w.alloc (.cells #[.int .i64 0, .int .i64 a, .int .i64 s, .bool true, .int .i64 p, .int .i64 q, .int .i64 n, .int .i64 t, .int .i64 i, .int .i64 y, .int .i64 z, .int .i64 v] 25)) = w0 at b0 k0 ⊢
  generalize w.heap.size = gM at k0 ⊢
  refine (hR.out _).mono ?_
  rintro e w1 ⟨rfl, hb1⟩
  have b1 := κ (CrdB.below_step b0.out hb1)
  have k1 := κ (k0.out.below' hb1)
  clear hb1 b0 k0 hR
  have b2 := κ (b1.out.alloc b1.out.size (.cells #[.string ⟨#[111, 114, 100, 101, 114]⟩, .string ⟨#[99, 97, 110, 99, 101, 108]⟩, .string ⟨#[102, 105, 108, 108]⟩, .string ⟨#[97, 99, 107]⟩, .string ⟨#[107, 105, 108, 108]⟩, .string ⟨#[114, 101, 97, 114, 109]⟩, .string ⟨#[108, 105, 109, 105, 116]⟩] 9))
  have k2 := κ (k1.out.alloc (.cells #[.string ⟨#[111, 114, 100, 101, 114]⟩, .string ⟨#[99, 97, 110, 99, 101, 108]⟩, .string ⟨#[102, 105, 108, 108]⟩, .string ⟨#[97, 99, 107]⟩, .string ⟨#[107, 105, 108, 108]⟩, .string ⟨#[114, 101, 97, 114, 109]⟩, .string ⟨#[108, 105, 109, 105, 116]⟩] 9))
  have n2 := κ (δ w1 9 #[.string ⟨#[111, 114, 100, 101, 114]⟩, .string ⟨#[99, 97, 110, 99, 101, 108]⟩, .string ⟨#[102, 105, 108, 108]⟩, .string ⟨#[97, 99, 107]⟩, .string ⟨#[107, 105, 108, 108]⟩, .string ⟨#[114, 101, 97, 114, 109]⟩, .string ⟨#[108, 105, 109, 105, 116]⟩] w1.heap.size rfl)
  obtain ⟨j0, j1, j2, j3, j4, j5, j6, j7, j8, j9, j10, j11⟩ := c12_of k2.out
  have nm0 := n2.out.cell 0
  go_upto_region 8 with fail
  clear j0 j1 j2 j3 j4 j5 j6 j7 j8 j9 j10 j11 nm0
  have b3 := κ (b2.out.alloc b2.out.size (.cells #[.int .i64 a, .int .i64 s, .bool true, .int .i64 p, .int .i64 q, .int .i64 n, .int .i64 t] 23))
  have o3 := κ (δ (w1.alloc (.cells #[.string ⟨#[111, 114, 100, 101, 114]⟩, .string ⟨#[99, 97, 110, 99, 101, 108]⟩, .string ⟨#[102, 105, 108, 108]⟩, .string ⟨#[97, 99, 107]⟩, .string ⟨#[107, 105, 108, 108]⟩, .string ⟨#[114, 101, 97, 114, 109]⟩, .string ⟨#[108, 105, 109, 105, 116]⟩] 9)) 23 #[.int .i64 a, .int .i64 s, .bool true, .int .i64 p, .int .i64 q, .int .i64 n, .int .i64 t] (w1.heap.size + 1))
  generalize (w1.alloc (.cells #[.string ⟨#[111, 114, 100, 101, 114]⟩, .string ⟨#[99, 97, 110, 99, 101, 108]⟩, .string ⟨#[102, 105, 108, 108]⟩, .string ⟨#[97, 99, 107]⟩, .string ⟨#[107, 105, 108, 108]⟩, .string ⟨#[114, 101, 97, 114, 109]⟩, .string ⟨#[108, 105, 109, 105, 116]⟩] 9)).alloc (.cells #[.int .i64 a, .int .i64 s, .bool true, .int .i64 p, .int .i64 q, .int .i64 n, .int .i64 t] 23) = w3 at b3 o3 ⊢
  generalize w1.heap.size + 1 = gO at o3 ⊢
  clear b1 b2 k1 k2 n2
  obtain ⟨o0, o1, o2, o4, o5, o6, o7⟩ : w3.cell? ⟨gO, 0, none⟩ = some (.int .i64 a) ∧ w3.cell? ⟨gO, 1, none⟩ = some (.int .i64 s) ∧ w3.cell? ⟨gO, 2, none⟩ = some (.bool true) ∧ w3.cell? ⟨gO, 3, none⟩ = some (.int .i64 p) ∧ w3.cell? ⟨gO, 4, none⟩ = some (.int .i64 q) ∧ w3.cell? ⟨gO, 5, none⟩ = some (.int .i64 n) ∧ w3.cell? ⟨gO, 6, none⟩ = some (.int .i64 t) := ⟨o3.out.cell 0, o3.out.cell 1, o3.out.cell 2, o3.out.cell 3, o3.out.cell 4, o3.out.cell 5, o3.out.cell 6⟩
  obtain ⟨X, hX⟩ : ∃ X, X = (111 :: 114 :: 100 :: 101 :: 114 :: 32 :: (itoa a ++ 32 :: itoa s)) ++ [32, 115, 101, 108, 108] := ⟨_, rfl⟩
  have hadd : ∀ W, (Op.stringOp .add ⟨(111 :: 114 :: 100 :: 101 :: 114 :: 32 :: (itoa a ++ 32 :: itoa s)).toArray⟩ ⟨([32, 115, 101, 108, 108] : List UInt8).toArray⟩).run Tryz.prog W = .ok (sv X) W := fun W => by rw [hX]; exact run_string_add_lists W _ _ (by simp; omega) (by simp)
  have lX : X.length ≤ 100 := by rw [hX]; simp; omega
  have HX := κ hX
  clear hX
  go_quiet ((go_at_call 23; exact Calls.quiet_of (rput_any _ _ (by (try simp only [List.length_append, List.length_cons, List.length_nil]); omega) (by assumption) (by unfold inI at *; omega) _)))
  have b4 := κ (Below.drewN' b3.out nq)
  clear b3 o3
  go_upto_region 12 with fail
  have u4 : (w3.drewN nq).cell? ⟨gO, 3, none⟩ = some (.int .i64 p) := o4
  have u5 : (w3.drewN nq).cell? ⟨gO, 4, none⟩ = some (.int .i64 q) := o5
  have u6 : (w3.drewN nq).cell? ⟨gO, 5, none⟩ = some (.int .i64 n) := o6
  have u7 : (w3.drewN nq).cell? ⟨gO, 6, none⟩ = some (.int .i64 t) := o7
  clear o0 o1 o2 o4 o5 o6 o7
  generalize w3.drewN nq = w4 at u4 u5 u6 u7 b4 ⊢
  rename Nat => nq0
  go_quiet ((go_at_call 23; exact Calls.quiet_of (rput_any _ _ (by (try simp only [List.length_append, List.length_cons, List.length_nil]); omega) (by assumption) (by unfold inI at *; omega) _)))
  go_wp2_with fail
  go_ret
  exact ⟨ret_eq (congrArg (fun l => sv l) (by rw [HX.out, join_cons]; simp [joinTail, wOrder, sideL, wSell])), Below.drewN' b4.out _⟩
theorem rline0f (a s : Int) (p q n t i y z v : Int) (w : World) (hw : WfM (⟨0, a, s, false, p, q, n, t, i, y, z, v⟩ : M)) (hr : rightM (⟨0, a, s, false, p, q, n, t, i, y, z, v⟩ : M) = true) : Calls Tryz.prog 10 #[mvl (⟨0, a, s, false, p, q, n, t, i, y, z, v⟩ : M)] w (MadeS (lineL (⟨0, a, s, false, p, q, n, t, i, y, z, v⟩ : M)) w) := by
  obtain ⟨_, _, _, ⟨ha, _⟩, ⟨hs, _⟩, ⟨hz, _⟩, ⟨hi, _⟩, hp, hq, hn, ht, hy, hv⟩ := rightM_of hr
  obtain ⟨_, ia, is, ip, iq, iN, it, ii, iy, iz, iv⟩ := hw
  have l1 := itoa_len ia
  have l2 := itoa_len is
  have l3 := itoa_len ip
  have l4 := itoa_len iq
  have l5 := itoa_len iN
  have l6 := itoa_len it
  have l7 := itoa_len ii
  have l8 := itoa_len iy
  have l9 := itoa_len iz
  have l10 := itoa_len iv
  simp only at ha hs hz hi hp hq hn ht hy hv ia is ip iq iN it ii iy iz iv l1 l2 l3 l4 l5 l6 l7 l8 l9 l10
  have hl : Hid (lineL (⟨0, a, s, false, p, q, n, t, i, y, z, v⟩ : M) = join [wOrder, itoa a, itoa s, sideL false, itoa p, itoa q, itoa n, itoa t] [32]) := κ (by unfold lineL; rw [if_pos hr]; rfl)
  rw [hl.out]
  have b0 := κ (β w (.cells #[.int .i64 0, .int .i64 a, .int .i64 s, .bool false, .int .i64 p, .int .i64 q, .int .i64 n, .int .i64 t, .int .i64 i, .int .i64 y, .int .i64 z, .int .i64 v] 25))
  have k0 := κ (δ w 25 #[.int .i64 0, .int .i64 a, .int .i64 s, .bool false, .int .i64 p, .int .i64 q, .int .i64 n, .int .i64 t, .int .i64 i, .int .i64 y, .int .i64 z, .int .i64 v] w.heap.size rfl)
  have hR := κ (rr_yes hr)
  clear hr hl
  rw [mvl_mk]
  go_enter Tryz.func10, Tryz.ntmps10
  obtain ⟨j0, j1, j2, j3, j4, j5, j6, j7, j8, j9, j10, j11⟩ := c12_of k0.out
  go_wp2_with fail
  clear j0 j1 j2 j3 j4 j5 j6 j7 j8 j9 j10 j11
  generalize (w.alloc (.cells #[.int .i64 0, .int .i64 a, .int .i64 s, .bool false, .int .i64 p, .int .i64 q, .int .i64 n, .int .i64 t, .int .i64 i, .int .i64 y, .int .i64 z, .int .i64 v] 25)) = w0 at b0 k0 ⊢
  generalize w.heap.size = gM at k0 ⊢
  refine (hR.out _).mono ?_
  rintro e w1 ⟨rfl, hb1⟩
  have b1 := κ (CrdB.below_step b0.out hb1)
  have k1 := κ (k0.out.below' hb1)
  clear hb1 b0 k0 hR
  have b2 := κ (b1.out.alloc b1.out.size (.cells #[.string ⟨#[111, 114, 100, 101, 114]⟩, .string ⟨#[99, 97, 110, 99, 101, 108]⟩, .string ⟨#[102, 105, 108, 108]⟩, .string ⟨#[97, 99, 107]⟩, .string ⟨#[107, 105, 108, 108]⟩, .string ⟨#[114, 101, 97, 114, 109]⟩, .string ⟨#[108, 105, 109, 105, 116]⟩] 9))
  have k2 := κ (k1.out.alloc (.cells #[.string ⟨#[111, 114, 100, 101, 114]⟩, .string ⟨#[99, 97, 110, 99, 101, 108]⟩, .string ⟨#[102, 105, 108, 108]⟩, .string ⟨#[97, 99, 107]⟩, .string ⟨#[107, 105, 108, 108]⟩, .string ⟨#[114, 101, 97, 114, 109]⟩, .string ⟨#[108, 105, 109, 105, 116]⟩] 9))
  have n2 := κ (δ w1 9 #[.string ⟨#[111, 114, 100, 101, 114]⟩, .string ⟨#[99, 97, 110, 99, 101, 108]⟩, .string ⟨#[102, 105, 108, 108]⟩, .string ⟨#[97, 99, 107]⟩, .string ⟨#[107, 105, 108, 108]⟩, .string ⟨#[114, 101, 97, 114, 109]⟩, .string ⟨#[108, 105, 109, 105, 116]⟩] w1.heap.size rfl)
  obtain ⟨j0, j1, j2, j3, j4, j5, j6, j7, j8, j9, j10, j11⟩ := c12_of k2.out
  have nm0 := n2.out.cell 0
  go_upto_region 8 with fail
  clear j0 j1 j2 j3 j4 j5 j6 j7 j8 j9 j10 j11 nm0
  have b3 := κ (b2.out.alloc b2.out.size (.cells #[.int .i64 a, .int .i64 s, .bool false, .int .i64 p, .int .i64 q, .int .i64 n, .int .i64 t] 23))
  have o3 := κ (δ (w1.alloc (.cells #[.string ⟨#[111, 114, 100, 101, 114]⟩, .string ⟨#[99, 97, 110, 99, 101, 108]⟩, .string ⟨#[102, 105, 108, 108]⟩, .string ⟨#[97, 99, 107]⟩, .string ⟨#[107, 105, 108, 108]⟩, .string ⟨#[114, 101, 97, 114, 109]⟩, .string ⟨#[108, 105, 109, 105, 116]⟩] 9)) 23 #[.int .i64 a, .int .i64 s, .bool false, .int .i64 p, .int .i64 q, .int .i64 n, .int .i64 t] (w1.heap.size + 1))
  generalize (w1.alloc (.cells #[.string ⟨#[111, 114, 100, 101, 114]⟩, .string ⟨#[99, 97, 110, 99, 101, 108]⟩, .string ⟨#[102, 105, 108, 108]⟩, .string ⟨#[97, 99, 107]⟩, .string ⟨#[107, 105, 108, 108]⟩, .string ⟨#[114, 101, 97, 114, 109]⟩, .string ⟨#[108, 105, 109, 105, 116]⟩] 9)).alloc (.cells #[.int .i64 a, .int .i64 s, .bool false, .int .i64 p, .int .i64 q, .int .i64 n, .int .i64 t] 23) = w3 at b3 o3 ⊢
  generalize w1.heap.size + 1 = gO at o3 ⊢
  clear b1 b2 k1 k2 n2
  obtain ⟨o0, o1, o2, o4, o5, o6, o7⟩ : w3.cell? ⟨gO, 0, none⟩ = some (.int .i64 a) ∧ w3.cell? ⟨gO, 1, none⟩ = some (.int .i64 s) ∧ w3.cell? ⟨gO, 2, none⟩ = some (.bool false) ∧ w3.cell? ⟨gO, 3, none⟩ = some (.int .i64 p) ∧ w3.cell? ⟨gO, 4, none⟩ = some (.int .i64 q) ∧ w3.cell? ⟨gO, 5, none⟩ = some (.int .i64 n) ∧ w3.cell? ⟨gO, 6, none⟩ = some (.int .i64 t) := ⟨o3.out.cell 0, o3.out.cell 1, o3.out.cell 2, o3.out.cell 3, o3.out.cell 4, o3.out.cell 5, o3.out.cell 6⟩
  obtain ⟨X, hX⟩ : ∃ X, X = (111 :: 114 :: 100 :: 101 :: 114 :: 32 :: (itoa a ++ 32 :: itoa s)) ++ [32, 98, 117, 121] := ⟨_, rfl⟩
  have hadd : ∀ W, (Op.stringOp .add ⟨(111 :: 114 :: 100 :: 101 :: 114 :: 32 :: (itoa a ++ 32 :: itoa s)).toArray⟩ ⟨([32, 98, 117, 121] : List UInt8).toArray⟩).run Tryz.prog W = .ok (sv X) W := fun W => by rw [hX]; exact run_string_add_lists W _ _ (by simp; omega) (by simp)
  have lX : X.length ≤ 100 := by rw [hX]; simp; omega
  have HX := κ hX
  clear hX
  go_quiet ((go_at_call 23; exact Calls.quiet_of (rput_any _ _ (by (try simp only [List.length_append, List.length_cons, List.length_nil]); omega) (by assumption) (by unfold inI at *; omega) _)))
  have b4 := κ (Below.drewN' b3.out nq)
  clear b3 o3
  go_upto_region 12 with fail
  have u4 : (w3.drewN nq).cell? ⟨gO, 3, none⟩ = some (.int .i64 p) := o4
  have u5 : (w3.drewN nq).cell? ⟨gO, 4, none⟩ = some (.int .i64 q) := o5
  have u6 : (w3.drewN nq).cell? ⟨gO, 5, none⟩ = some (.int .i64 n) := o6
  have u7 : (w3.drewN nq).cell? ⟨gO, 6, none⟩ = some (.int .i64 t) := o7
  clear o0 o1 o2 o4 o5 o6 o7
  generalize w3.drewN nq = w4 at u4 u5 u6 u7 b4 ⊢
  rename Nat => nq0
  go_quiet ((go_at_call 23; exact Calls.quiet_of (rput_any _ _ (by (try simp only [List.length_append, List.length_cons, List.length_nil]); omega) (by assumption) (by unfold inI at *; omega) _)))
  go_wp2_with fail
  go_ret
  exact ⟨ret_eq (congrArg (fun l => sv l) (by rw [HX.out, join_cons]; simp [joinTail, wOrder, sideL, wBuy])), Below.drewN' b4.out _⟩
theorem rline_no (m : M) (w : World) (hr : ¬ rightM m = true) : Calls Tryz.prog 10 #[mvl m] w (MadeS (lineL m) w) := by
  have hR := κ (rr_no hr)
  rw [line_wrong hr]
  clear hr
  obtain ⟨k, a, s, x, p, q, n, t, i, y, z, v⟩ := m
  have b0 := κ (β w (.cells #[.int .i64 k, .int .i64 a, .int .i64 s, .bool x, .int .i64 p, .int .i64 q, .int .i64 n, .int .i64 t, .int .i64 i, .int .i64 y, .int .i64 z, .int .i64 v] 25))
  have k0 := κ (δ w 25 #[.int .i64 k, .int .i64 a, .int .i64 s, .bool x, .int .i64 p, .int .i64 q, .int .i64 n, .int .i64 t, .int .i64 i, .int .i64 y, .int .i64 z, .int .i64 v] w.heap.size rfl)
  rw [mvl_mk] at hR ⊢
  go_enter Tryz.func10, Tryz.ntmps10
  obtain ⟨j0, j1, j2, j3, j4, j5, j6, j7, j8, j9, j10, j11⟩ := c12_of k0.out
  go_wp2_with fail
  clear j0 j1 j2 j3 j4 j5 j6 j7 j8 j9 j10 j11
  generalize (w.alloc (.cells #[.int .i64 k, .int .i64 a, .int .i64 s, .bool x, .int .i64 p, .int .i64 q, .int .i64 n, .int .i64 t, .int .i64 i, .int .i64 y, .int .i64 z, .int .i64 v] 25)) = w0 at b0 k0 ⊢
  refine (hR.out _).mono ?_
  rintro e w1 ⟨rfl, hb1⟩
  have b1 := κ (CrdB.below_step b0.out hb1)
  clear hb1 b0 k0 hR
  go_wp2_with fail
  go_ret
  exact ⟨rfl, b1.out⟩
theorem rline_any (m : M) (w : World) (hw : WfM m) : Calls Tryz.prog 10 #[mvl m] w (MadeS (lineL m) w) := by
  by_cases hr : rightM m = true
  · obtain ⟨h0, h6, _, _⟩ := rightM_of hr
    have hk : m.k = 0 ∨ m.k = 1 ∨ m.k = 2 ∨ m.k = 3 ∨ m.k = 4 ∨ m.k = 5 ∨ m.k = 6 := by omega
    obtain ⟨k, a, s, x, p, q, n, t, i, y, z, v⟩ := m
    rcases hk with hk | hk | hk | hk | hk | hk | hk
    all_goals
      have hk : k = _ := hk
      subst hk
    · cases x
      · exact rline0f a s p q n t i y z v w hw hr
      · exact rline0t a s p q n t i y z v w hw hr
    · exact rline1 a s x p q n t i y z v w hw hr
    · exact rline2 a s x p q n t i y z v w hw hr
    · exact rline3 a s x p q n t i y z v w hw hr
    · exact rline4 a s x p q n t i y z v w hw hr
    · exact rline5 a s x p q n t i y z v w hw hr
    · exact rline6 a s x p q n t i y z v w hw hr
  · exact rline_no m w hr
end Rsl
namespace Wen
open Go.ChangeShapes Go.WideShapes Go.ChangeAt Go.RowKit Mem Tre Ref3 Law3 Fix3 CrdB Rr4 Wpl Wmr Wrt St7 Rul6
def Oth (w w' : World) : Prop := ∀ g te cs, te ≠ 5 → Blk w g te cs → Blk w' g te cs
theorem Oth.refl (w : World) : Oth w w := fun _ _ _ _ h => h
theorem Oth.trans {a b c : World} (h : Oth a b) (k : Oth b c) : Oth a c := fun g te cs hne hb => k g te cs hne (h g te cs hne hb)
theorem Oth.alloc (w : World) (o : Obj) : Oth w (w.alloc o) := fun _ _ _ _ h => h.alloc o
theorem Oth.grown {w w' : World} {base size n : Nat} {v : Value} {xs : List Value} (ho : w.ownsRow base 5 size v n xs) (hg : w.grownBy w' v.ownBlock) : Oth w w' :=
  fun g te cs hne hb => Blk_grown hb hg (Ne.symm (own_blk_ne ho hb (Ne.symm hne)))
theorem Oth.below {w w' : World} (h : Below w.heap.size w w') : Oth w w' := fun g te cs _ hb => Blk.below' hb h
end Wen
namespace Wfi
open Go.ChangeShapes Go.WideShapes Go.ChangeAt Go.RowKit Mem Tre Ref3 Law3 Fix3 CrdB CrdC Rr4 Wpl Wmr Wrt St7 Rul6 Wen Wtk Wrd
def st12 (W : World) (g : Nat) (q0 q1 q2 q3 q4 q5 q6 q7 q8 q9 q10 q11 : Value) : World := ((((((((((((W.setCell ⟨g, 0, none⟩ (q0)).setCell ⟨g, 1, none⟩ (q1)).setCell ⟨g, 2, none⟩ (q2)).setCell ⟨g, 3, none⟩ (q3)).setCell ⟨g, 4, none⟩ (q4)).setCell ⟨g, 5, none⟩ (q5)).setCell ⟨g, 6, none⟩ (q6)).setCell ⟨g, 7, none⟩ (q7)).setCell ⟨g, 8, none⟩ (q8)).setCell ⟨g, 9, none⟩ (q9)).setCell ⟨g, 10, none⟩ (q10)).setCell ⟨g, 11, none⟩ (q11))
theorem st12_blk {W : World} {g : Nat} {te : TypeId} {e0 e1 e2 e3 e4 e5 e6 e7 e8 e9 e10 e11 q0 q1 q2 q3 q4 q5 q6 q7 q8 q9 q10 q11 : Value} (h : Blk W g te #[e0, e1, e2, e3, e4, e5, e6, e7, e8, e9, e10, e11]) : Blk (st12 W g q0 q1 q2 q3 q4 q5 q6 q7 q8 q9 q10 q11) g te #[q0, q1, q2, q3, q4, q5, q6, q7, q8, q9, q10, q11] := by
  have k0 : Blk (W.setCell ⟨g, 0, none⟩ (q0)) g te #[q0, e1, e2, e3, e4, e5, e6, e7, e8, e9, e10, e11] := blk_set h 0 q0
  have k1 : Blk ((W.setCell ⟨g, 0, none⟩ (q0)).setCell ⟨g, 1, none⟩ (q1)) g te #[q0, q1, e2, e3, e4, e5, e6, e7, e8, e9, e10, e11] := blk_set k0 1 q1
  have k2 : Blk (((W.setCell ⟨g, 0, none⟩ (q0)).setCell ⟨g, 1, none⟩ (q1)).setCell ⟨g, 2, none⟩ (q2)) g te #[q0, q1, q2, e3, e4, e5, e6, e7, e8, e9, e10, e11] := blk_set k1 2 q2
  have k3 : Blk ((((W.setCell ⟨g, 0, none⟩ (q0)).setCell ⟨g, 1, none⟩ (q1)).setCell ⟨g, 2, none⟩ (q2)).setCell ⟨g, 3, none⟩ (q3)) g te #[q0, q1, q2, q3, e4, e5, e6, e7, e8, e9, e10, e11] := blk_set k2 3 q3
  have k4 : Blk (((((W.setCell ⟨g, 0, none⟩ (q0)).setCell ⟨g, 1, none⟩ (q1)).setCell ⟨g, 2, none⟩ (q2)).setCell ⟨g, 3, none⟩ (q3)).setCell ⟨g, 4, none⟩ (q4)) g te #[q0, q1, q2, q3, q4, e5, e6, e7, e8, e9, e10, e11] := blk_set k3 4 q4
  have k5 : Blk ((((((W.setCell ⟨g, 0, none⟩ (q0)).setCell ⟨g, 1, none⟩ (q1)).setCell ⟨g, 2, none⟩ (q2)).setCell ⟨g, 3, none⟩ (q3)).setCell ⟨g, 4, none⟩ (q4)).setCell ⟨g, 5, none⟩ (q5)) g te #[q0, q1, q2, q3, q4, q5, e6, e7, e8, e9, e10, e11] := blk_set k4 5 q5
  have k6 : Blk (((((((W.setCell ⟨g, 0, none⟩ (q0)).setCell ⟨g, 1, none⟩ (q1)).setCell ⟨g, 2, none⟩ (q2)).setCell ⟨g, 3, none⟩ (q3)).setCell ⟨g, 4, none⟩ (q4)).setCell ⟨g, 5, none⟩ (q5)).setCell ⟨g, 6, none⟩ (q6)) g te #[q0, q1, q2, q3, q4, q5, q6, e7, e8, e9, e10, e11] := blk_set k5 6 q6
  have k7 : Blk ((((((((W.setCell ⟨g, 0, none⟩ (q0)).setCell ⟨g, 1, none⟩ (q1)).setCell ⟨g, 2, none⟩ (q2)).setCell ⟨g, 3, none⟩ (q3)).setCell ⟨g, 4, none⟩ (q4)).setCell ⟨g, 5, none⟩ (q5)).setCell ⟨g, 6, none⟩ (q6)).setCell ⟨g, 7, none⟩ (q7)) g te #[q0, q1, q2, q3, q4, q5, q6, q7, e8, e9, e10, e11] := blk_set k6 7 q7
  have k8 : Blk (((((((((W.setCell ⟨g, 0, none⟩ (q0)).setCell ⟨g, 1, none⟩ (q1)).setCell ⟨g, 2, none⟩ (q2)).setCell ⟨g, 3, none⟩ (q3)).setCell ⟨g, 4, none⟩ (q4)).setCell ⟨g, 5, none⟩ (q5)).setCell ⟨g, 6, none⟩ (q6)).setCell ⟨g, 7, none⟩ (q7)).setCell ⟨g, 8, none⟩ (q8)) g te #[q0, q1, q2, q3, q4, q5, q6, q7, q8, e9, e10, e11] := blk_set k7 8 q8
  have k9 : Blk ((((((((((W.setCell ⟨g, 0, none⟩ (q0)).setCell ⟨g, 1, none⟩ (q1)).setCell ⟨g, 2, none⟩ (q2)).setCell ⟨g, 3, none⟩ (q3)).setCell ⟨g, 4, none⟩ (q4)).setCell ⟨g, 5, none⟩ (q5)).setCell ⟨g, 6, none⟩ (q6)).setCell ⟨g, 7, none⟩ (q7)).setCell ⟨g, 8, none⟩ (q8)).setCell ⟨g, 9, none⟩ (q9)) g te #[q0, q1, q2, q3, q4, q5, q6, q7, q8, q9, e10, e11] := blk_set k8 9 q9
  have k10 : Blk (((((((((((W.setCell ⟨g, 0, none⟩ (q0)).setCell ⟨g, 1, none⟩ (q1)).setCell ⟨g, 2, none⟩ (q2)).setCell ⟨g, 3, none⟩ (q3)).setCell ⟨g, 4, none⟩ (q4)).setCell ⟨g, 5, none⟩ (q5)).setCell ⟨g, 6, none⟩ (q6)).setCell ⟨g, 7, none⟩ (q7)).setCell ⟨g, 8, none⟩ (q8)).setCell ⟨g, 9, none⟩ (q9)).setCell ⟨g, 10, none⟩ (q10)) g te #[q0, q1, q2, q3, q4, q5, q6, q7, q8, q9, q10, e11] := blk_set k9 10 q10
  have k11 : Blk ((((((((((((W.setCell ⟨g, 0, none⟩ (q0)).setCell ⟨g, 1, none⟩ (q1)).setCell ⟨g, 2, none⟩ (q2)).setCell ⟨g, 3, none⟩ (q3)).setCell ⟨g, 4, none⟩ (q4)).setCell ⟨g, 5, none⟩ (q5)).setCell ⟨g, 6, none⟩ (q6)).setCell ⟨g, 7, none⟩ (q7)).setCell ⟨g, 8, none⟩ (q8)).setCell ⟨g, 9, none⟩ (q9)).setCell ⟨g, 10, none⟩ (q10)).setCell ⟨g, 11, none⟩ (q11)) g te #[q0, q1, q2, q3, q4, q5, q6, q7, q8, q9, q10, q11] := blk_set k10 11 q11
  exact k11
theorem st12_below {B : Nat} {w0 W : World} {g : Nat} {q0 q1 q2 q3 q4 q5 q6 q7 q8 q9 q10 q11 : Value} (h : Below B w0 W) (hg : B ≤ g) : Below B w0 (st12 W g q0 q1 q2 q3 q4 q5 q6 q7 q8 q9 q10 q11) :=
  Below.setCell (Below.setCell (Below.setCell (Below.setCell (Below.setCell (Below.setCell (Below.setCell (Below.setCell (Below.setCell (Below.setCell (Below.setCell (Below.setCell (h) (p := ⟨g, 0, none⟩) hg q0) (p := ⟨g, 1, none⟩) hg q1) (p := ⟨g, 2, none⟩) hg q2) (p := ⟨g, 3, none⟩) hg q3) (p := ⟨g, 4, none⟩) hg q4) (p := ⟨g, 5, none⟩) hg q5) (p := ⟨g, 6, none⟩) hg q6) (p := ⟨g, 7, none⟩) hg q7) (p := ⟨g, 8, none⟩) hg q8) (p := ⟨g, 9, none⟩) hg q9) (p := ⟨g, 10, none⟩) hg q10) (p := ⟨g, 11, none⟩) hg q11
theorem z12_of {W : World} {g : Nat} {te : TypeId} {v0 v1 v2 v3 v4 v5 v6 v7 v8 v9 v10 v11 : Value} (h : Blk W g te #[v0, v1, v2, v3, v4, v5, v6, v7, v8, v9, v10, v11]) : W.cell? ⟨g, 0, none⟩ = some v0 ∧ W.cell? ⟨g, 1, none⟩ = some v1 ∧ W.cell? ⟨g, 2, none⟩ = some v2 ∧ W.cell? ⟨g, 3, none⟩ = some v3 ∧ W.cell? ⟨g, 4, none⟩ = some v4 ∧ W.cell? ⟨g, 5, none⟩ = some v5 ∧ W.cell? ⟨g, 6, none⟩ = some v6 ∧ W.cell? ⟨g, 7, none⟩ = some v7 ∧ W.cell? ⟨g, 8, none⟩ = some v8 ∧ W.cell? ⟨g, 9, none⟩ = some v9 ∧ W.cell? ⟨g, 10, none⟩ = some v10 ∧ W.cell? ⟨g, 11, none⟩ = some v11 ∧ W.frozen? ⟨g, 0, none⟩ = false ∧ W.frozen? ⟨g, 1, none⟩ = false ∧ W.frozen? ⟨g, 2, none⟩ = false ∧ W.frozen? ⟨g, 3, none⟩ = false ∧ W.frozen? ⟨g, 4, none⟩ = false ∧ W.frozen? ⟨g, 5, none⟩ = false ∧ W.frozen? ⟨g, 6, none⟩ = false ∧ W.frozen? ⟨g, 7, none⟩ = false ∧ W.frozen? ⟨g, 8, none⟩ = false ∧ W.frozen? ⟨g, 9, none⟩ = false ∧ W.frozen? ⟨g, 10, none⟩ = false ∧ W.frozen? ⟨g, 11, none⟩ = false :=
  ⟨h.cell 0, h.cell 1, h.cell 2, h.cell 3, h.cell 4, h.cell 5, h.cell 6, h.cell 7, h.cell 8, h.cell 9, h.cell 10, h.cell 11, h.thaw 0, h.thaw 1, h.thaw 2, h.thaw 3, h.thaw 4, h.thaw 5, h.thaw 6, h.thaw 7, h.thaw 8, h.thaw 9, h.thaw 10, h.thaw 11⟩
end Wfi
namespace Lap
open Go Lat
section
variable {P : Program} {ops : Array Oper} {Q : Exit → Act → World → Prop} {md : Region.Mode} {T : World → Prop} {st : List Nat}
def Pure (P : Program) (ops : Array Oper) (o : Oper) (v : Value) (a : Act) : Prop :=
  Region.wanted o (yielded ops a.tmps) = true ∧ ∃ f args, (∀ w, (execOp a.eval o).run P w = .ok (.enter f args) w) ∧ ∀ w, Calls P f args w (fun e w' => e = .returned v ∧ w = w')
theorem Pure.as {o : Oper} {v : Value} {a b : Act} (h : Pure P ops o v a) (e1 : execOp b.eval o = execOp a.eval o) (e2 : Region.wanted o (yielded ops b.tmps) = Region.wanted o (yielded ops a.tmps)) : Pure P ops o v b := by
  unfold Pure
  rw [e1, e2]
  exact h
theorem Pure.now {i : Nat} {o : Oper} {v : Value} {a : Act} (hi : ops[i]? = some o) (h : Pure P ops o v a) {K : Act → World → Prop} {w : World} (k : K (a.put o.dst v) w) : wpOp P ops Q i K a w := by
  obtain ⟨hw, f, args, hr, hc⟩ := h
  unfold wpOp
  simp only [hi, hw, if_true]
  refine .inl ?_
  unfold Oper.wp
  rw [hr w]
  refine (hc w).mono ?_
  rintro e w' ⟨rfl, rfl⟩
  exact k
theorem Pure.past {j : Nat} {oi oj : Oper} {v : Value} (hj : ops[j]? = some oj) (hap : oi.apart ops oj = true) (hsi : ∀ cs b, oi.op ≠ .select cs b) (hsj : ∀ cs b, oj.op ≠ .select cs b)
    (hQ : ∀ c a w, Q (.panic c) (a.put oi.dst v) w → Q (.panic c) a w) {K : Act → World → Prop} {a : Act} {w : World} (hy : Pure P ops oi v a) (h : wpOp P ops Q j K (a.put oi.dst v) w) :
    wpOp P ops Q j (fun b w' => Pure P ops oi v b ∧ K (b.put oi.dst v) w') a w := by
  obtain ⟨x1, x2, x3⟩ := Oper.apart_spec hap
  have stay : ∀ (c : Act), Pure P ops oi v c → ∀ u, Pure P ops oi v (c.put oj.dst u) := fun c hc u => hc.as (execOp_put oi hsi c oj.dst u x3) (wanted_put oi c oj.dst u x3)
  unfold wpOp at h ⊢
  simp only [hj] at h ⊢
  rw [wanted_put oj a oi.dst v x1] at h
  by_cases hw : Region.wanted oj (yielded ops a.tmps) = true
  · rw [if_pos hw] at h ⊢
    refine h.imp (fun h => ?_) (fun ⟨q, r⟩ => ⟨by unfold Oper.asks at *; rwa [execOp_put oj hsj a oi.dst v x1] at q, r⟩)
    unfold Oper.wp at h ⊢
    rw [execOp_put oj hsj a oi.dst v x1] at h
    cases hr : (execOp a.eval oj).run P w with
    | ok m w1 =>
      rw [hr] at h
      cases m with
      | value u => exact ⟨stay a hy u, by rw [← Act.put_comm a v u x2]; exact h⟩
      | skip => exact ⟨stay a hy undef, by rw [← Act.put_comm a v undef x2]; exact h⟩
      | defer d => exact ⟨stay { a with defers := d :: a.defers } (hy.as rfl rfl) undef, by rw [← Act.put_comm _ v undef x2, ← Act.put_defers]; exact h⟩
      | enter f args =>
        refine Calls.mono h fun e w2 k => ?_
        match e, k with
        | .returned u, k => exact ⟨stay a hy u, by rw [← Act.put_comm a v u x2]; exact k⟩
        | .panicked c, k => exact hQ _ _ _ k
        | .outgrown, k => exact k
      | row r args => exact Rows.mono h fun u w2 k => ⟨stay a hy u, by rw [← Act.put_comm a v u x2]; exact k⟩
      | _ => simp only [Oper.upon] at h ⊢
    | halt y w1 =>
      rw [hr] at h
      cases y with
      | panic u => exact hQ _ _ _ h
      | _ => simp only [Oper.upon] at h ⊢
  · rw [if_neg hw] at h ⊢
    exact ⟨stay a hy undef, by rw [← Act.put_comm a v undef x2]; exact h⟩
theorem wpL_pure {i : Nat} {oi : Oper} {v : Value} (hi : ops[i]? = some oi) (hs : Region.noSelect ops = true) (hQ : ∀ c a w, Q (.panic c) (a.put oi.dst v) w → Q (.panic c) a w) (hns : st.contains i = false) :
    ∀ (k : Nat) (up : Array Bool) (a : Act) (w : World), Region.free md ops up i = true → (Region.ready md ops up).contains i = true → Pure P ops oi v a → (clean st up = true → T w) →
      wpL P md ops Q T st k (up.setIfInBounds i true) (a.put oi.dst v) w → wpL P md ops Q T st (k + 1) up a w := by
  suffices H0 : ∀ (k : Nat) (up : Array Bool) (a : Act) (w : World),
      (∀ j oj, ops[j]? = some oj → j ≠ i → up.getD j true = false → (∀ e ∈ oj.after, Region.binds md e = true → e.on ≠ i) → oi.apart ops oj = true) →
      i ∈ Region.ready md ops up → Pure P ops oi v a → (clean st up = true → T w) →
      wpL P md ops Q T st k (up.setIfInBounds i true) (a.put oi.dst v) w → wpL P md ops Q T st (k + 1) up a w by
    intro k up a w hf hr
    exact H0 k up a w (Region.free_spec hi hf) (by simpa using hr)
  intro k
  induction k with
  | zero =>
    intro up a w _ hr hy hT H
    refine ⟨fun h => (by rw [h] at hr; cases hr), fun j hj => ?_⟩
    by_cases hji : j = i
    · subst hji; exact hy.now hi ⟨fun h => hT (clean_back h), H⟩
    · have := ready_mono hj hji
      rw [H.1] at this
      cases this
  | succ k ih =>
    intro up a w hfree hr hy hT H
    refine ⟨fun h => (by rw [h] at hr; cases hr), fun j hj => ?_⟩
    by_cases hji : j = i
    · subst hji; exact hy.now hi ⟨fun h => hT (clean_back h), H⟩
    · have h1 := H.2 j (ready_mono hj hji)
      obtain ⟨hjun, oj, hoj, hall⟩ := mem_ready.1 hj
      have hno : ∀ e ∈ oj.after, Region.binds md e = true → e.on ≠ i := fun e he hb heq => by
        have a1 := hall e he hb
        have a0 := (mem_ready.1 hr).1
        rw [heq] at a1
        rcases Nat.lt_or_ge i up.size with h' | h'
        · simp [h'] at a0 a1; rw [a0] at a1; cases a1
        · simp [Array.getElem?_eq_none h'] at a1
      have hsel := Region.noSelect_spec hs
      have h2 := Pure.past hoj (hfree j oj hoj hji hjun hno) (fun cs b => hsel i oi cs b hi) (fun cs b => hsel j oj cs b hoj) hQ hy h1
      have hfree' : ∀ n on_, ops[n]? = some on_ → n ≠ i → (up.setIfInBounds j true).getD n true = false →
          (∀ e ∈ on_.after, Region.binds md e = true → e.on ≠ i) → oi.apart ops on_ = true := fun n on_ hn hni hun hnw => by
        refine hfree n on_ hn hni ?_ hnw
        by_cases hjn : j = n
        · subst hjn; exact hjun
        · rw [getD_set_ne true hjn] at hun; exact hun
      have hsw : (up.setIfInBounds i true).setIfInBounds j true = (up.setIfInBounds j true).setIfInBounds i true := Array.setIfInBounds_comm _ _ (Ne.symm hji)
      refine wpOp_mono (fun a' w' h3 => ⟨fun hcj => h3.2.1 (by rw [hsw]; exact clean_on hns hcj), ih (up.setIfInBounds j true) a' w' hfree' (ready_mono hr (Ne.symm hji)) h3.1 (fun hcj => h3.2.1 (by rw [hsw]; exact clean_on hns hcj)) ?_⟩) h2
      rw [← hsw]
      exact h3.2.2
theorem wpL_two {m n k : Nat} {om on_ : Oper} {up : Array Bool} {a : Act} {w : World} (hr : Region.ready md ops up = [m, n]) (hm : ops[m]? = some om) (hn : ops[n]? = some on_)
    (h1 : ∀ K : Act → World → Prop, Shut (∀ a w, T w → wpL P md ops Q T st k (up.setIfInBounds m true) a w → K a w) → if Region.wanted om (yielded ops a.tmps) = true then Oper.wp P om a w K Q else K (a.put om.dst undef) w)
    (h2 : ∀ K : Act → World → Prop, Shut (∀ a w, T w → wpL P md ops Q T st k (up.setIfInBounds n true) a w → K a w) → if Region.wanted on_ (yielded ops a.tmps) = true then Oper.wp P on_ a w K Q else K (a.put on_.dst undef) w) :
    wpL P md ops Q T st (k + 1) up a w := by
  refine ⟨fun h0 => (by rw [hr] at h0; cases h0), ?_⟩
  rw [hr]
  intro j hj
  simp only [List.mem_cons, List.not_mem_nil, or_false] at hj
  rcases hj with rfl | rfl
  · exact wpOp_step hm (fun K hK => h1 K (fun a w hT hW => hK a w ⟨fun _ => hT, hW⟩))
  · exact wpOp_step hn (fun K hK => h2 K (fun a w hT hW => hK a w ⟨fun _ => hT, hW⟩))
theorem wpL_three {m n p k : Nat} {om on_ op_ : Oper} {up : Array Bool} {a : Act} {w : World} (hr : Region.ready md ops up = [m, n, p]) (hm : ops[m]? = some om) (hn : ops[n]? = some on_) (hp : ops[p]? = some op_)
    (h1 : ∀ K : Act → World → Prop, Shut (∀ a w, T w → wpL P md ops Q T st k (up.setIfInBounds m true) a w → K a w) → if Region.wanted om (yielded ops a.tmps) = true then Oper.wp P om a w K Q else K (a.put om.dst undef) w)
    (h2 : ∀ K : Act → World → Prop, Shut (∀ a w, T w → wpL P md ops Q T st k (up.setIfInBounds n true) a w → K a w) → if Region.wanted on_ (yielded ops a.tmps) = true then Oper.wp P on_ a w K Q else K (a.put on_.dst undef) w)
    (h3 : ∀ K : Act → World → Prop, Shut (∀ a w, T w → wpL P md ops Q T st k (up.setIfInBounds p true) a w → K a w) → if Region.wanted op_ (yielded ops a.tmps) = true then Oper.wp P op_ a w K Q else K (a.put op_.dst undef) w) :
    wpL P md ops Q T st (k + 1) up a w := by
  refine ⟨fun h0 => (by rw [hr] at h0; cases h0), ?_⟩
  rw [hr]
  intro j hj
  simp only [List.mem_cons, List.not_mem_nil, or_false] at hj
  rcases hj with rfl | rfl | rfl
  · exact wpOp_step hm (fun K hK => h1 K (fun a w hT hW => hK a w ⟨fun _ => hT, hW⟩))
  · exact wpOp_step hn (fun K hK => h2 K (fun a w hT hW => hK a w ⟨fun _ => hT, hW⟩))
  · exact wpOp_step hp (fun K hK => h3 K (fun a w hT hW => hK a w ⟨fun _ => hT, hW⟩))
end
end Lap
namespace Stk
open Go.ChangeShapes Go.WideShapes Go.RowKit Mem
theorem blk_st {w : World} {g : Nat} {te : TypeId} {cs : Array Value} (h : Blk w g te cs) (i : Nat) (u : Value) : Blk (w.setCell ⟨g, i, none⟩ u) g te (cs.setIfInBounds i u) :=
  heap_setCell_same w g i cs te u h
theorem far_st {w : World} {g g' : Nat} {te : TypeId} {cs : Array Value} (h : Blk w g te cs) (hne : g ≠ g') {i : Nat} (u : Value) : Blk (w.setCell ⟨g', i, none⟩ u) g te cs :=
  (Below.heap_setCell w ⟨g', i, none⟩ u g hne).trans h
def st7 (W : World) (g : Nat) (v0 v1 v2 v3 v4 v5 v6 : Value) : World := (((((((W.setCell ⟨g, 0, none⟩ v0).setCell ⟨g, 1, none⟩ v1).setCell ⟨g, 2, none⟩ v2).setCell ⟨g, 3, none⟩ v3).setCell ⟨g, 4, none⟩ v4).setCell ⟨g, 5, none⟩ v5).setCell ⟨g, 6, none⟩ v6)
theorem st7_blk {W : World} {g : Nat} {te : TypeId} {u0 u1 u2 u3 u4 u5 u6 v0 v1 v2 v3 v4 v5 v6 : Value} (hk : Blk W g te #[u0, u1, u2, u3, u4, u5, u6]) : Blk (st7 W g v0 v1 v2 v3 v4 v5 v6) g te #[v0, v1, v2, v3, v4, v5, v6] := by
  have k0 : Blk (W.setCell ⟨g, 0, none⟩ v0) g te #[v0, u1, u2, u3, u4, u5, u6] := blk_st hk 0 v0
  have k1 : Blk ((W.setCell ⟨g, 0, none⟩ v0).setCell ⟨g, 1, none⟩ v1) g te #[v0, v1, u2, u3, u4, u5, u6] := blk_st k0 1 v1
  have k2 : Blk (((W.setCell ⟨g, 0, none⟩ v0).setCell ⟨g, 1, none⟩ v1).setCell ⟨g, 2, none⟩ v2) g te #[v0, v1, v2, u3, u4, u5, u6] := blk_st k1 2 v2
  have k3 : Blk ((((W.setCell ⟨g, 0, none⟩ v0).setCell ⟨g, 1, none⟩ v1).setCell ⟨g, 2, none⟩ v2).setCell ⟨g, 3, none⟩ v3) g te #[v0, v1, v2, v3, u4, u5, u6] := blk_st k2 3 v3
  have k4 : Blk (((((W.setCell ⟨g, 0, none⟩ v0).setCell ⟨g, 1, none⟩ v1).setCell ⟨g, 2, none⟩ v2).setCell ⟨g, 3, none⟩ v3).setCell ⟨g, 4, none⟩ v4) g te #[v0, v1, v2, v3, v4, u5, u6] := blk_st k3 4 v4
  have k5 : Blk ((((((W.setCell ⟨g, 0, none⟩ v0).setCell ⟨g, 1, none⟩ v1).setCell ⟨g, 2, none⟩ v2).setCell ⟨g, 3, none⟩ v3).setCell ⟨g, 4, none⟩ v4).setCell ⟨g, 5, none⟩ v5) g te #[v0, v1, v2, v3, v4, v5, u6] := blk_st k4 5 v5
  have k6 : Blk (((((((W.setCell ⟨g, 0, none⟩ v0).setCell ⟨g, 1, none⟩ v1).setCell ⟨g, 2, none⟩ v2).setCell ⟨g, 3, none⟩ v3).setCell ⟨g, 4, none⟩ v4).setCell ⟨g, 5, none⟩ v5).setCell ⟨g, 6, none⟩ v6) g te #[v0, v1, v2, v3, v4, v5, v6] := blk_st k5 6 v6
  exact k6
theorem st7_below {B : Nat} {w0 W : World} {g : Nat} {v0 v1 v2 v3 v4 v5 v6 : Value} (hb : Below B w0 W) (hg : B ≤ g) : Below B w0 (st7 W g v0 v1 v2 v3 v4 v5 v6) := (((((((hb.setCell (p := ⟨g, 0, none⟩) hg v0).setCell (p := ⟨g, 1, none⟩) hg v1).setCell (p := ⟨g, 2, none⟩) hg v2).setCell (p := ⟨g, 3, none⟩) hg v3).setCell (p := ⟨g, 4, none⟩) hg v4).setCell (p := ⟨g, 5, none⟩) hg v5).setCell (p := ⟨g, 6, none⟩) hg v6)
theorem st7_far {W : World} {g k : Nat} {te : TypeId} {cs : Array Value} {v0 v1 v2 v3 v4 v5 v6 : Value} (h : Blk W k te cs) (hne : k ≠ g) : Blk (st7 W g v0 v1 v2 v3 v4 v5 v6) k te cs := by
  unfold st7
  exact (far_st (far_st (far_st (far_st (far_st (far_st (far_st h hne v0) hne v1) hne v2) hne v3) hne v4) hne v5) hne v6)
theorem z7_of {W : World} {g : Nat} {te : TypeId} {v0 v1 v2 v3 v4 v5 v6 : Value} (h : Blk W g te #[v0, v1, v2, v3, v4, v5, v6]) : W.cell? ⟨g, 0, none⟩ = some v0 ∧ W.cell? ⟨g, 1, none⟩ = some v1 ∧ W.cell? ⟨g, 2, none⟩ = some v2 ∧ W.cell? ⟨g, 3, none⟩ = some v3 ∧ W.cell? ⟨g, 4, none⟩ = some v4 ∧ W.cell? ⟨g, 5, none⟩ = some v5 ∧ W.cell? ⟨g, 6, none⟩ = some v6 ∧ W.frozen? ⟨g, 0, none⟩ = false ∧ W.frozen? ⟨g, 1, none⟩ = false ∧ W.frozen? ⟨g, 2, none⟩ = false ∧ W.frozen? ⟨g, 3, none⟩ = false ∧ W.frozen? ⟨g, 4, none⟩ = false ∧ W.frozen? ⟨g, 5, none⟩ = false ∧ W.frozen? ⟨g, 6, none⟩ = false := ⟨h.cell 0, h.cell 1, h.cell 2, h.cell 3, h.cell 4, h.cell 5, h.cell 6, h.thaw 0, h.thaw 1, h.thaw 2, h.thaw 3, h.thaw 4, h.thaw 5, h.thaw 6⟩
theorem q7_of {W : World} {g : Nat} {te : TypeId} {v0 v1 v2 v3 v4 v5 v6 : Value} (h : Blk W g te #[v0, v1, v2, v3, v4, v5, v6]) : W.cell? ⟨g, 0, none⟩ = some v0 ∧ W.cell? ⟨g, 1, none⟩ = some v1 ∧ W.cell? ⟨g, 2, none⟩ = some v2 ∧ W.cell? ⟨g, 3, none⟩ = some v3 ∧ W.cell? ⟨g, 4, none⟩ = some v4 ∧ W.cell? ⟨g, 5, none⟩ = some v5 ∧ W.cell? ⟨g, 6, none⟩ = some v6 := ⟨h.cell 0, h.cell 1, h.cell 2, h.cell 3, h.cell 4, h.cell 5, h.cell 6⟩
end Stk
end Go.Proofs.YteclenloimbaeaaGreatDoor
