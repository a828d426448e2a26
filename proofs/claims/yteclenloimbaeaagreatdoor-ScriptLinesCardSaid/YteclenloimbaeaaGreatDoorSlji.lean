/- Texts side by side. -/
import Derived.Test.YteclenloimbaeaaGreatDoorSljg
import Derived.Test.YteclenloimbaeaaGreatDoorSljh
set_option linter.unusedVariables false
set_option linter.unusedSimpArgs false
set_option maxRecDepth 100000
set_option maxHeartbeats 16000000
namespace Go.Proofs.YteclenloimbaeaaGreatDoor
open Kap Go.ChangeShapes Go.WideShapes Go.ChangeAt Go.RowKit Go.Lib Mem Wpl Wmr Wrt Wry Spa Spm Shw Rsa
namespace Rsl
theorem rr_no {m : M} (h : ¬ rightM m = true) (w : World) : Calls Tryz.prog 22 #[mvl m] w (MadeBl false w) := by
  have := rright_any m w
  rw [Bool.eq_false_iff.2 h] at this
  exact this
theorem rr_yes {m : M} (h : rightM m = true) (w : World) : Calls Tryz.prog 22 #[mvl m] w (MadeBl true w) := by
  have := rright_any m w
  rw [h] at this
  exact this
theorem rline2 (a s : Int) (x : Bool) (p q n t i y z v : Int) (w : World) (hw : WfM (⟨2, a, s, x, p, q, n, t, i, y, z, v⟩ : M)) (hr : rightM (⟨2, a, s, x, p, q, n, t, i, y, z, v⟩ : M) = true) : Calls Tryz.prog 10 #[mvl (⟨2, a, s, x, p, q, n, t, i, y, z, v⟩ : M)] w (MadeS (lineL (⟨2, a, s, x, p, q, n, t, i, y, z, v⟩ : M)) w) := by
  obtain ⟨_, _, _, ⟨ha, _⟩, ⟨hs, _⟩, ⟨hz, _⟩, ⟨hi, _⟩, hp, hq, hn, ht, hy, hv⟩ := rightM_of hr
  obtain ⟨_, ia, is, ip, iq, iN, it, ii, iy, iz, iv⟩ := hw
  have l1 := itoa_len ia
  have l2 := itoa_len is
  have l3 := itoa_len ip
  have l4 := itoa_len iq
  have l5 := itoa_len iN
  have l6 := itoa_len it
  have l7 := itoa_len ii
  have l8 := itoa_len iy
  have l9 := itoa_len iz
  have l10 := itoa_len iv
  simp only at ha hs hz hi hp hq hn ht hy hv ia is ip iq iN it ii iy iz iv l1 l2 l3 l4 l5 l6 l7 l8 l9 l10
  have hl : Hid (lineL (⟨2, a, s, x, p, q, n, t, i, y, z, v⟩ : M) = join [wFill, itoa i, itoa y] [32]) := κ (by unfold lineL; rw [if_pos hr]; rfl)
  rw [hl.out]
  have b0 := κ (β w (.cells #[.int .i64 2, .int .i64 a, .int .i64 s, .bool x, .int .i64 p, .int .i64 q, .int .i64 n, .int .i64 t, .int .i64 i, .int .i64 y, .int .i64 z, .int .i64 v] 25))
  have k0 := κ (δ w 25 #[.int .i64 2, .int .i64 a, .int .i64 s, .bool x, .int .i64 p, .int .i64 q, .int .i64 n, .int .i64 t, .int .i64 i, .int .i64 y, .int .i64 z, .int .i64 v] w.heap.size rfl)
  have hR := κ (rr_yes hr)
  clear hr hl
  rw [mvl_mk]
  go_enter Tryz.func10, Tryz.ntmps10
  obtain ⟨j0, j1, j2, j3, j4, j5, j6, j7, j8, j9, j10, j11⟩ := c12_of k0.out
  go_wp2_with fail
  clear j0 j1 j2 j3 j4 j5 j6 j7 j8 j9 j10 j11
  generalize (w.alloc (.cells #[.int .i64 2, .int .i64 a, .int .i64 s, .bool x, .int .i64 p, .int .i64 q, .int .i64 n, .int .i64 t, .int .i64 i, .int .i64 y, .int .i64 z, .int .i64 v] 25)) = w0 at b0 k0 ⊢
  generalize w.heap.size = gM at k0 ⊢
  refine (hR.out _).mono ?_
  rintro e w1 ⟨rfl, hb1⟩
  have b1 := κ (CrdB.below_step b0.out hb1)
  have k1 := κ (k0.out.below' hb1)
  clear hb1 b0 k0 hR
  have b2 := κ (b1.out.alloc b1.out.size (.cells #[.string ⟨#[111, 114, 100, 101, 114]⟩, .string ⟨#[99, 97, 110, 99, 101, 108]⟩, .string ⟨#[102, 105, 108, 108]⟩, .string ⟨#[97, 99, 107]⟩, .string ⟨#[107, 105, 108, 108]⟩, .string ⟨#[114, 101, 97, 114, 109]⟩, .string ⟨#[108, 105, 109, 105, 116]⟩] 9))
  have k2 := κ (k1.out.alloc (.cells #[.string ⟨#[111, 114, 100, 101, 114]⟩, .string ⟨#[99, 97, 110, 99, 101, 108]⟩, .string ⟨#[102, 105, 108, 108]⟩, .string ⟨#[97, 99, 107]⟩, .string ⟨#[107, 105, 108, 108]⟩, .string ⟨#[114, 101, 97, 114, 109]⟩, .string ⟨#[108, 105, 109, 105, 116]⟩] 9))
  have n2 := κ (δ w1 9 #[.string ⟨#[111, 114, 100, 101, 114]⟩, .string ⟨#[99, 97, 110, 99, 101, 108]⟩, .string ⟨#[102, 105, 108, 108]⟩, .string ⟨#[97, 99, 107]⟩, .string ⟨#[107, 105, 108, 108]⟩, .string ⟨#[114, 101, 97, 114, 109]⟩, .string ⟨#[108, 105, 109, 105, 116]⟩] w1.heap.size rfl)
  obtain ⟨j0, j1, j2, j3, j4, j5, j6, j7, j8, j9, j10, j11⟩ := c12_of k2.out
  have nm0 := n2.out.cell 2
  go_upto_region 17 with fail
  go_quiet ((go_at_call 23; exact Calls.quiet_of (rput_any _ _ (by (try simp only [List.length_append, List.length_cons, List.length_nil]); omega) (by assumption) (by unfold inI at *; omega) _)))
  go_wp2_with fail
  go_ret
  exact ⟨ret_eq (congrArg (fun l => sv l) (by rw [join_cons]; simp [joinTail, wFill])), Below.drewN' b2.out nq⟩
theorem rline6 (a s : Int) (x : Bool) (p q n t i y z v : Int) (w : World) (hw : WfM (⟨6, a, s, x, p, q, n, t, i, y, z, v⟩ : M)) (hr : rightM (⟨6, a, s, x, p, q, n, t, i, y, z, v⟩ : M) = true) : Calls Tryz.prog 10 #[mvl (⟨6, a, s, x, p, q, n, t, i, y, z, v⟩ : M)] w (MadeS (lineL (⟨6, a, s, x, p, q, n, t, i, y, z, v⟩ : M)) w) := by
  obtain ⟨_, _, _, ⟨ha, _⟩, ⟨hs, _⟩, ⟨hz, _⟩, ⟨hi, _⟩, hp, hq, hn, ht, hy, hv⟩ := rightM_of hr
  obtain ⟨_, ia, is, ip, iq, iN, it, ii, iy, iz, iv⟩ := hw
  have l1 := itoa_len ia
  have l2 := itoa_len is
  have l3 := itoa_len ip
  have l4 := itoa_len iq
  have l5 := itoa_len iN
  have l6 := itoa_len it
  have l7 := itoa_len ii
  have l8 := itoa_len iy
  have l9 := itoa_len iz
  have l10 := itoa_len iv
  simp only at ha hs hz hi hp hq hn ht hy hv ia is ip iq iN it ii iy iz iv l1 l2 l3 l4 l5 l6 l7 l8 l9 l10
  have hl : Hid (lineL (⟨6, a, s, x, p, q, n, t, i, y, z, v⟩ : M) = join [wLimit, itoa z, itoa v] [32]) := κ (by unfold lineL; rw [if_pos hr]; rfl)
  rw [hl.out]
  have b0 := κ (β w (.cells #[.int .i64 6, .int .i64 a, .int .i64 s, .bool x, .int .i64 p, .int .i64 q, .int .i64 n, .int .i64 t, .int .i64 i, .int .i64 y, .int .i64 z, .int .i64 v] 25))
  have k0 := κ (δ w 25 #[.int .i64 6, .int .i64 a, .int .i64 s, .bool x, .int .i64 p, .int .i64 q, .int .i64 n, .int .i64 t, .int .i64 i, .int .i64 y, .int .i64 z, .int .i64 v] w.heap.size rfl)
  have hR := κ (rr_yes hr)
  clear hr hl
  rw [mvl_mk]
  go_enter Tryz.func10, Tryz.ntmps10
  obtain ⟨j0, j1, j2, j3, j4, j5, j6, j7, j8, j9, j10, j11⟩ := c12_of k0.out
  go_wp2_with fail
  clear j0 j1 j2 j3 j4 j5 j6 j7 j8 j9 j10 j11
  generalize (w.alloc (.cells #[.int .i64 6, .int .i64 a, .int .i64 s, .bool x, .int .i64 p, .int .i64 q, .int .i64 n, .int .i64 t, .int .i64 i, .int .i64 y, .int .i64 z, .int .i64 v] 25)) = w0 at b0 k0 ⊢
  generalize w.heap.size = gM at k0 ⊢
  refine (hR.out _).mono ?_
  rintro e w1 ⟨rfl, hb1⟩
  have b1 := κ (CrdB.below_step b0.out hb1)
  have k1 := κ (k0.out.below' hb1)
  clear hb1 b0 k0 hR
  have b2 := κ (b1.out.alloc b1.out.size (.cells #[.string ⟨#[111, 114, 100, 101, 114]⟩, .string ⟨#[99, 97, 110, 99, 101, 108]⟩, .string ⟨#[102, 105, 108, 108]⟩, .string ⟨#[97, 99, 107]⟩, .string ⟨#[107, 105, 108, 108]⟩, .string ⟨#[114, 101, 97, 114, 109]⟩, .string ⟨#[108, 105, 109, 105, 116]⟩] 9))
  have k2 := κ (k1.out.alloc (.cells #[.string ⟨#[111, 114, 100, 101, 114]⟩, .string ⟨#[99, 97, 110, 99, 101, 108]⟩, .string ⟨#[102, 105, 108, 108]⟩, .string ⟨#[97, 99, 107]⟩, .string ⟨#[107, 105, 108, 108]⟩, .string ⟨#[114, 101, 97, 114, 109]⟩, .string ⟨#[108, 105, 109, 105, 116]⟩] 9))
  have n2 := κ (δ w1 9 #[.string ⟨#[111, 114, 100, 101, 114]⟩, .string ⟨#[99, 97, 110, 99, 101, 108]⟩, .string ⟨#[102, 105, 108, 108]⟩, .string ⟨#[97, 99, 107]⟩, .string ⟨#[107, 105, 108, 108]⟩, .string ⟨#[114, 101, 97, 114, 109]⟩, .string ⟨#[108, 105, 109, 105, 116]⟩] w1.heap.size rfl)
  obtain ⟨j0, j1, j2, j3, j4, j5, j6, j7, j8, j9, j10, j11⟩ := c12_of k2.out
  have nm0 := n2.out.cell 6
  go_upto_region 19 with fail
  go_quiet ((go_at_call 23; exact Calls.quiet_of (rput_any _ _ (by (try simp only [List.length_append, List.length_cons, List.length_nil]); omega) (by assumption) (by unfold inI at *; omega) _)))
  go_wp2_with fail
  go_ret
  exact ⟨ret_eq (congrArg (fun l => sv l) (by rw [join_cons]; simp [joinTail, wLimit])), Below.drewN' b2.out nq⟩
theorem rline1 (a s : Int) (x : Bool) (p q n t i y z v : Int) (w : World) (hw : WfM (⟨1, a, s, x, p, q, n, t, i, y, z, v⟩ : M)) (hr : rightM (⟨1, a, s, x, p, q, n, t, i, y, z, v⟩ : M) = true) : Calls Tryz.prog 10 #[mvl (⟨1, a, s, x, p, q, n, t, i, y, z, v⟩ : M)] w (MadeS (lineL (⟨1, a, s, x, p, q, n, t, i, y, z, v⟩ : M)) w) := by
  obtain ⟨_, _, _, ⟨ha, _⟩, ⟨hs, _⟩, ⟨hz, _⟩, ⟨hi, _⟩, hp, hq, hn, ht, hy, hv⟩ := rightM_of hr
  obtain ⟨_, ia, is, ip, iq, iN, it, ii, iy, iz, iv⟩ := hw
  have l1 := itoa_len ia
  have l2 := itoa_len is
  have l3 := itoa_len ip
  have l4 := itoa_len iq
  have l5 := itoa_len iN
  have l6 := itoa_len it
  have l7 := itoa_len ii
  have l8 := itoa_len iy
  have l9 := itoa_len iz
  have l10 := itoa_len iv
  simp only at ha hs hz hi hp hq hn ht hy hv ia is ip iq iN it ii iy iz iv l1 l2 l3 l4 l5 l6 l7 l8 l9 l10
  have hl : Hid (lineL (⟨1, a, s, x, p, q, n, t, i, y, z, v⟩ : M) = join [wCancel, itoa i] [32]) := κ (by unfold lineL; rw [if_pos hr]; rfl)
  rw [hl.out]
  have b0 := κ (β w (.cells #[.int .i64 1, .int .i64 a, .int .i64 s, .bool x, .int .i64 p, .int .i64 q, .int .i64 n, .int .i64 t, .int .i64 i, .int .i64 y, .int .i64 z, .int .i64 v] 25))
  have k0 := κ (δ w 25 #[.int .i64 1, .int .i64 a, .int .i64 s, .bool x, .int .i64 p, .int .i64 q, .int .i64 n, .int .i64 t, .int .i64 i, .int .i64 y, .int .i64 z, .int .i64 v] w.heap.size rfl)
  have hR := κ (rr_yes hr)
  clear hr hl
  rw [mvl_mk]
  go_enter Tryz.func10, Tryz.ntmps10
  obtain ⟨j0, j1, j2, j3, j4, j5, j6, j7, j8, j9, j10, j11⟩ := c12_of k0.out
  go_wp2_with fail
  clear j0 j1 j2 j3 j4 j5 j6 j7 j8 j9 j10 j11
  generalize (w.alloc (.cells #[.int .i64 1, .int .i64 a, .int .i64 s, .bool x, .int .i64 p, .int .i64 q, .int .i64 n, .int .i64 t, .int .i64 i, .int .i64 y, .int .i64 z, .int .i64 v] 25)) = w0 at b0 k0 ⊢
  generalize w.heap.size = gM at k0 ⊢
  refine (hR.out _).mono ?_
  rintro e w1 ⟨rfl, hb1⟩
  have b1 := κ (CrdB.below_step b0.out hb1)
  have k1 := κ (k0.out.below' hb1)
  clear hb1 b0 k0 hR
  have b2 := κ (b1.out.alloc b1.out.size (.cells #[.string ⟨#[111, 114, 100, 101, 114]⟩, .string ⟨#[99, 97, 110, 99, 101, 108]⟩, .string ⟨#[102, 105, 108, 108]⟩, .string ⟨#[97, 99, 107]⟩, .string ⟨#[107, 105, 108, 108]⟩, .string ⟨#[114, 101, 97, 114, 109]⟩, .string ⟨#[108, 105, 109, 105, 116]⟩] 9))
  have k2 := κ (k1.out.alloc (.cells #[.string ⟨#[111, 114, 100, 101, 114]⟩, .string ⟨#[99, 97, 110, 99, 101, 108]⟩, .string ⟨#[102, 105, 108, 108]⟩, .string ⟨#[97, 99, 107]⟩, .string ⟨#[107, 105, 108, 108]⟩, .string ⟨#[114, 101, 97, 114, 109]⟩, .string ⟨#[108, 105, 109, 105, 116]⟩] 9))
  have n2 := κ (δ w1 9 #[.string ⟨#[111, 114, 100, 101, 114]⟩, .string ⟨#[99, 97, 110, 99, 101, 108]⟩, .string ⟨#[102, 105, 108, 108]⟩, .string ⟨#[97, 99, 107]⟩, .string ⟨#[107, 105, 108, 108]⟩, .string ⟨#[114, 101, 97, 114, 109]⟩, .string ⟨#[108, 105, 109, 105, 116]⟩] w1.heap.size rfl)
  obtain ⟨j0, j1, j2, j3, j4, j5, j6, j7, j8, j9, j10, j11⟩ := c12_of k2.out
  have nm0 := n2.out.cell 1
  go_wp2_with fail
  refine (rput_any [99, 97, 110, 99, 101, 108] i (by decide) hi (by unfold inI at ii; omega) _).mono ?_
  rintro e w3 ⟨rfl, k3, rfl⟩
  go_wp2_with fail
  go_ret
  exact ⟨ret_eq (congrArg (fun l => sv l) (by rw [join_cons]; simp [joinTail, wCancel])), Below.drewN' b2.out k3⟩
theorem rline3 (a s : Int) (x : Bool) (p q n t i y z v : Int) (w : World) (hw : WfM (⟨3, a, s, x, p, q, n, t, i, y, z, v⟩ : M)) (hr : rightM (⟨3, a, s, x, p, q, n, t, i, y, z, v⟩ : M) = true) : Calls Tryz.prog 10 #[mvl (⟨3, a, s, x, p, q, n, t, i, y, z, v⟩ : M)] w (MadeS (lineL (⟨3, a, s, x, p, q, n, t, i, y, z, v⟩ : M)) w) := by
  obtain ⟨_, _, _, ⟨ha, _⟩, ⟨hs, _⟩, ⟨hz, _⟩, ⟨hi, _⟩, hp, hq, hn, ht, hy, hv⟩ := rightM_of hr
  obtain ⟨_, ia, is, ip, iq, iN, it, ii, iy, iz, iv⟩ := hw
  have l1 := itoa_len ia
  have l2 := itoa_len is
  have l3 := itoa_len ip
  have l4 := itoa_len iq
  have l5 := itoa_len iN
  have l6 := itoa_len it
  have l7 := itoa_len ii
  have l8 := itoa_len iy
  have l9 := itoa_len iz
  have l10 := itoa_len iv
  simp only at ha hs hz hi hp hq hn ht hy hv ia is ip iq iN it ii iy iz iv l1 l2 l3 l4 l5 l6 l7 l8 l9 l10
  have hl : Hid (lineL (⟨3, a, s, x, p, q, n, t, i, y, z, v⟩ : M) = join [wAck, itoa i] [32]) := κ (by unfold lineL; rw [if_pos hr]; rfl)
  rw [hl.out]
  have b0 := κ (β w (.cells #[.int .i64 3, .int .i64 a, .int .i64 s, .bool x, .int .i64 p, .int .i64 q, .int .i64 n, .int .i64 t, .int .i64 i, .int .i64 y, .int .i64 z, .int .i64 v] 25))
  have k0 := κ (δ w 25 #[.int .i64 3, .int .i64 a, .int .i64 s, .bool x, .int .i64 p, .int .i64 q, .int .i64 n, .int .i64 t, .int .i64 i, .int .i64 y, .int .i64 z, .int .i64 v] w.heap.size rfl)
  have hR := κ (rr_yes hr)
  clear hr hl
  rw [mvl_mk]
  go_enter Tryz.func10, Tryz.ntmps10
  obtain ⟨j0, j1, j2, j3, j4, j5, j6, j7, j8, j9, j10, j11⟩ := c12_of k0.out
  go_wp2_with fail
  clear j0 j1 j2 j3 j4 j5 j6 j7 j8 j9 j10 j11
  generalize (w.alloc (.cells #[.int .i64 3, .int .i64 a, .int .i64 s, .bool x, .int .i64 p, .int .i64 q, .int .i64 n, .int .i64 t, .int .i64 i, .int .i64 y, .int .i64 z, .int .i64 v] 25)) = w0 at b0 k0 ⊢
  generalize w.heap.size = gM at k0 ⊢
  refine (hR.out _).mono ?_
  rintro e w1 ⟨rfl, hb1⟩
  have b1 := κ (CrdB.below_step b0.out hb1)
  have k1 := κ (k0.out.below' hb1)
  clear hb1 b0 k0 hR
  have b2 := κ (b1.out.alloc b1.out.size (.cells #[.string ⟨#[111, 114, 100, 101, 114]⟩, .string ⟨#[99, 97, 110, 99, 101, 108]⟩, .string ⟨#[102, 105, 108, 108]⟩, .string ⟨#[97, 99, 107]⟩, .string ⟨#[107, 105, 108, 108]⟩, .string ⟨#[114, 101, 97, 114, 109]⟩, .string ⟨#[108, 105, 109, 105, 116]⟩] 9))
  have k2 := κ (k1.out.alloc (.cells #[.string ⟨#[111, 114, 100, 101, 114]⟩, .string ⟨#[99, 97, 110, 99, 101, 108]⟩, .string ⟨#[102, 105, 108, 108]⟩, .string ⟨#[97, 99, 107]⟩, .string ⟨#[107, 105, 108, 108]⟩, .string ⟨#[114, 101, 97, 114, 109]⟩, .string ⟨#[108, 105, 109, 105, 116]⟩] 9))
  have n2 := κ (δ w1 9 #[.string ⟨#[111, 114, 100, 101, 114]⟩, .string ⟨#[99, 97, 110, 99, 101, 108]⟩, .string ⟨#[102, 105, 108, 108]⟩, .string ⟨#[97, 99, 107]⟩, .string ⟨#[107, 105, 108, 108]⟩, .string ⟨#[114, 101, 97, 114, 109]⟩, .string ⟨#[108, 105, 109, 105, 116]⟩] w1.heap.size rfl)
  obtain ⟨j0, j1, j2, j3, j4, j5, j6, j7, j8, j9, j10, j11⟩ := c12_of k2.out
  have nm0 := n2.out.cell 3
  go_wp2_with fail
  refine (rput_any [97, 99, 107] i (by decide) hi (by unfold inI at ii; omega) _).mono ?_
  rintro e w3 ⟨rfl, k3, rfl⟩
  go_wp2_with fail
  go_ret
  exact ⟨ret_eq (congrArg (fun l => sv l) (by rw [join_cons]; simp [joinTail, wAck])), Below.drewN' b2.out k3⟩
theorem rline4 (a s : Int) (x : Bool) (p q n t i y z v : Int) (w : World) (hw : WfM (⟨4, a, s, x, p, q, n, t, i, y, z, v⟩ : M)) (hr : rightM (⟨4, a, s, x, p, q, n, t, i, y, z, v⟩ : M) = true) : Calls Tryz.prog 10 #[mvl (⟨4, a, s, x, p, q, n, t, i, y, z, v⟩ : M)] w (MadeS (lineL (⟨4, a, s, x, p, q, n, t, i, y, z, v⟩ : M)) w) := by
  obtain ⟨_, _, _, ⟨ha, _⟩, ⟨hs, _⟩, ⟨hz, _⟩, ⟨hi, _⟩, hp, hq, hn, ht, hy, hv⟩ := rightM_of hr
  obtain ⟨_, ia, is, ip, iq, iN, it, ii, iy, iz, iv⟩ := hw
  have l1 := itoa_len ia
  have l2 := itoa_len is
  have l3 := itoa_len ip
  have l4 := itoa_len iq
  have l5 := itoa_len iN
  have l6 := itoa_len it
  have l7 := itoa_len ii
  have l8 := itoa_len iy
  have l9 := itoa_len iz
  have l10 := itoa_len iv
  simp only at ha hs hz hi hp hq hn ht hy hv ia is ip iq iN it ii iy iz iv l1 l2 l3 l4 l5 l6 l7 l8 l9 l10
  have hl : Hid (lineL (⟨4, a, s, x, p, q, n, t, i, y, z, v⟩ : M) = join [wKill] [32]) := κ (by unfold lineL; rw [if_pos hr]; rfl)
  rw [hl.out]
  have b0 := κ (β w (.cells #[.int .i64 4, .int .i64 a, .int .i64 s, .bool x, .int .i64 p, .int .i64 q, .int .i64 n, .int .i64 t, .int .i64 i, .int .i64 y, .int .i64 z, .int .i64 v] 25))
  have k0 := κ (δ w 25 #[.int .i64 4, .int .i64 a, .int .i64 s, .bool x, .int .i64 p, .int .i64 q, .int .i64 n, .int .i64 t, .int .i64 i, .int .i64 y, .int .i64 z, .int .i64 v] w.heap.size rfl)
  have hR := κ (rr_yes hr)
  clear hr hl
  rw [mvl_mk]
  go_enter Tryz.func10, Tryz.ntmps10
  obtain ⟨j0, j1, j2, j3, j4, j5, j6, j7, j8, j9, j10, j11⟩ := c12_of k0.out
  go_wp2_with fail
  clear j0 j1 j2 j3 j4 j5 j6 j7 j8 j9 j10 j11
  generalize (w.alloc (.cells #[.int .i64 4, .int .i64 a, .int .i64 s, .bool x, .int .i64 p, .int .i64 q, .int .i64 n, .int .i64 t, .int .i64 i, .int .i64 y, .int .i64 z, .int .i64 v] 25)) = w0 at b0 k0 ⊢
  generalize w.heap.size = gM at k0 ⊢
  refine (hR.out _).mono ?_
  rintro e w1 ⟨rfl, hb1⟩
  have b1 := κ (CrdB.below_step b0.out hb1)
  have k1 := κ (k0.out.below' hb1)
  clear hb1 b0 k0 hR
  have b2 := κ (b1.out.alloc b1.out.size (.cells #[.string ⟨#[111, 114, 100, 101, 114]⟩, .string ⟨#[99, 97, 110, 99, 101, 108]⟩, .string ⟨#[102, 105, 108, 108]⟩, .string ⟨#[97, 99, 107]⟩, .string ⟨#[107, 105, 108, 108]⟩, .string ⟨#[114, 101, 97, 114, 109]⟩, .string ⟨#[108, 105, 109, 105, 116]⟩] 9))
  have k2 := κ (k1.out.alloc (.cells #[.string ⟨#[111, 114, 100, 101, 114]⟩, .string ⟨#[99, 97, 110, 99, 101, 108]⟩, .string ⟨#[102, 105, 108, 108]⟩, .string ⟨#[97, 99, 107]⟩, .string ⟨#[107, 105, 108, 108]⟩, .string ⟨#[114, 101, 97, 114, 109]⟩, .string ⟨#[108, 105, 109, 105, 116]⟩] 9))
  have n2 := κ (δ w1 9 #[.string ⟨#[111, 114, 100, 101, 114]⟩, .string ⟨#[99, 97, 110, 99, 101, 108]⟩, .string ⟨#[102, 105, 108, 108]⟩, .string ⟨#[97, 99, 107]⟩, .string ⟨#[107, 105, 108, 108]⟩, .string ⟨#[114, 101, 97, 114, 109]⟩, .string ⟨#[108, 105, 109, 105, 116]⟩] w1.heap.size rfl)
  obtain ⟨j0, j1, j2, j3, j4, j5, j6, j7, j8, j9, j10, j11⟩ := c12_of k2.out
  have nm0 := n2.out.cell 4
  go_wp2_with fail
  go_ret
  exact ⟨rfl, b2.out⟩
theorem rline5 (a s : Int) (x : Bool) (p q n t i y z v : Int) (w : World) (hw : WfM (⟨5, a, s, x, p, q, n, t, i, y, z, v⟩ : M)) (hr : rightM (⟨5, a, s, x, p, q, n, t, i, y, z, v⟩ : M) = true) : Calls Tryz.prog 10 #[mvl (⟨5, a, s, x, p, q, n, t, i, y, z, v⟩ : M)] w (MadeS (lineL (⟨5, a, s, x, p, q, n, t, i, y, z, v⟩ : M)) w) := by
  obtain ⟨_, _, _, ⟨ha, _⟩, ⟨hs, _⟩, ⟨hz, _⟩, ⟨hi, _⟩, hp, hq, hn, ht, hy, hv⟩ := rightM_of hr
  obtain ⟨_, ia, is, ip, iq, iN, it, ii, iy, iz, iv⟩ := hw
  have l1 := itoa_len ia
  have l2 := itoa_len is
  have l3 := itoa_len ip
  have l4 := itoa_len iq
  have l5 := itoa_len iN
  have l6 := itoa_len it
  have l7 := itoa_len ii
  have l8 := itoa_len iy
  have l9 := itoa_len iz
  have l10 := itoa_len iv
  simp only at ha hs hz hi hp hq hn ht hy hv ia is ip iq iN it ii iy iz iv l1 l2 l3 l4 l5 l6 l7 l8 l9 l10
  have hl : Hid (lineL (⟨5, a, s, x, p, q, n, t, i, y, z, v⟩ : M) = join [wRearm] [32]) := κ (by unfold lineL; rw [if_pos hr]; rfl)
  rw [hl.out]
  have b0 := κ (β w (.cells #[.int .i64 5, .int .i64 a, .int .i64 s, .bool x, .int .i64 p, .int .i64 q, .int .i64 n, .int .i64 t, .int .i64 i, .int .i64 y, .int .i64 z, .int .i64 v] 25))
  have k0 := κ (δ w 25 #[.int .i64 5, .int .i64 a, .int .i64 s, .bool x, .int .i64 p, .int .i64 q, .int .i64 n, .int .i64 t, .int .i64 i, .int .i64 y, .int .i64 z, .int .i64 v] w.heap.size rfl)
  have hR := κ (rr_yes hr)
  clear hr hl
  rw [mvl_mk]
  go_enter Tryz.func10, Tryz.ntmps10
  obtain ⟨j0, j1, j2, j3, j4, j5, j6, j7, j8, j9, j10, j11⟩ := c12_of k0.out
  go_wp2_with fail
  clear j0 j1 j2 j3 j4 j5 j6 j7 j8 j9 j10 j11
  generalize (w.alloc (.cells #[.int .i64 5, .int .i64 a, .int .i64 s, .bool x, .int .i64 p, .int .i64 q, .int .i64 n, .int .i64 t, .int .i64 i, .int .i64 y, .int .i64 z, .int .i64 v] 25)) = w0 at b0 k0 ⊢
  generalize w.heap.size = gM at k0 ⊢
  refine (hR.out _).mono ?_
  rintro e w1 ⟨rfl, hb1⟩
  have b1 := κ (CrdB.below_step b0.out hb1)
  have k1 := κ (k0.out.below' hb1)
  clear hb1 b0 k0 hR
  have b2 := κ (b1.out.alloc b1.out.size (.cells #[.string ⟨#[111, 114, 100, 101, 114]⟩, .string ⟨#[99, 97, 110, 99, 101, 108]⟩, .string ⟨#[102, 105, 108, 108]⟩, .string ⟨#[97, 99, 107]⟩, .string ⟨#[107, 105, 108, 108]⟩, .string ⟨#[114, 101, 97, 114, 109]⟩, .string ⟨#[108, 105, 109, 105, 116]⟩] 9))
  have k2 := κ (k1.out.alloc (.cells #[.string ⟨#[111, 114, 100, 101, 114]⟩, .string ⟨#[99, 97, 110, 99, 101, 108]⟩, .string ⟨#[102, 105, 108, 108]⟩, .string ⟨#[97, 99, 107]⟩, .string ⟨#[107, 105, 108, 108]⟩, .string ⟨#[114, 101, 97, 114, 109]⟩, .string ⟨#[108, 105, 109, 105, 116]⟩] 9))
  have n2 := κ (δ w1 9 #[.string ⟨#[111, 114, 100, 101, 114]⟩, .string ⟨#[99, 97, 110, 99, 101, 108]⟩, .string ⟨#[102, 105, 108, 108]⟩, .string ⟨#[97, 99, 107]⟩, .string ⟨#[107, 105, 108, 108]⟩, .string ⟨#[114, 101, 97, 114, 109]⟩, .string ⟨#[108, 105, 109, 105, 116]⟩] w1.heap.size rfl)
  obtain ⟨j0, j1, j2, j3, j4, j5, j6, j7, j8, j9, j10, j11⟩ := c12_of k2.out
  have nm0 := n2.out.cell 5
  go_wp2_with fail
  go_ret
  exact ⟨rfl, b2.out⟩
theorem rline0t (a s : Int) (p q n t i y z v : Int) (w : World) (hw : WfM (⟨0, a, s, true, p, q, n, t, i, y, z, v⟩ : M)) (hr : rightM (⟨0, a, s, true, p, q, n, t, i, y, z, v⟩ : M) = true) : Calls Tryz.prog 10 #[mvl (⟨0, a, s, true, p, q, n, t, i, y, z, v⟩ : M)] w (MadeS (lineL (⟨0, a, s, true, p, q, n, t, i, y, z, v⟩ : M)) w) := by
  obtain ⟨_, _, _, ⟨ha, _⟩, ⟨hs, _⟩, ⟨hz, _⟩, ⟨hi, _⟩, hp, hq, hn, ht, hy, hv⟩ := rightM_of hr
  obtain ⟨_, ia, is, ip, iq, iN, it, ii, iy, iz, iv⟩ := hw
  have l1 := itoa_len ia
  have l2 := itoa_len is
  have l3 := itoa_len ip
  have l4 := itoa_len iq
  have l5 := itoa_len iN
  have l6 := itoa_len it
  have l7 := itoa_len ii
  have l8 := itoa_len iy
  have l9 := itoa_len iz
  have l10 := itoa_len iv
  simp only at ha hs hz hi hp hq hn ht hy hv ia is ip iq iN it ii iy iz iv l1 l2 l3 l4 l5 l6 l7 l8 l9 l10
  have hl : Hid (lineL (⟨0, a, s, true, p, q, n, t, i, y, z, v⟩ : M) = join [wOrder, itoa a, itoa s, sideL true, itoa p, itoa q, itoa n, itoa t] [32]) := κ (by unfold lineL; rw [if_pos hr]; rfl)
  rw [hl.out]
  have b0 := κ (β w (.cells #[.int .i64 0, .int .i64 a, .int .i64 s, .bool true, .int .i64 p, .int .i64 q, .int .i64 n, .int .i64 t, .int .i64 i, .int .i64 y, .int .i64 z, .int .i64 v] 25))
  have k0 := κ (δ w 25 #[.int .i64 0, .int .i64 a, .int .i64 s, .bool true, .int .i64 p, .int .i64 q, .int .i64 n, .int .i64 t, .int .i64 i, .int .i64 y, .int .i64 z, .int .i64 v] w.heap.size rfl)
  have hR := κ (rr_yes hr)
  clear hr hl
  rw [mvl_mk]
  go_enter Tryz.func10, Tryz.ntmps10
  obtain ⟨j0, j1, j2, j3, j4, j5, j6, j7, j8, j9, j10, j11⟩ := c12_of k0.out
  go_wp2_with fail
  clear j0 j1 j2 j3 j4 j5 j6 j7 j8 j9 j10 j11
  generalize (w.alloc (.cells #[.int .i64 0, .int .i64 a, .int .i64 s, .bool true, .int .i64 p, .int .i64 q, .int .i64 n, .int .i64 t, .int .i64 i, .int .i64 y, .int .i64 z, .int .i64 v] 25)) = w0 at b0 k0 ⊢
  generalize w.heap.size = gM at k0 ⊢
  refine (hR.out _).mono ?_
  rintro e w1 ⟨rfl, hb1⟩
  have b1 := κ (CrdB.below_step b0.out hb1)
  have k1 := κ (k0.out.below' hb1)
  clear hb1 b0 k0 hR
  have b2 := κ (b1.out.alloc b1.out.size (.cells #[.string ⟨#[111, 114, 100, 101, 114]⟩, .string ⟨#[99, 97, 110, 99, 101, 108]⟩, .string ⟨#[102, 105, 108, 108]⟩, .string ⟨#[97, 99, 107]⟩, .string ⟨#[107, 105, 108, 108]⟩, .string ⟨#[114, 101, 97, 114, 109]⟩, .string ⟨#[108, 105, 109, 105, 116]⟩] 9))
  have k2 := κ (k1.out.alloc (.cells #[.string ⟨#[111, 114, 100, 101, 114]⟩, .string ⟨#[99, 97, 110, 99, 101, 108]⟩, .string ⟨#[102, 105, 108, 108]⟩, .string ⟨#[97, 99, 107]⟩, .string ⟨#[107, 105, 108, 108]⟩, .string ⟨#[114, 101, 97, 114, 109]⟩, .string ⟨#[108, 105, 109, 105, 116]⟩] 9))
  have n2 := κ (δ w1 9 #[.string ⟨#[111, 114, 100, 101, 114]⟩, .string ⟨#[99, 97, 110, 99, 101, 108]⟩, .string ⟨#[102, 105, 108, 108]⟩, .string ⟨#[97, 99, 107]⟩, .string ⟨#[107, 105, 108, 108]⟩, .string ⟨#[114, 101, 97, 114, 109]⟩, .string ⟨#[108, 105, 109, 105, 116]⟩] w1.heap.size rfl)
  obtain ⟨j0, j1, j2, j3, j4, j5, j6, j7, j8, j9, j10, j11⟩ := c12_of k2.out
  have nm0 := n2.out.cell 0
  go_upto_region 8 with fail
  clear j0 j1 j2 j3 j4 j5 j6 j7 j8 j9 j10 j11 nm0
  have b3 := κ (b2.out.alloc b2.out.size (.cells #[.int .i64 a, .int .i64 s, .bool true, .int .i64 p, .int .i64 q, .int .i64 n, .int .i64 t] 23))
  have o3 := κ (δ (w1.alloc (.cells #[.string ⟨#[111, 114, 100, 101, 114]⟩, .string ⟨#[99, 97, 110, 99, 101, 108]⟩, .string ⟨#[102, 105, 108, 108]⟩, .string ⟨#[97, 99, 107]⟩, .string ⟨#[107, 105, 108, 108]⟩, .string ⟨#[114, 101, 97, 114, 109]⟩, .string ⟨#[108, 105, 109, 105, 116]⟩] 9)) 23 #[.int .i64 a, .int .i64 s, .bool true, .int .i64 p, .int .i64 q, .int .i64 n, .int .i64 t] (w1.heap.size + 1))
  generalize (w1.alloc (.cells #[.string ⟨#[111, 114, 100, 101, 114]⟩, .string ⟨#[99, 97, 110, 99, 101, 108]⟩, .string ⟨#[102, 105, 108, 108]⟩, .string ⟨#[97, 99, 107]⟩, .string ⟨#[107, 105, 108, 108]⟩, .string ⟨#[114, 101, 97, 114, 109]⟩, .string ⟨#[108, 105, 109, 105, 116]⟩] 9)).alloc (.cells #[.int .i64 a, .int .i64 s, .bool true, .int .i64 p, .int .i64 q, .int .i64 n, .int .i64 t] 23) = w3 at b3 o3 ⊢
  generalize w1.heap.size + 1 = gO at o3 ⊢
  clear b1 b2 k1 k2 n2
  obtain ⟨o0, o1, o2, o4, o5, o6, o7⟩ : w3.cell? ⟨gO, 0, none⟩ = some (.int .i64 a) ∧ w3.cell? ⟨gO, 1, none⟩ = some (.int .i64 s) ∧ w3.cell? ⟨gO, 2, none⟩ = some (.bool true) ∧ w3.cell? ⟨gO, 3, none⟩ = some (.int .i64 p) ∧ w3.cell? ⟨gO, 4, none⟩ = some (.int .i64 q) ∧ w3.cell? ⟨gO, 5, none⟩ = some (.int .i64 n) ∧ w3.cell? ⟨gO, 6, none⟩ = some (.int .i64 t) := ⟨o3.out.cell 0, o3.out.cell 1, o3.out.cell 2, o3.out.cell 3, o3.out.cell 4, o3.out.cell 5, o3.out.cell 6⟩
  obtain ⟨X, hX⟩ : ∃ X, X = (111 :: 114 :: 100 :: 101 :: 114 :: 32 :: (itoa a ++ 32 :: itoa s)) ++ [32, 115, 101, 108, 108] := ⟨_, rfl⟩
  have hadd : ∀ W, (Op.stringOp .add ⟨(111 :: 114 :: 100 :: 101 :: 114 :: 32 :: (itoa a ++ 32 :: itoa s)).toArray⟩ ⟨([32, 115, 101, 108, 108] : List UInt8).toArray⟩).run Tryz.prog W = .ok (sv X) W := fun W => by rw [hX]; exact run_string_add_lists W _ _ (by simp; omega) (by simp)
  have lX : X.length ≤ 100 := by rw [hX]; simp; omega
  have HX := κ hX
  clear hX
  go_quiet ((go_at_call 23; exact Calls.quiet_of (rput_any _ _ (by (try simp only [List.length_append, List.length_cons, List.length_nil]); omega) (by assumption) (by unfold inI at *; omega) _)))
  have b4 := κ (Below.drewN' b3.out nq)
  clear b3 o3
  go_upto_region 12 with fail
  have u4 : (w3.drewN nq).cell? ⟨gO, 3, none⟩ = some (.int .i64 p) := o4
  have u5 : (w3.drewN nq).cell? ⟨gO, 4, none⟩ = some (.int .i64 q) := o5
  have u6 : (w3.drewN nq).cell? ⟨gO, 5, none⟩ = some (.int .i64 n) := o6
  have u7 : (w3.drewN nq).cell? ⟨gO, 6, none⟩ = some (.int .i64 t) := o7
  clear o0 o1 o2 o4 o5 o6 o7
  generalize w3.drewN nq = w4 at u4 u5 u6 u7 b4 ⊢
  rename Nat => nq0
  go_quiet ((go_at_call 23; exact Calls.quiet_of (rput_any _ _ (by (try simp only [List.length_append, List.length_cons, List.length_nil]); omega) (by assumption) (by unfold inI at *; omega) _)))
  go_wp2_with fail
  go_ret
  exact ⟨ret_eq (congrArg (fun l => sv l) (by rw [HX.out, join_cons]; simp [joinTail, wOrder, sideL, wSell])), Below.drewN' b4.out _⟩
theorem rline0f (a s : Int) (p q n t i y z v : Int) (w : World) (hw : WfM (⟨0, a, s, false, p, q, n, t, i, y, z, v⟩ : M)) (hr : rightM (⟨0, a, s, false, p, q, n, t, i, y, z, v⟩ : M) = true) : Calls Tryz.prog 10 #[mvl (⟨0, a, s, false, p, q, n, t, i, y, z, v⟩ : M)] w (MadeS (lineL (⟨0, a, s, false, p, q, n, t, i, y, z, v⟩ : M)) w) := by
  obtain ⟨_, _, _, ⟨ha, _⟩, ⟨hs, _⟩, ⟨hz, _⟩, ⟨hi, _⟩, hp, hq, hn, ht, hy, hv⟩ := rightM_of hr
  obtain ⟨_, ia, is, ip, iq, iN, it, ii, iy, iz, iv⟩ := hw
  have l1 := itoa_len ia
  have l2 := itoa_len is
  have l3 := itoa_len ip
  have l4 := itoa_len iq
  have l5 := itoa_len iN
  have l6 := itoa_len it
  have l7 := itoa_len ii
  have l8 := itoa_len iy
  have l9 := itoa_len iz
  have l10 := itoa_len iv
  simp only at ha hs hz hi hp hq hn ht hy hv ia is ip iq iN it ii iy iz iv l1 l2 l3 l4 l5 l6 l7 l8 l9 l10
  have hl : Hid (lineL (⟨0, a, s, false, p, q, n, t, i, y, z, v⟩ : M) = join [wOrder, itoa a, itoa s, sideL false, itoa p, itoa q, itoa n, itoa t] [32]) := κ (by unfold lineL; rw [if_pos hr]; rfl)
  rw [hl.out]
  have b0 := κ (β w (.cells #[.int .i64 0, .int .i64 a, .int .i64 s, .bool false, .int .i64 p, .int .i64 q, .int .i64 n, .int .i64 t, .int .i64 i, .int .i64 y, .int .i64 z, .int .i64 v] 25))
  have k0 := κ (δ w 25 #[.int .i64 0, .int .i64 a, .int .i64 s, .bool false, .int .i64 p, .int .i64 q, .int .i64 n, .int .i64 t, .int .i64 i, .int .i64 y, .int .i64 z, .int .i64 v] w.heap.size rfl)
  have hR := κ (rr_yes hr)
  clear hr hl
  rw [mvl_mk]
  go_enter Tryz.func10, Tryz.ntmps10
  obtain ⟨j0, j1, j2, j3, j4, j5, j6, j7, j8, j9, j10, j11⟩ := c12_of k0.out
  go_wp2_with fail
  clear j0 j1 j2 j3 j4 j5 j6 j7 j8 j9 j10 j11
  generalize (w.alloc (.cells #[.int .i64 0, .int .i64 a, .int .i64 s, .bool false, .int .i64 p, .int .i64 q, .int .i64 n, .int .i64 t, .int .i64 i, .int .i64 y, .int .i64 z, .int .i64 v] 25)) = w0 at b0 k0 ⊢
  generalize w.heap.size = gM at k0 ⊢
  refine (hR.out _).mono ?_
  rintro e w1 ⟨rfl, hb1⟩
  have b1 := κ (CrdB.below_step b0.out hb1)
  have k1 := κ (k0.out.below' hb1)
  clear hb1 b0 k0 hR
  have b2 := κ (b1.out.alloc b1.out.size (.cells #[.string ⟨#[111, 114, 100, 101, 114]⟩, .string ⟨#[99, 97, 110, 99, 101, 108]⟩, .string ⟨#[102, 105, 108, 108]⟩, .string ⟨#[97, 99, 107]⟩, .string ⟨#[107, 105, 108, 108]⟩, .string ⟨#[114, 101, 97, 114, 109]⟩, .string ⟨#[108, 105, 109, 105, 116]⟩] 9))
  have k2 := κ (k1.out.alloc (.cells #[.string ⟨#[111, 114, 100, 101, 114]⟩, .string ⟨#[99, 97, 110, 99, 101, 108]⟩, .string ⟨#[102, 105, 108, 108]⟩, .string ⟨#[97, 99, 107]⟩, .string ⟨#[107, 105, 108, 108]⟩, .string ⟨#[114, 101, 97, 114, 109]⟩, .string ⟨#[108, 105, 109, 105, 116]⟩] 9))
  have n2 := κ (δ w1 9 #[.string ⟨#[111, 114, 100, 101, 114]⟩, .string ⟨#[99, 97, 110, 99, 101, 108]⟩, .string ⟨#[102, 105, 108, 108]⟩, .string ⟨#[97, 99, 107]⟩, .string ⟨#[107, 105, 108, 108]⟩, .string ⟨#[114, 101, 97, 114, 109]⟩, .string ⟨#[108, 105, 109, 105, 116]⟩] w1.heap.size rfl)
  obtain ⟨j0, j1, j2, j3, j4, j5, j6, j7, j8, j9, j10, j11⟩ := c12_of k2.out
  have nm0 := n2.out.cell 0
  go_upto_region 8 with fail
  clear j0 j1 j2 j3 j4 j5 j6 j7 j8 j9 j10 j11 nm0
  have b3 := κ (b2.out.alloc b2.out.size (.cells #[.int .i64 a, .int .i64 s, .bool false, .int .i64 p, .int .i64 q, .int .i64 n, .int .i64 t] 23))
  have o3 := κ (δ (w1.alloc (.cells #[.string ⟨#[111, 114, 100, 101, 114]⟩, .string ⟨#[99, 97, 110, 99, 101, 108]⟩, .string ⟨#[102, 105, 108, 108]⟩, .string ⟨#[97, 99, 107]⟩, .string ⟨#[107, 105, 108, 108]⟩, .string ⟨#[114, 101, 97, 114, 109]⟩, .string ⟨#[108, 105, 109, 105, 116]⟩] 9)) 23 #[.int .i64 a, .int .i64 s, .bool false, .int .i64 p, .int .i64 q, .int .i64 n, .int .i64 t] (w1.heap.size + 1))
  generalize (w1.alloc (.cells #[.string ⟨#[111, 114, 100, 101, 114]⟩, .string ⟨#[99, 97, 110, 99, 101, 108]⟩, .string ⟨#[102, 105, 108, 108]⟩, .string ⟨#[97, 99, 107]⟩, .string ⟨#[107, 105, 108, 108]⟩, .string ⟨#[114, 101, 97, 114, 109]⟩, .string ⟨#[108, 105, 109, 105, 116]⟩] 9)).alloc (.cells #[.int .i64 a, .int .i64 s, .bool false, .int .i64 p, .int .i64 q, .int .i64 n, .int .i64 t] 23) = w3 at b3 o3 ⊢
  generalize w1.heap.size + 1 = gO at o3 ⊢
  clear b1 b2 k1 k2 n2
  obtain ⟨o0, o1, o2, o4, o5, o6, o7⟩ : w3.cell? ⟨gO, 0, none⟩ = some (.int .i64 a) ∧ w3.cell? ⟨gO, 1, none⟩ = some (.int .i64 s) ∧ w3.cell? ⟨gO, 2, none⟩ = some (.bool false) ∧ w3.cell? ⟨gO, 3, none⟩ = some (.int .i64 p) ∧ w3.cell? ⟨gO, 4, none⟩ = some (.int .i64 q) ∧ w3.cell? ⟨gO, 5, none⟩ = some (.int .i64 n) ∧ w3.cell? ⟨gO, 6, none⟩ = some (.int .i64 t) := ⟨o3.out.cell 0, o3.out.cell 1, o3.out.cell 2, o3.out.cell 3, o3.out.cell 4, o3.out.cell 5, o3.out.cell 6⟩
  obtain ⟨X, hX⟩ : ∃ X, X = (111 :: 114 :: 100 :: 101 :: 114 :: 32 :: (itoa a ++ 32 :: itoa s)) ++ [32, 98, 117, 121] := ⟨_, rfl⟩
  have hadd : ∀ W, (Op.stringOp .add ⟨(111 :: 114 :: 100 :: 101 :: 114 :: 32 :: (itoa a ++ 32 :: itoa s)).toArray⟩ ⟨([32, 98, 117, 121] : List UInt8).toArray⟩).run Tryz.prog W = .ok (sv X) W := fun W => by rw [hX]; exact run_string_add_lists W _ _ (by simp; omega) (by simp)
  have lX : X.length ≤ 100 := by rw [hX]; simp; omega
  have HX := κ hX
  clear hX
  go_quiet ((go_at_call 23; exact Calls.quiet_of (rput_any _ _ (by (try simp only [List.length_append, List.length_cons, List.length_nil]); omega) (by assumption) (by unfold inI at *; omega) _)))
  have b4 := κ (Below.drewN' b3.out nq)
  clear b3 o3
  go_upto_region 12 with fail
  have u4 : (w3.drewN nq).cell? ⟨gO, 3, none⟩ = some (.int .i64 p) := o4
  have u5 : (w3.drewN nq).cell? ⟨gO, 4, none⟩ = some (.int .i64 q) := o5
  have u6 : (w3.drewN nq).cell? ⟨gO, 5, none⟩ = some (.int .i64 n) := o6
  have u7 : (w3.drewN nq).cell? ⟨gO, 6, none⟩ = some (.int .i64 t) := o7
  clear o0 o1 o2 o4 o5 o6 o7
  generalize w3.drewN nq = w4 at u4 u5 u6 u7 b4 ⊢
  rename Nat => nq0
  go_quiet ((go_at_call 23; exact Calls.quiet_of (rput_any _ _ (by (try simp only [List.length_append, List.length_cons, List.length_nil]); omega) (by assumption) (by unfold inI at *; omega) _)))
  go_wp2_with fail
  go_ret
  exact ⟨ret_eq (congrArg (fun l => sv l) (by rw [HX.out, join_cons]; simp [joinTail, wOrder, sideL, wBuy])), Below.drewN' b4.out _⟩
theorem rline_no (m : M) (w : World) (hr : ¬ rightM m = true) : Calls Tryz.prog 10 #[mvl m] w (MadeS (lineL m) w) := by
  have hR := κ (rr_no hr)
  rw [line_wrong hr]
  clear hr
  obtain ⟨k, a, s, x, p, q, n, t, i, y, z, v⟩ := m
  have b0 := κ (β w (.cells #[.int .i64 k, .int .i64 a, .int .i64 s, .bool x, .int .i64 p, .int .i64 q, .int .i64 n, .int .i64 t, .int .i64 i, .int .i64 y, .int .i64 z, .int .i64 v] 25))
  have k0 := κ (δ w 25 #[.int .i64 k, .int .i64 a, .int .i64 s, .bool x, .int .i64 p, .int .i64 q, .int .i64 n, .int .i64 t, .int .i64 i, .int .i64 y, .int .i64 z, .int .i64 v] w.heap.size rfl)
  rw [mvl_mk] at hR ⊢
  go_enter Tryz.func10, Tryz.ntmps10
  obtain ⟨j0, j1, j2, j3, j4, j5, j6, j7, j8, j9, j10, j11⟩ := c12_of k0.out
  go_wp2_with fail
  clear j0 j1 j2 j3 j4 j5 j6 j7 j8 j9 j10 j11
  generalize (w.alloc (.cells #[.int .i64 k, .int .i64 a, .int .i64 s, .bool x, .int .i64 p, .int .i64 q, .int .i64 n, .int .i64 t, .int .i64 i, .int .i64 y, .int .i64 z, .int .i64 v] 25)) = w0 at b0 k0 ⊢
  refine (hR.out _).mono ?_
  rintro e w1 ⟨rfl, hb1⟩
  have b1 := κ (CrdB.below_step b0.out hb1)
  clear hb1 b0 k0 hR
  go_wp2_with fail
  go_ret
  exact ⟨rfl, b1.out⟩
theorem rline_any (m : M) (w : World) (hw : WfM m) : Calls Tryz.prog 10 #[mvl m] w (MadeS (lineL m) w) := by
  by_cases hr : rightM m = true
  · obtain ⟨h0, h6, _, _⟩ := rightM_of hr
    have hk : m.k = 0 ∨ m.k = 1 ∨ m.k = 2 ∨ m.k = 3 ∨ m.k = 4 ∨ m.k = 5 ∨ m.k = 6 := by omega
    obtain ⟨k, a, s, x, p, q, n, t, i, y, z, v⟩ := m
    rcases hk with hk | hk | hk | hk | hk | hk | hk
    all_goals
      have hk : k = _ := hk
      subst hk
    · cases x
      · exact rline0f a s p q n t i y z v w hw hr
      · exact rline0t a s p q n t i y z v w hw hr
    · exact rline1 a s x p q n t i y z v w hw hr
    · exact rline2 a s x p q n t i y z v w hw hr
    · exact rline3 a s x p q n t i y z v w hw hr
    · exact rline4 a s x p q n t i y z v w hw hr
    · exact rline5 a s x p q n t i y z v w hw hr
    · exact rline6 a s x p q n t i y z v w hw hr
  · exact rline_no m w hr
end Rsl
end Go.Proofs.YteclenloimbaeaaGreatDoor
