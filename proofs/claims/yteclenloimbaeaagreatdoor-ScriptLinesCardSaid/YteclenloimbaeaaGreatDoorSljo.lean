/- Texts side by side. -/
import Derived.Test.YteclenloimbaeaaGreatDoorSljj
import Derived.Test.YteclenloimbaeaaGreatDoorSljs
set_option linter.unusedVariables false
set_option linter.unusedSimpArgs false
set_option maxRecDepth 100000
set_option maxHeartbeats 16000000
namespace Go.Proofs.YteclenloimbaeaaGreatDoor
open Kap Go.ChangeShapes Go.WideShapes Go.ChangeAt Go.RowKit Go.Lib Mem Wpl Wmr Wrt St7 Rul6 Wfi Wto Rul3 Spa Spm Shw Sgu Slp Scf Srd Sto
namespace Slw
attribute [local go_sem high] eqP12 neP12 eqQ12 neQ12
attribute [local go_sem] undef
theorem to_x (mk ma ms mp mq mn mt mi my mz mv : Int) (mx : Bool) (W : World) : Calls Tryz.prog 8 #[.agg #[.int .i64 mk, .int .i64 ma, .int .i64 ms, .bool mx, .int .i64 mp, .int .i64 mq, .int .i64 mn, .int .i64 mt, .int .i64 mi, .int .i64 my, .int .i64 mz, .int .i64 mv]] W (fun e w' => e = .returned (.agg #[.int .i64 mk, .int .i64 ma, .int .i64 ms, .bool mx, .int .i64 mp, .int .i64 mq, .int .i64 mn, .int .i64 mt, .int .i64 mi, .int .i64 my, .int .i64 mz, .int .i64 mv]) ∧ Below W.heap.size W w') := to_any (⟨mk, ma, ms, mx, mp, mq, mn, mt, mi, my, mz, mv⟩ : M) W
theorem from_x (xk xa xs xp xq xn xt xi xy xz xv : Int) (xx : Bool) (W : World) : Calls Tryz.prog 9 #[.agg #[.int .i64 xk, .int .i64 xa, .int .i64 xs, .bool xx, .int .i64 xp, .int .i64 xq, .int .i64 xn, .int .i64 xt, .int .i64 xi, .int .i64 xy, .int .i64 xz, .int .i64 xv]] W (fun e w' => e = .returned (.agg #[.int .i64 xk, .int .i64 xa, .int .i64 xs, .bool xx, .int .i64 xp, .int .i64 xq, .int .i64 xn, .int .i64 xt, .int .i64 xi, .int .i64 xy, .int .i64 xz, .int .i64 xv]) ∧ Below W.heap.size W w') := from_any (⟨xk, xa, xs, xx, xp, xq, xn, xt, xi, xy, xz, xv⟩ : M) W
theorem len_x (l : List UInt8) : (⟨l.toArray⟩ : ByteArray).size = l.length := rfl
theorem parseP_wf (l : List UInt8) : WfM (parseP l).1 := by
  unfold parseP
  split
  · exact guessP_wf l
  · exact m0_wf
theorem parseP_line' {l : List UInt8} (h : (parseP l).2 = true) : lineL (parseP l).1 = l := by
  unfold parseP at h ⊢
  split
  · assumption
  · rename_i q
    rw [if_neg q] at h
    cases h
theorem long (l : List UInt8) (mk ma ms mp mq mn mt mi my mz mv : Int) (mx : Bool) (w : World) (hL : Hid (Lw w)) (hl : (300 : Int) < (l.length : Int)) : Calls Tryz.prog 3 #[.agg #[.int .i64 mk, .int .i64 ma, .int .i64 ms, .bool mx, .int .i64 mp, .int .i64 mq, .int .i64 mn, .int .i64 mt, .int .i64 mi, .int .i64 my, .int .i64 mz, .int .i64 mv], sv l] w (Law3.MadeB true w) := by
  have b0 := κ (β w (.cells #[.int .i64 mk, .int .i64 ma, .int .i64 ms, .bool mx, .int .i64 mp, .int .i64 mq, .int .i64 mn, .int .i64 mt, .int .i64 mi, .int .i64 my, .int .i64 mz, .int .i64 mv] 25))
  have L0 := lwb hL b0.out
  have hz := len_x l
  go_enter Tryz.func3, Tryz.ntmps3
  go_wp2_with fail
  generalize w.alloc (.cells #[.int .i64 mk, .int .i64 ma, .int .i64 ms, .bool mx, .int .i64 mp, .int .i64 mq, .int .i64 mn, .int .i64 mt, .int .i64 mi, .int .i64 my, .int .i64 mz, .int .i64 mv] 25) = w0 at b0 L0 ⊢
  refine (told13_any w0 L0).mono ?_
  rintro e w1 ⟨rfl, hb1⟩
  have b1 := κ (CrdB.below_step b0.out hb1)
  clear hb1 b0 L0
  go_wp2_with fail
  go_ret
  exact ⟨rfl, b1.out⟩
theorem short_ft (l lm : List UInt8) (mk ma ms mp mq mn mt mi my mz mv : Int) (mx : Bool) (xk xa xs xp xq xn xt xi xy xz xv : Int) (xx : Bool) (w : World) (hL : Hid (Lw w)) (hl : ¬ (300 : Int) < (l.length : Int)) (wm : Hid (WfM (⟨mk, ma, ms, mx, mp, mq, mn, mt, mi, my, mz, mv⟩ : M))) (wx : Hid (WfM (⟨xk, xa, xs, xx, xp, xq, xn, xt, xi, xy, xz, xv⟩ : M))) (hlm : Hid (lineL (⟨mk, ma, ms, mx, mp, mq, mn, mt, mi, my, mz, mv⟩ : M) = lm))
    (hP : Hid (parseP l = ((⟨xk, xa, xs, xx, xp, xq, xn, xt, xi, xy, xz, xv⟩ : M), false))) (hm : Hid (parseP lm = ((⟨mk, ma, ms, mx, mp, mq, mn, mt, mi, my, mz, mv⟩ : M), true))) (q : (lm == []) = false) (lle : (lm.length : Int) ≤ 200) : Calls Tryz.prog 3 #[.agg #[.int .i64 mk, .int .i64 ma, .int .i64 ms, .bool mx, .int .i64 mp, .int .i64 mq, .int .i64 mn, .int .i64 mt, .int .i64 mi, .int .i64 my, .int .i64 mz, .int .i64 mv], sv l] w (Law3.MadeB true w) := by
  have PX : Hid (∀ W, Hid (Lw W) → Calls Tryz.prog 5 #[sv l] W (fun e w' => e = .returned (.tuple #[.agg #[.int .i64 xk, .int .i64 xa, .int .i64 xs, .bool xx, .int .i64 xp, .int .i64 xq, .int .i64 xn, .int .i64 xt, .int .i64 xi, .int .i64 xy, .int .i64 xz, .int .i64 xv], .bool false]) ∧ Below W.heap.size W w')) := κ (fun W h => by have c := Spp.sparse_any l W h (by omega); rw [hP.out] at c; exact c)
  have PY : Hid (∀ W, Calls Tryz.prog 6 #[sv l] W (fun e w' => e = .returned (.tuple #[.agg #[.int .i64 xk, .int .i64 xa, .int .i64 xs, .bool xx, .int .i64 xp, .int .i64 xq, .int .i64 xn, .int .i64 xt, .int .i64 xi, .int .i64 xy, .int .i64 xz, .int .i64 xv], .bool false]) ∧ Below W.heap.size W w')) := κ (fun W => by have c := Rsp.rparse_any l W (by omega); rw [parse_same, hP.out] at c; exact c)
  have PZ : Hid (∀ W, Hid (Lw W) → Calls Tryz.prog 5 #[sv lm] W (fun e w' => e = .returned (.tuple #[.agg #[.int .i64 mk, .int .i64 ma, .int .i64 ms, .bool mx, .int .i64 mp, .int .i64 mq, .int .i64 mn, .int .i64 mt, .int .i64 mi, .int .i64 my, .int .i64 mz, .int .i64 mv], .bool true]) ∧ Below W.heap.size W w')) := κ (fun W h => by have c := Spp.sparse_any lm W h (by omega); rw [hm.out] at c; exact c)
  have LM : Hid (∀ W, Hid (Lw W) → Calls Tryz.prog 7 #[.agg #[.int .i64 mk, .int .i64 ma, .int .i64 ms, .bool mx, .int .i64 mp, .int .i64 mq, .int .i64 mn, .int .i64 mt, .int .i64 mi, .int .i64 my, .int .i64 mz, .int .i64 mv]] W (fun e w' => e = .returned (sv lm) ∧ Below W.heap.size W w')) := κ (fun W h => by have c := sline_any (⟨mk, ma, ms, mx, mp, mq, mn, mt, mi, my, mz, mv⟩ : M) W wm.out h; rw [hlm.out] at c; exact c)
  have RM : Hid (∀ W, Calls Tryz.prog 10 #[.agg #[.int .i64 mk, .int .i64 ma, .int .i64 ms, .bool mx, .int .i64 mp, .int .i64 mq, .int .i64 mn, .int .i64 mt, .int .i64 mi, .int .i64 my, .int .i64 mz, .int .i64 mv]] W (fun e w' => e = .returned (sv lm) ∧ Below W.heap.size W w')) := κ (fun W => by have c := Rsl.rline_any (⟨mk, ma, ms, mx, mp, mq, mn, mt, mi, my, mz, mv⟩ : M) W wm.out; rw [hlm.out] at c; exact c)
  have b0 := κ (β w (.cells #[.int .i64 mk, .int .i64 ma, .int .i64 ms, .bool mx, .int .i64 mp, .int .i64 mq, .int .i64 mn, .int .i64 mt, .int .i64 mi, .int .i64 my, .int .i64 mz, .int .i64 mv] 25))
  have k0 := κ (δ w 25 #[.int .i64 mk, .int .i64 ma, .int .i64 ms, .bool mx, .int .i64 mp, .int .i64 mq, .int .i64 mn, .int .i64 mt, .int .i64 mi, .int .i64 my, .int .i64 mz, .int .i64 mv] w.heap.size rfl)
  have L0 := lwb hL b0.out
  have hz := len_x l
  have eX : eqM (⟨xk, xa, xs, xx, xp, xq, xn, xt, xi, xy, xz, xv⟩ : M) (⟨xk, xa, xs, xx, xp, xq, xn, xt, xi, xy, xz, xv⟩ : M) = true := eqM_self _
  have eMm : eqM (⟨mk, ma, ms, mx, mp, mq, mn, mt, mi, my, mz, mv⟩ : M) (⟨mk, ma, ms, mx, mp, mq, mn, mt, mi, my, mz, mv⟩ : M) = true := eqM_self _
  clear hL hlm hP hm wm wx
  go_enter Tryz.func3, Tryz.ntmps3
  go_wp2_with fail
  clear hz
  generalize w.alloc (.cells #[.int .i64 mk, .int .i64 ma, .int .i64 ms, .bool mx, .int .i64 mp, .int .i64 mq, .int .i64 mn, .int .i64 mt, .int .i64 mi, .int .i64 my, .int .i64 mz, .int .i64 mv] 25) = w0 at b0 k0 L0 ⊢
  generalize w.heap.size = gM at k0 ⊢
  refine (PX.out w0 L0).mono ?_
  rintro e w1 ⟨rfl, hb1⟩
  have u1 := κ (hb1.alloc hb1.size (.cells #[.int .i64 xk, .int .i64 xa, .int .i64 xs, .bool xx, .int .i64 xp, .int .i64 xq, .int .i64 xn, .int .i64 xt, .int .i64 xi, .int .i64 xy, .int .i64 xz, .int .i64 xv] 29))
  have b1 := κ (CrdB.below_step b0.out u1.out)
  have k1 := κ (k0.out.below' u1.out)
  have L1 := lwb L0 u1.out
  have x1 := κ (δ w1 29 #[.int .i64 xk, .int .i64 xa, .int .i64 xs, .bool xx, .int .i64 xp, .int .i64 xq, .int .i64 xn, .int .i64 xt, .int .i64 xi, .int .i64 xy, .int .i64 xz, .int .i64 xv] w1.heap.size rfl)
  clear hb1 u1 b0 k0 L0 PX
  go_wp2_with fail
  generalize w1.alloc (.cells #[.int .i64 xk, .int .i64 xa, .int .i64 xs, .bool xx, .int .i64 xp, .int .i64 xq, .int .i64 xn, .int .i64 xt, .int .i64 xi, .int .i64 xy, .int .i64 xz, .int .i64 xv] 29) = w2 at b1 k1 L1 x1 ⊢
  generalize w1.heap.size = gX at x1 ⊢
  refine (PY.out w2).mono ?_
  rintro e w3 ⟨rfl, hb1⟩
  have u1 := κ (hb1.alloc hb1.size (.cells #[.int .i64 xk, .int .i64 xa, .int .i64 xs, .bool xx, .int .i64 xp, .int .i64 xq, .int .i64 xn, .int .i64 xt, .int .i64 xi, .int .i64 xy, .int .i64 xz, .int .i64 xv] 25))
  have b3 := κ (CrdB.below_step b1.out u1.out)
  have k3 := κ (k1.out.below' u1.out)
  have L3 := lwb L1 u1.out
  have x3 := κ (x1.out.below' u1.out)
  have y3 := κ (δ w3 25 #[.int .i64 xk, .int .i64 xa, .int .i64 xs, .bool xx, .int .i64 xp, .int .i64 xq, .int .i64 xn, .int .i64 xt, .int .i64 xi, .int .i64 xy, .int .i64 xz, .int .i64 xv] w3.heap.size rfl)
  clear hb1 u1 b1 k1 L1 x1 PY
  obtain ⟨j0, j1, j2, j3, j4, j5, j6, j7, j8, j9, j10, j11⟩ := c12_of k3.out
  go_wp2_with fail
  clear j0 j1 j2 j3 j4 j5 j6 j7 j8 j9 j10 j11
  generalize w3.alloc (.cells #[.int .i64 xk, .int .i64 xa, .int .i64 xs, .bool xx, .int .i64 xp, .int .i64 xq, .int .i64 xn, .int .i64 xt, .int .i64 xi, .int .i64 xy, .int .i64 xz, .int .i64 xv] 25) = w4 at b3 k3 L3 x3 y3 ⊢
  generalize w3.heap.size = gY at y3 ⊢
  refine (to_x mk ma ms mp mq mn mt mi my mz mv mx w4).mono ?_
  rintro e w5 ⟨rfl, hb1⟩
  have b5 := κ (CrdB.below_step b3.out hb1)
  have k5 := κ (k3.out.below' hb1)
  have L5 := lwb L3 hb1
  have x5 := κ (x3.out.below' hb1)
  have y5 := κ (y3.out.below' hb1)
  clear hb1 b3 k3 L3 x3 y3
  go_wp2_with fail
  refine (LM.out w5 L5).mono ?_
  rintro e w6 ⟨rfl, hb1⟩
  have b6 := κ (CrdB.below_step b5.out hb1)
  have k6 := κ (k5.out.below' hb1)
  have L6 := lwb L5 hb1
  have x6 := κ (x5.out.below' hb1)
  have y6 := κ (y5.out.below' hb1)
  clear hb1 b5 k5 L5 x5 y5 LM
  go_wp2_with fail
  refine (PZ.out w6 L6).mono ?_
  rintro e w7 ⟨rfl, hb1⟩
  have u1 := κ (hb1.alloc hb1.size (.cells #[.int .i64 mk, .int .i64 ma, .int .i64 ms, .bool mx, .int .i64 mp, .int .i64 mq, .int .i64 mn, .int .i64 mt, .int .i64 mi, .int .i64 my, .int .i64 mz, .int .i64 mv] 29))
  have b8 := κ (CrdB.below_step b6.out u1.out)
  have k8 := κ (k6.out.below' u1.out)
  have L8 := lwb L6 u1.out
  have x8 := κ (x6.out.below' u1.out)
  have y8 := κ (y6.out.below' u1.out)
  have z8 := κ (δ w7 29 #[.int .i64 mk, .int .i64 ma, .int .i64 ms, .bool mx, .int .i64 mp, .int .i64 mq, .int .i64 mn, .int .i64 mt, .int .i64 mi, .int .i64 my, .int .i64 mz, .int .i64 mv] w7.heap.size rfl)
  clear hb1 u1 b6 k6 L6 x6 y6 PZ
  go_upto_region 7 with fail
  generalize w7.alloc (.cells #[.int .i64 mk, .int .i64 ma, .int .i64 ms, .bool mx, .int .i64 mp, .int .i64 mq, .int .i64 mn, .int .i64 mt, .int .i64 mi, .int .i64 my, .int .i64 mz, .int .i64 mv] 29) = w8 at b8 k8 L8 x8 y8 z8 ⊢
  generalize w7.heap.size = gZ at z8 ⊢
  have b9 := κ b8.out.drew
  have S9 : Blk w8.drew gX 29 #[.int .i64 xk, .int .i64 xa, .int .i64 xs, .bool xx, .int .i64 xp, .int .i64 xq, .int .i64 xn, .int .i64 xt, .int .i64 xi, .int .i64 xy, .int .i64 xz, .int .i64 xv] ∧ Blk w8.drew gY 25 #[.int .i64 xk, .int .i64 xa, .int .i64 xs, .bool xx, .int .i64 xp, .int .i64 xq, .int .i64 xn, .int .i64 xt, .int .i64 xi, .int .i64 xy, .int .i64 xz, .int .i64 xv] ∧ Blk w8.drew gM 25 #[.int .i64 mk, .int .i64 ma, .int .i64 ms, .bool mx, .int .i64 mp, .int .i64 mq, .int .i64 mn, .int .i64 mt, .int .i64 mi, .int .i64 my, .int .i64 mz, .int .i64 mv] ∧ Blk w8.drew gZ 29 #[.int .i64 mk, .int .i64 ma, .int .i64 ms, .bool mx, .int .i64 mp, .int .i64 mq, .int .i64 mn, .int .i64 mt, .int .i64 mi, .int .i64 my, .int .i64 mz, .int .i64 mv] := ⟨x8.out, y8.out, k8.out, z8.out⟩
  have L9 := lwb L8 (Below.refl w8.heap.size w8).drew
  clear b8 k8 L8 x8 y8 z8
  refine wp_region_held_drew (S := (fun w' => Blk w' gX 29 #[.int .i64 xk, .int .i64 xa, .int .i64 xs, .bool xx, .int .i64 xp, .int .i64 xq, .int .i64 xn, .int .i64 xt, .int .i64 xi, .int .i64 xy, .int .i64 xz, .int .i64 xv] ∧ Blk w' gY 25 #[.int .i64 xk, .int .i64 xa, .int .i64 xs, .bool xx, .int .i64 xp, .int .i64 xq, .int .i64 xn, .int .i64 xt, .int .i64 xi, .int .i64 xy, .int .i64 xz, .int .i64 xv] ∧ Blk w' gM 25 #[.int .i64 mk, .int .i64 ma, .int .i64 ms, .bool mx, .int .i64 mp, .int .i64 mq, .int .i64 mn, .int .i64 mt, .int .i64 mi, .int .i64 my, .int .i64 mz, .int .i64 mv] ∧ Blk w' gZ 29 #[.int .i64 mk, .int .i64 ma, .int .i64 ms, .bool mx, .int .i64 mp, .int .i64 mq, .int .i64 mn, .int .i64 mt, .int .i64 mi, .int .i64 my, .int .i64 mz, .int .i64 mv])) (by kernel_rfl) S9 (fun hHeld => ?_)
  refine wpAnyH_ready (rs := [0]) (by kernel_rfl) (by simp) ?_
  refine AllReadyH.cons rfl (fun K' hK => ?_) AllReadyH.nil
  go_simp
  refine (told13_any _ L9).mono ?_
  rintro e w10 ⟨rfl, hb⟩
  have S10 : Blk w10 gX 29 #[.int .i64 xk, .int .i64 xa, .int .i64 xs, .bool xx, .int .i64 xp, .int .i64 xq, .int .i64 xn, .int .i64 xt, .int .i64 xi, .int .i64 xy, .int .i64 xz, .int .i64 xv] ∧ Blk w10 gY 25 #[.int .i64 xk, .int .i64 xa, .int .i64 xs, .bool xx, .int .i64 xp, .int .i64 xq, .int .i64 xn, .int .i64 xt, .int .i64 xi, .int .i64 xy, .int .i64 xz, .int .i64 xv] ∧ Blk w10 gM 25 #[.int .i64 mk, .int .i64 ma, .int .i64 ms, .bool mx, .int .i64 mp, .int .i64 mq, .int .i64 mn, .int .i64 mt, .int .i64 mi, .int .i64 my, .int .i64 mz, .int .i64 mv] ∧ Blk w10 gZ 29 #[.int .i64 mk, .int .i64 ma, .int .i64 ms, .bool mx, .int .i64 mp, .int .i64 mq, .int .i64 mn, .int .i64 mt, .int .i64 mi, .int .i64 my, .int .i64 mz, .int .i64 mv] := ⟨S9.1.below' hb, S9.2.1.below' hb, S9.2.2.1.below' hb, S9.2.2.2.below' hb⟩
  have b10 := κ (CrdB.below_step b9.out hb)
  have L10 := lwb L9 hb
  clear hb b9 L9 S9
  go_wp2_with fail
  refine hK.out _ _ S10 (fun hHeld => ?_)
  clear hK K'
  (try simp only [Act.put, List.getElem_toArray, List.getElem_cons_succ, List.getElem_cons_zero, List.setIfInBounds_toArray, List.set_cons_zero, List.set_cons_succ])
  refine wpAnyH_take (i := 1) (v := ?_) rfl (by kernel_rfl) (by kernel_rfl) (by kernel_rfl) (fun _ _ _ h => h) (Or.inl ⟨by rfl, ?_⟩) (by assumption) ?_
  rotate_left
  · intro w' hSw
    (try dsimp only at hSw)
    go_simp
    try with_reducible rfl
  (try simp only [Act.put, List.getElem_toArray, List.getElem_cons_succ, List.getElem_cons_zero, List.setIfInBounds_toArray, List.set_cons_zero, List.set_cons_succ])
  refine wpAnyH_take (i := 2) (v := ?_) rfl (by kernel_rfl) (by kernel_rfl) (by kernel_rfl) (fun _ _ _ h => h) (Or.inl ⟨by rfl, ?_⟩) (by assumption) ?_
  rotate_left
  · intro w' hSw
    (try dsimp only at hSw)
    go_simp
    try with_reducible rfl
  (try simp only [Act.put, List.getElem_toArray, List.getElem_cons_succ, List.getElem_cons_zero, List.setIfInBounds_toArray, List.set_cons_zero, List.set_cons_succ])
  refine wpAnyH_take (i := 3) (v := ?_) rfl (by kernel_rfl) (by kernel_rfl) (by kernel_rfl) (fun _ _ _ h => h) (Or.inl ⟨by rfl, ?_⟩) (by assumption) ?_
  rotate_left
  · intro w' hSw
    (try dsimp only at hSw)
    obtain ⟨j0, j1, j2, j3, j4, j5, j6, j7, j8, j9, j10, j11⟩ := c12_of hSw.1
    go_simp
    try with_reducible rfl
  (try simp only [Act.put, List.getElem_toArray, List.getElem_cons_succ, List.getElem_cons_zero, List.setIfInBounds_toArray, List.set_cons_zero, List.set_cons_succ])
  refine wpAnyH_take (i := 5) (v := ?_) rfl (by kernel_rfl) (by kernel_rfl) (by kernel_rfl) (fun _ _ _ h => h) (Or.inl ⟨by rfl, ?_⟩) (by assumption) ?_
  rotate_left
  · intro w' hSw
    (try dsimp only at hSw)
    obtain ⟨j0, j1, j2, j3, j4, j5, j6, j7, j8, j9, j10, j11⟩ := c12_of hSw.2.1
    go_simp
    try with_reducible rfl
  (try simp only [Act.put, List.getElem_toArray, List.getElem_cons_succ, List.getElem_cons_zero, List.setIfInBounds_toArray, List.set_cons_zero, List.set_cons_succ])
  refine wpAnyH_ready (rs := [4]) (by kernel_rfl) (by simp) ?_
  refine AllReadyH.cons rfl (fun K' hK => ?_) AllReadyH.nil
  go_simp
  refine (from_x xk xa xs xp xq xn xt xi xy xz xv xx _).mono ?_
  rintro e w11 ⟨rfl, hb⟩
  have S11 : Blk w11 gX 29 #[.int .i64 xk, .int .i64 xa, .int .i64 xs, .bool xx, .int .i64 xp, .int .i64 xq, .int .i64 xn, .int .i64 xt, .int .i64 xi, .int .i64 xy, .int .i64 xz, .int .i64 xv] ∧ Blk w11 gY 25 #[.int .i64 xk, .int .i64 xa, .int .i64 xs, .bool xx, .int .i64 xp, .int .i64 xq, .int .i64 xn, .int .i64 xt, .int .i64 xi, .int .i64 xy, .int .i64 xz, .int .i64 xv] ∧ Blk w11 gM 25 #[.int .i64 mk, .int .i64 ma, .int .i64 ms, .bool mx, .int .i64 mp, .int .i64 mq, .int .i64 mn, .int .i64 mt, .int .i64 mi, .int .i64 my, .int .i64 mz, .int .i64 mv] ∧ Blk w11 gZ 29 #[.int .i64 mk, .int .i64 ma, .int .i64 ms, .bool mx, .int .i64 mp, .int .i64 mq, .int .i64 mn, .int .i64 mt, .int .i64 mi, .int .i64 my, .int .i64 mz, .int .i64 mv] := ⟨S10.1.below' hb, S10.2.1.below' hb, S10.2.2.1.below' hb, S10.2.2.2.below' hb⟩
  have b11 := κ (CrdB.below_step b10.out hb)
  have L11 := lwb L10 hb
  clear hb b10 L10 S10
  go_wp2_with fail
  refine hK.out _ _ S11 (fun hHeld => ?_)
  clear hK K'
  (try simp only [Act.put, List.getElem_toArray, List.getElem_cons_succ, List.getElem_cons_zero, List.setIfInBounds_toArray, List.set_cons_zero, List.set_cons_succ])
  refine wpAnyH_take (i := 6) (v := ?_) rfl (by kernel_rfl) (by kernel_rfl) (by kernel_rfl) (fun _ _ _ h => h) (Or.inl ⟨by rfl, ?_⟩) (by assumption) ?_
  rotate_left
  · intro w' hSw
    (try dsimp only at hSw)
    go_simp
    try with_reducible rfl
  (try simp only [Act.put, List.getElem_toArray, List.getElem_cons_succ, List.getElem_cons_zero, List.setIfInBounds_toArray, List.set_cons_zero, List.set_cons_succ])
  refine wpAnyH_take (i := 7) (v := ?_) rfl (by kernel_rfl) (by kernel_rfl) (by kernel_rfl) (fun _ _ _ h => h) (Or.inl ⟨by rfl, ?_⟩) (by assumption) ?_
  rotate_left
  · intro w' hSw
    (try dsimp only at hSw)
    go_simp
    try with_reducible rfl
  (try simp only [Act.put, List.getElem_toArray, List.getElem_cons_succ, List.getElem_cons_zero, List.setIfInBounds_toArray, List.set_cons_zero, List.set_cons_succ])
  refine wpAnyH_take (i := 8) (v := ?_) rfl (by kernel_rfl) (by kernel_rfl) (by kernel_rfl) (fun _ _ _ h => h) (Or.inl ⟨by rfl, ?_⟩) (by assumption) ?_
  rotate_left
  · intro w' hSw
    (try dsimp only at hSw)
    go_simp
    try with_reducible rfl
  (try simp only [Act.put, List.getElem_toArray, List.getElem_cons_succ, List.getElem_cons_zero, List.setIfInBounds_toArray, List.set_cons_zero, List.set_cons_succ])
  refine wpAnyH_take (i := 9) (v := ?_) rfl (by kernel_rfl) (by kernel_rfl) (by kernel_rfl) (fun _ _ _ h => h) (Or.inl ⟨by rfl, ?_⟩) (by assumption) ?_
  rotate_left
  · intro w' hSw
    (try dsimp only at hSw)
    go_simp
    try with_reducible rfl
  (try simp only [Act.put, List.getElem_toArray, List.getElem_cons_succ, List.getElem_cons_zero, List.setIfInBounds_toArray, List.set_cons_zero, List.set_cons_succ])
  refine wpAnyH_take (i := 10) (v := ?_) rfl (by kernel_rfl) (by kernel_rfl) (by kernel_rfl) (fun _ _ _ h => h) (Or.inl ⟨by rfl, ?_⟩) (by assumption) ?_
  rotate_left
  · intro w' hSw
    (try dsimp only at hSw)
    go_simp
    try with_reducible rfl
  (try simp only [Act.put, List.getElem_toArray, List.getElem_cons_succ, List.getElem_cons_zero, List.setIfInBounds_toArray, List.set_cons_zero, List.set_cons_succ])
  refine wpAnyH_take (i := 11) (v := ?_) rfl (by kernel_rfl) (by kernel_rfl) (by kernel_rfl) (fun _ _ _ h => h) (Or.inl ⟨by rfl, ?_⟩) (by assumption) ?_
  rotate_left
  · intro w' hSw
    (try dsimp only at hSw)
    go_simp
    try with_reducible rfl
  (try simp only [Act.put, List.getElem_toArray, List.getElem_cons_succ, List.getElem_cons_zero, List.setIfInBounds_toArray, List.set_cons_zero, List.set_cons_succ])
  refine wpAnyH_take (i := 12) (v := ?_) rfl (by kernel_rfl) (by kernel_rfl) (by kernel_rfl) (fun _ _ _ h => h) (Or.inl ⟨by rfl, ?_⟩) (by assumption) ?_
  rotate_left
  · intro w' hSw
    (try dsimp only at hSw)
    go_simp
    try with_reducible rfl
  (try simp only [Act.put, List.getElem_toArray, List.getElem_cons_succ, List.getElem_cons_zero, List.setIfInBounds_toArray, List.set_cons_zero, List.set_cons_succ])
  refine wpAnyH_take (i := 13) (v := ?_) rfl (by kernel_rfl) (by kernel_rfl) (by kernel_rfl) (fun _ _ _ h => h) (Or.inl ⟨by rfl, ?_⟩) (by assumption) ?_
  rotate_left
  · intro w' hSw
    (try dsimp only at hSw)
    go_simp
    try with_reducible rfl
  (try simp only [Act.put, List.getElem_toArray, List.getElem_cons_succ, List.getElem_cons_zero, List.setIfInBounds_toArray, List.set_cons_zero, List.set_cons_succ])
  refine wpAnyH_take (i := 14) (v := ?_) rfl (by kernel_rfl) (by kernel_rfl) (by kernel_rfl) (fun _ _ _ h => h) (Or.inl ⟨by rfl, ?_⟩) (by assumption) ?_
  rotate_left
  · intro w' hSw
    (try dsimp only at hSw)
    go_simp
    try with_reducible rfl
  (try simp only [Act.put, List.getElem_toArray, List.getElem_cons_succ, List.getElem_cons_zero, List.setIfInBounds_toArray, List.set_cons_zero, List.set_cons_succ])
  refine wpAnyH_take (i := 15) (v := ?_) rfl (by kernel_rfl) (by kernel_rfl) (by kernel_rfl) (fun _ _ _ h => h) (Or.inl ⟨by rfl, ?_⟩) (by assumption) ?_
  rotate_left
  · intro w' hSw
    (try dsimp only at hSw)
    go_simp
    try with_reducible rfl
  (try simp only [Act.put, List.getElem_toArray, List.getElem_cons_succ, List.getElem_cons_zero, List.setIfInBounds_toArray, List.set_cons_zero, List.set_cons_succ])
  refine wpAnyH_take (i := 16) (v := undef) rfl (by kernel_rfl) (by kernel_rfl) (by kernel_rfl) (fun _ _ _ h => h) (Or.inr ⟨by rfl, rfl⟩) (by assumption) ?_
  (try simp only [Act.put, List.getElem_toArray, List.getElem_cons_succ, List.getElem_cons_zero, List.setIfInBounds_toArray, List.set_cons_zero, List.set_cons_succ])
  refine wpAnyH_take (i := 17) (v := undef) rfl (by kernel_rfl) (by kernel_rfl) (by kernel_rfl) (fun _ _ _ h => h) (Or.inr ⟨by rfl, rfl⟩) (by assumption) ?_
  (try simp only [Act.put, List.getElem_toArray, List.getElem_cons_succ, List.getElem_cons_zero, List.setIfInBounds_toArray, List.set_cons_zero, List.set_cons_succ])
  refine wpAnyH_take (i := 18) (v := undef) rfl (by kernel_rfl) (by kernel_rfl) (by kernel_rfl) (fun _ _ _ h => h) (Or.inr ⟨by rfl, rfl⟩) (by assumption) ?_
  (try simp only [Act.put, List.getElem_toArray, List.getElem_cons_succ, List.getElem_cons_zero, List.setIfInBounds_toArray, List.set_cons_zero, List.set_cons_succ])
  refine wpAnyH_take (i := 19) (v := undef) rfl (by kernel_rfl) (by kernel_rfl) (by kernel_rfl) (fun _ _ _ h => h) (Or.inr ⟨by rfl, rfl⟩) (by assumption) ?_
  (try simp only [Act.put, List.getElem_toArray, List.getElem_cons_succ, List.getElem_cons_zero, List.setIfInBounds_toArray, List.set_cons_zero, List.set_cons_succ])
  refine wpAnyH_take (i := 20) (v := ?_) rfl (by kernel_rfl) (by kernel_rfl) (by kernel_rfl) (fun _ _ _ h => h) (Or.inl ⟨by rfl, ?_⟩) (by assumption) ?_
  rotate_left
  · intro w' hSw
    (try dsimp only at hSw)
    go_simp
    try with_reducible rfl
  (try simp only [Act.put, List.getElem_toArray, List.getElem_cons_succ, List.getElem_cons_zero, List.setIfInBounds_toArray, List.set_cons_zero, List.set_cons_succ])
  refine wpAnyH_take (i := 21) (v := ?_) rfl (by kernel_rfl) (by kernel_rfl) (by kernel_rfl) (fun _ _ _ h => h) (Or.inl ⟨by rfl, ?_⟩) (by assumption) ?_
  rotate_left
  · intro w' hSw
    (try dsimp only at hSw)
    go_simp
    try with_reducible rfl
  (try simp only [Act.put, List.getElem_toArray, List.getElem_cons_succ, List.getElem_cons_zero, List.setIfInBounds_toArray, List.set_cons_zero, List.set_cons_succ])
  refine wpAnyH_take (i := 22) (v := ?_) rfl (by kernel_rfl) (by kernel_rfl) (by kernel_rfl) (fun _ _ _ h => h) (Or.inl ⟨by rfl, ?_⟩) (by assumption) ?_
  rotate_left
  · intro w' hSw
    (try dsimp only at hSw)
    go_simp
    try with_reducible rfl
  (try simp only [Act.put, List.getElem_toArray, List.getElem_cons_succ, List.getElem_cons_zero, List.setIfInBounds_toArray, List.set_cons_zero, List.set_cons_succ])
  refine wpAnyH_take (i := 23) (v := ?_) rfl (by kernel_rfl) (by kernel_rfl) (by kernel_rfl) (fun _ _ _ h => h) (Or.inl ⟨by rfl, ?_⟩) (by assumption) ?_
  rotate_left
  · intro w' hSw
    (try dsimp only at hSw)
    go_simp
    try with_reducible rfl
  (try simp only [Act.put, List.getElem_toArray, List.getElem_cons_succ, List.getElem_cons_zero, List.setIfInBounds_toArray, List.set_cons_zero, List.set_cons_succ])
  refine wpAnyH_take (i := 24) (v := ?_) rfl (by kernel_rfl) (by kernel_rfl) (by kernel_rfl) (fun _ _ _ h => h) (Or.inl ⟨by rfl, ?_⟩) (by assumption) ?_
  rotate_left
  · intro w' hSw
    (try dsimp only at hSw)
    obtain ⟨j0, j1, j2, j3, j4, j5, j6, j7, j8, j9, j10, j11⟩ := c12_of hSw.2.2.1
    go_simp
    try with_reducible rfl
  (try simp only [Act.put, List.getElem_toArray, List.getElem_cons_succ, List.getElem_cons_zero, List.setIfInBounds_toArray, List.set_cons_zero, List.set_cons_succ])
  refine wpAnyH_ready (rs := [25]) (by kernel_rfl) (by simp) ?_
  refine AllReadyH.cons rfl (fun K' hK => ?_) AllReadyH.nil
  go_simp
  refine (RM.out _).mono ?_
  rintro e w12 ⟨rfl, hb⟩
  have S12 : Blk w12 gX 29 #[.int .i64 xk, .int .i64 xa, .int .i64 xs, .bool xx, .int .i64 xp, .int .i64 xq, .int .i64 xn, .int .i64 xt, .int .i64 xi, .int .i64 xy, .int .i64 xz, .int .i64 xv] ∧ Blk w12 gY 25 #[.int .i64 xk, .int .i64 xa, .int .i64 xs, .bool xx, .int .i64 xp, .int .i64 xq, .int .i64 xn, .int .i64 xt, .int .i64 xi, .int .i64 xy, .int .i64 xz, .int .i64 xv] ∧ Blk w12 gM 25 #[.int .i64 mk, .int .i64 ma, .int .i64 ms, .bool mx, .int .i64 mp, .int .i64 mq, .int .i64 mn, .int .i64 mt, .int .i64 mi, .int .i64 my, .int .i64 mz, .int .i64 mv] ∧ Blk w12 gZ 29 #[.int .i64 mk, .int .i64 ma, .int .i64 ms, .bool mx, .int .i64 mp, .int .i64 mq, .int .i64 mn, .int .i64 mt, .int .i64 mi, .int .i64 my, .int .i64 mz, .int .i64 mv] := ⟨S11.1.below' hb, S11.2.1.below' hb, S11.2.2.1.below' hb, S11.2.2.2.below' hb⟩
  have b12 := κ (CrdB.below_step b11.out hb)
  have L12 := lwb L11 hb
  clear hb b11 L11 S11
  go_wp2_with fail
  refine hK.out _ _ S12 (fun hHeld => ?_)
  clear hK K'
  (try simp only [Act.put, List.getElem_toArray, List.getElem_cons_succ, List.getElem_cons_zero, List.setIfInBounds_toArray, List.set_cons_zero, List.set_cons_succ])
  refine wpAnyH_take (i := 26) (v := ?_) rfl (by kernel_rfl) (by kernel_rfl) (by kernel_rfl) (fun _ _ _ h => h) (Or.inl ⟨by rfl, ?_⟩) (by assumption) ?_
  rotate_left
  · intro w' hSw
    (try dsimp only at hSw)
    go_simp
    try with_reducible rfl
  (try simp only [Act.put, List.getElem_toArray, List.getElem_cons_succ, List.getElem_cons_zero, List.setIfInBounds_toArray, List.set_cons_zero, List.set_cons_succ])
  refine wpAnyH_take (i := 27) (v := ?_) rfl (by kernel_rfl) (by kernel_rfl) (by kernel_rfl) (fun _ _ _ h => h) (Or.inl ⟨by rfl, ?_⟩) (by assumption) ?_
  rotate_left
  · intro w' hSw
    (try dsimp only at hSw)
    go_simp
    try with_reducible rfl
  (try simp only [Act.put, List.getElem_toArray, List.getElem_cons_succ, List.getElem_cons_zero, List.setIfInBounds_toArray, List.set_cons_zero, List.set_cons_succ])
  refine wpAnyH_take (i := 28) (v := ?_) rfl (by kernel_rfl) (by kernel_rfl) (by kernel_rfl) (fun _ _ _ h => h) (Or.inl ⟨by rfl, ?_⟩) (by assumption) ?_
  rotate_left
  · intro w' hSw
    (try dsimp only at hSw)
    go_simp
    try with_reducible rfl
  (try simp only [Act.put, List.getElem_toArray, List.getElem_cons_succ, List.getElem_cons_zero, List.setIfInBounds_toArray, List.set_cons_zero, List.set_cons_succ])
  refine wpAnyH_take (i := 29) (v := ?_) rfl (by kernel_rfl) (by kernel_rfl) (by kernel_rfl) (fun _ _ _ h => h) (Or.inl ⟨by rfl, ?_⟩) (by assumption) ?_
  rotate_left
  · intro w' hSw
    (try dsimp only at hSw)
    go_simp
    try with_reducible rfl
  (try simp only [Act.put, List.getElem_toArray, List.getElem_cons_succ, List.getElem_cons_zero, List.setIfInBounds_toArray, List.set_cons_zero, List.set_cons_succ])
  refine wpAnyH_take (i := 30) (v := ?_) rfl (by kernel_rfl) (by kernel_rfl) (by kernel_rfl) (fun _ _ _ h => h) (Or.inl ⟨by rfl, ?_⟩) (by assumption) ?_
  rotate_left
  · intro w' hSw
    (try dsimp only at hSw)
    go_simp
    try with_reducible rfl
  (try simp only [Act.put, List.getElem_toArray, List.getElem_cons_succ, List.getElem_cons_zero, List.setIfInBounds_toArray, List.set_cons_zero, List.set_cons_succ])
  refine wpAnyH_take (i := 31) (v := ?_) rfl (by kernel_rfl) (by kernel_rfl) (by kernel_rfl) (fun _ _ _ h => h) (Or.inl ⟨by rfl, ?_⟩) (by assumption) ?_
  rotate_left
  · intro w' hSw
    (try dsimp only at hSw)
    go_simp
    try with_reducible rfl
  (try simp only [Act.put, List.getElem_toArray, List.getElem_cons_succ, List.getElem_cons_zero, List.setIfInBounds_toArray, List.set_cons_zero, List.set_cons_succ])
  refine wpAnyH_take (i := 32) (v := ?_) rfl (by kernel_rfl) (by kernel_rfl) (by kernel_rfl) (fun _ _ _ h => h) (Or.inl ⟨by rfl, ?_⟩) (by assumption) ?_
  rotate_left
  · intro w' hSw
    (try dsimp only at hSw)
    go_simp
    try with_reducible rfl
  (try simp only [Act.put, List.getElem_toArray, List.getElem_cons_succ, List.getElem_cons_zero, List.setIfInBounds_toArray, List.set_cons_zero, List.set_cons_succ])
  refine wpAnyH_take (i := 33) (v := ?_) rfl (by kernel_rfl) (by kernel_rfl) (by kernel_rfl) (fun _ _ _ h => h) (Or.inl ⟨by rfl, ?_⟩) (by assumption) ?_
  rotate_left
  · intro w' hSw
    (try dsimp only at hSw)
    go_simp
    try with_reducible rfl
  (try simp only [Act.put, List.getElem_toArray, List.getElem_cons_succ, List.getElem_cons_zero, List.setIfInBounds_toArray, List.set_cons_zero, List.set_cons_succ])
  refine wpAnyH_done (by kernel_rfl) ?_ _
  go_upto_region 9 with fail
  have b20 := κ b12.out.drew
  have S20 : Blk w12.drew gX 29 #[.int .i64 xk, .int .i64 xa, .int .i64 xs, .bool xx, .int .i64 xp, .int .i64 xq, .int .i64 xn, .int .i64 xt, .int .i64 xi, .int .i64 xy, .int .i64 xz, .int .i64 xv] ∧ Blk w12.drew gY 25 #[.int .i64 xk, .int .i64 xa, .int .i64 xs, .bool xx, .int .i64 xp, .int .i64 xq, .int .i64 xn, .int .i64 xt, .int .i64 xi, .int .i64 xy, .int .i64 xz, .int .i64 xv] ∧ Blk w12.drew gM 25 #[.int .i64 mk, .int .i64 ma, .int .i64 ms, .bool mx, .int .i64 mp, .int .i64 mq, .int .i64 mn, .int .i64 mt, .int .i64 mi, .int .i64 my, .int .i64 mz, .int .i64 mv] ∧ Blk w12.drew gZ 29 #[.int .i64 mk, .int .i64 ma, .int .i64 ms, .bool mx, .int .i64 mp, .int .i64 mq, .int .i64 mn, .int .i64 mt, .int .i64 mi, .int .i64 my, .int .i64 mz, .int .i64 mv] := S12
  have L20 := lwb L12 (Below.refl w12.heap.size w12).drew
  clear b12 S12 L12
  refine wp_region_held_drew (S := (fun w' => Blk w' gX 29 #[.int .i64 xk, .int .i64 xa, .int .i64 xs, .bool xx, .int .i64 xp, .int .i64 xq, .int .i64 xn, .int .i64 xt, .int .i64 xi, .int .i64 xy, .int .i64 xz, .int .i64 xv] ∧ Blk w' gY 25 #[.int .i64 xk, .int .i64 xa, .int .i64 xs, .bool xx, .int .i64 xp, .int .i64 xq, .int .i64 xn, .int .i64 xt, .int .i64 xi, .int .i64 xy, .int .i64 xz, .int .i64 xv] ∧ Blk w' gM 25 #[.int .i64 mk, .int .i64 ma, .int .i64 ms, .bool mx, .int .i64 mp, .int .i64 mq, .int .i64 mn, .int .i64 mt, .int .i64 mi, .int .i64 my, .int .i64 mz, .int .i64 mv] ∧ Blk w' gZ 29 #[.int .i64 mk, .int .i64 ma, .int .i64 ms, .bool mx, .int .i64 mp, .int .i64 mq, .int .i64 mn, .int .i64 mt, .int .i64 mi, .int .i64 my, .int .i64 mz, .int .i64 mv])) (by kernel_rfl) S20 (fun hHeld => ?_)
  refine wpAnyH_take (i := 0) (v := ?_) rfl (by kernel_rfl) (by kernel_rfl) (by kernel_rfl) (fun _ _ _ h => h) (Or.inl ⟨by rfl, ?_⟩) (by assumption) ?_
  rotate_left
  · intro w' hSw
    (try dsimp only at hSw)
    go_simp
    try with_reducible rfl
  (try simp only [Act.put, List.getElem_toArray, List.getElem_cons_succ, List.getElem_cons_zero, List.setIfInBounds_toArray, List.set_cons_zero, List.set_cons_succ])
  refine wpAnyH_take (i := 1) (v := ?_) rfl (by kernel_rfl) (by kernel_rfl) (by kernel_rfl) (fun _ _ _ h => h) (Or.inl ⟨by rfl, ?_⟩) (by assumption) ?_
  rotate_left
  · intro w' hSw
    (try dsimp only at hSw)
    go_simp
    try with_reducible rfl
  (try simp only [Act.put, List.getElem_toArray, List.getElem_cons_succ, List.getElem_cons_zero, List.setIfInBounds_toArray, List.set_cons_zero, List.set_cons_succ])
  refine wpAnyH_take (i := 2) (v := ?_) rfl (by kernel_rfl) (by kernel_rfl) (by kernel_rfl) (fun _ _ _ h => h) (Or.inl ⟨by rfl, ?_⟩) (by assumption) ?_
  rotate_left
  · intro w' hSw
    (try dsimp only at hSw)
    go_simp
    try with_reducible rfl
  (try simp only [Act.put, List.getElem_toArray, List.getElem_cons_succ, List.getElem_cons_zero, List.setIfInBounds_toArray, List.set_cons_zero, List.set_cons_succ])
  refine wpAnyH_take (i := 3) (v := ?_) rfl (by kernel_rfl) (by kernel_rfl) (by kernel_rfl) (fun _ _ _ h => h) (Or.inl ⟨by rfl, ?_⟩) (by assumption) ?_
  rotate_left
  · intro w' hSw
    (try dsimp only at hSw)
    obtain ⟨j0, j1, j2, j3, j4, j5, j6, j7, j8, j9, j10, j11⟩ := c12_of hSw.2.2.2
    go_simp
    try with_reducible rfl
  (try simp only [Act.put, List.getElem_toArray, List.getElem_cons_succ, List.getElem_cons_zero, List.setIfInBounds_toArray, List.set_cons_zero, List.set_cons_succ])
  refine wpAnyH_take (i := 5) (v := ?_) rfl (by kernel_rfl) (by kernel_rfl) (by kernel_rfl) (fun _ _ _ h => h) (Or.inl ⟨by rfl, ?_⟩) (by assumption) ?_
  rotate_left
  · intro w' hSw
    (try dsimp only at hSw)
    obtain ⟨j0, j1, j2, j3, j4, j5, j6, j7, j8, j9, j10, j11⟩ := c12_of hSw.2.2.1
    go_simp
    try with_reducible rfl
  (try simp only [Act.put, List.getElem_toArray, List.getElem_cons_succ, List.getElem_cons_zero, List.setIfInBounds_toArray, List.set_cons_zero, List.set_cons_succ])
  refine wpAnyH_ready (rs := [4]) (by kernel_rfl) (by simp) ?_
  refine AllReadyH.cons rfl (fun K' hK => ?_) AllReadyH.nil
  go_simp
  refine (from_x mk ma ms mp mq mn mt mi my mz mv mx _).mono ?_
  rintro e w21 ⟨rfl, hb⟩
  have S21 : Blk w21 gX 29 #[.int .i64 xk, .int .i64 xa, .int .i64 xs, .bool xx, .int .i64 xp, .int .i64 xq, .int .i64 xn, .int .i64 xt, .int .i64 xi, .int .i64 xy, .int .i64 xz, .int .i64 xv] ∧ Blk w21 gY 25 #[.int .i64 xk, .int .i64 xa, .int .i64 xs, .bool xx, .int .i64 xp, .int .i64 xq, .int .i64 xn, .int .i64 xt, .int .i64 xi, .int .i64 xy, .int .i64 xz, .int .i64 xv] ∧ Blk w21 gM 25 #[.int .i64 mk, .int .i64 ma, .int .i64 ms, .bool mx, .int .i64 mp, .int .i64 mq, .int .i64 mn, .int .i64 mt, .int .i64 mi, .int .i64 my, .int .i64 mz, .int .i64 mv] ∧ Blk w21 gZ 29 #[.int .i64 mk, .int .i64 ma, .int .i64 ms, .bool mx, .int .i64 mp, .int .i64 mq, .int .i64 mn, .int .i64 mt, .int .i64 mi, .int .i64 my, .int .i64 mz, .int .i64 mv] := ⟨S20.1.below' hb, S20.2.1.below' hb, S20.2.2.1.below' hb, S20.2.2.2.below' hb⟩
  have b21 := κ (CrdB.below_step b20.out hb)
  have L21 := lwb L20 hb
  clear hb b20 L20 S20
  go_wp2_with fail
  refine hK.out _ _ S21 (fun hHeld => ?_)
  clear hK K'
  (try simp only [Act.put, List.getElem_toArray, List.getElem_cons_succ, List.getElem_cons_zero, List.setIfInBounds_toArray, List.set_cons_zero, List.set_cons_succ])
  refine wpAnyH_take (i := 6) (v := ?_) rfl (by kernel_rfl) (by kernel_rfl) (by kernel_rfl) (fun _ _ _ h => h) (Or.inl ⟨by rfl, ?_⟩) (by assumption) ?_
  rotate_left
  · intro w' hSw
    (try dsimp only at hSw)
    go_simp
    try with_reducible rfl
  (try simp only [Act.put, List.getElem_toArray, List.getElem_cons_succ, List.getElem_cons_zero, List.setIfInBounds_toArray, List.set_cons_zero, List.set_cons_succ])
  refine wpAnyH_take (i := 7) (v := ?_) rfl (by kernel_rfl) (by kernel_rfl) (by kernel_rfl) (fun _ _ _ h => h) (Or.inl ⟨by rfl, ?_⟩) (by assumption) ?_
  rotate_left
  · intro w' hSw
    (try dsimp only at hSw)
    go_simp
    try with_reducible rfl
  (try simp only [Act.put, List.getElem_toArray, List.getElem_cons_succ, List.getElem_cons_zero, List.setIfInBounds_toArray, List.set_cons_zero, List.set_cons_succ])
  refine wpAnyH_take (i := 8) (v := ?_) rfl (by kernel_rfl) (by kernel_rfl) (by kernel_rfl) (fun _ _ _ h => h) (Or.inl ⟨by rfl, ?_⟩) (by assumption) ?_
  rotate_left
  · intro w' hSw
    (try dsimp only at hSw)
    go_simp
    try with_reducible rfl
  (try simp only [Act.put, List.getElem_toArray, List.getElem_cons_succ, List.getElem_cons_zero, List.setIfInBounds_toArray, List.set_cons_zero, List.set_cons_succ])
  refine wpAnyH_take (i := 9) (v := ?_) rfl (by kernel_rfl) (by kernel_rfl) (by kernel_rfl) (fun _ _ _ h => h) (Or.inl ⟨by rfl, ?_⟩) (by assumption) ?_
  rotate_left
  · intro w' hSw
    (try dsimp only at hSw)
    obtain ⟨j0, j1, j2, j3, j4, j5, j6, j7, j8, j9, j10, j11⟩ := c12_of hSw.2.2.1
    go_simp
    try with_reducible rfl
  (try simp only [Act.put, List.getElem_toArray, List.getElem_cons_succ, List.getElem_cons_zero, List.setIfInBounds_toArray, List.set_cons_zero, List.set_cons_succ])
  refine wpAnyH_take (i := 11) (v := ?_) rfl (by kernel_rfl) (by kernel_rfl) (by kernel_rfl) (fun _ _ _ h => h) (Or.inl ⟨by rfl, ?_⟩) (by assumption) ?_
  rotate_left
  · intro w' hSw
    (try dsimp only at hSw)
    go_simp
    try with_reducible rfl
  (try simp only [Act.put, List.getElem_toArray, List.getElem_cons_succ, List.getElem_cons_zero, List.setIfInBounds_toArray, List.set_cons_zero, List.set_cons_succ])
  refine wpAnyH_take (i := 12) (v := ?_) rfl (by kernel_rfl) (by kernel_rfl) (by kernel_rfl) (fun _ _ _ h => h) (Or.inl ⟨by rfl, ?_⟩) (by assumption) ?_
  rotate_left
  · intro w' hSw
    (try dsimp only at hSw)
    obtain ⟨j0, j1, j2, j3, j4, j5, j6, j7, j8, j9, j10, j11⟩ := c12_of hSw.2.2.2
    go_simp
    try with_reducible rfl
  (try simp only [Act.put, List.getElem_toArray, List.getElem_cons_succ, List.getElem_cons_zero, List.setIfInBounds_toArray, List.set_cons_zero, List.set_cons_succ])
  refine wpAnyH_ready (rs := [10]) (by kernel_rfl) (by simp) ?_
  refine AllReadyH.cons rfl (fun K' hK => ?_) AllReadyH.nil
  go_simp
  refine (order_any ma ms mx mp mq mn mt _).mono ?_
  rintro e w22 ⟨rfl, hb⟩
  have S22 : Blk w22 gX 29 #[.int .i64 xk, .int .i64 xa, .int .i64 xs, .bool xx, .int .i64 xp, .int .i64 xq, .int .i64 xn, .int .i64 xt, .int .i64 xi, .int .i64 xy, .int .i64 xz, .int .i64 xv] ∧ Blk w22 gY 25 #[.int .i64 xk, .int .i64 xa, .int .i64 xs, .bool xx, .int .i64 xp, .int .i64 xq, .int .i64 xn, .int .i64 xt, .int .i64 xi, .int .i64 xy, .int .i64 xz, .int .i64 xv] ∧ Blk w22 gM 25 #[.int .i64 mk, .int .i64 ma, .int .i64 ms, .bool mx, .int .i64 mp, .int .i64 mq, .int .i64 mn, .int .i64 mt, .int .i64 mi, .int .i64 my, .int .i64 mz, .int .i64 mv] ∧ Blk w22 gZ 29 #[.int .i64 mk, .int .i64 ma, .int .i64 ms, .bool mx, .int .i64 mp, .int .i64 mq, .int .i64 mn, .int .i64 mt, .int .i64 mi, .int .i64 my, .int .i64 mz, .int .i64 mv] := ⟨S21.1.below' hb, S21.2.1.below' hb, S21.2.2.1.below' hb, S21.2.2.2.below' hb⟩
  have b22 := κ (CrdB.below_step b21.out hb)
  have L22 := lwb L21 hb
  clear hb b21 L21 S21
  go_wp2_with fail
  refine hK.out _ _ S22 (fun hHeld => ?_)
  clear hK K'
  (try simp only [Act.put, List.getElem_toArray, List.getElem_cons_succ, List.getElem_cons_zero, List.setIfInBounds_toArray, List.set_cons_zero, List.set_cons_succ])
  refine wpAnyH_take (i := 13) (v := ?_) rfl (by kernel_rfl) (by kernel_rfl) (by kernel_rfl) (fun _ _ _ h => h) (Or.inl ⟨by rfl, ?_⟩) (by assumption) ?_
  rotate_left
  · intro w' hSw
    (try dsimp only at hSw)
    go_simp
    try with_reducible rfl
  (try simp only [Act.put, List.getElem_toArray, List.getElem_cons_succ, List.getElem_cons_zero, List.setIfInBounds_toArray, List.set_cons_zero, List.set_cons_succ])
  refine wpAnyH_take (i := 14) (v := ?_) rfl (by kernel_rfl) (by kernel_rfl) (by kernel_rfl) (fun _ _ _ h => h) (Or.inl ⟨by rfl, ?_⟩) (by assumption) ?_
  rotate_left
  · intro w' hSw
    (try dsimp only at hSw)
    go_simp
    try with_reducible rfl
  (try simp only [Act.put, List.getElem_toArray, List.getElem_cons_succ, List.getElem_cons_zero, List.setIfInBounds_toArray, List.set_cons_zero, List.set_cons_succ])
  refine wpAnyH_take (i := 15) (v := ?_) rfl (by kernel_rfl) (by kernel_rfl) (by kernel_rfl) (fun _ _ _ h => h) (Or.inl ⟨by rfl, ?_⟩) (by assumption) ?_
  rotate_left
  · intro w' hSw
    (try dsimp only at hSw)
    go_simp
    try with_reducible rfl
  (try simp only [Act.put, List.getElem_toArray, List.getElem_cons_succ, List.getElem_cons_zero, List.setIfInBounds_toArray, List.set_cons_zero, List.set_cons_succ])
  refine wpAnyH_take (i := 16) (v := ?_) rfl (by kernel_rfl) (by kernel_rfl) (by kernel_rfl) (fun _ _ _ h => h) (Or.inl ⟨by rfl, ?_⟩) (by assumption) ?_
  rotate_left
  · intro w' hSw
    (try dsimp only at hSw)
    go_simp
    try with_reducible rfl
  (try simp only [Act.put, List.getElem_toArray, List.getElem_cons_succ, List.getElem_cons_zero, List.setIfInBounds_toArray, List.set_cons_zero, List.set_cons_succ])
  refine wpAnyH_done (by kernel_rfl) ?_ _
  go_wp2_with fail
  go_ret
  exact ⟨rfl, b22.out⟩
theorem short_ff (l lm : List UInt8) (mk ma ms mp mq mn mt mi my mz mv : Int) (mx : Bool) (xk xa xs xp xq xn xt xi xy xz xv : Int) (xx : Bool) (w : World) (hL : Hid (Lw w)) (hl : ¬ (300 : Int) < (l.length : Int)) (wm : Hid (WfM (⟨mk, ma, ms, mx, mp, mq, mn, mt, mi, my, mz, mv⟩ : M))) (wx : Hid (WfM (⟨xk, xa, xs, xx, xp, xq, xn, xt, xi, xy, xz, xv⟩ : M))) (hlm : Hid (lineL (⟨mk, ma, ms, mx, mp, mq, mn, mt, mi, my, mz, mv⟩ : M) = lm))
    (hP : Hid (parseP l = ((⟨xk, xa, xs, xx, xp, xq, xn, xt, xi, xy, xz, xv⟩ : M), false))) (hm : Hid (parseP lm = (m0, false))) (q : (lm == []) = true) (lle : (lm.length : Int) ≤ 200) : Calls Tryz.prog 3 #[.agg #[.int .i64 mk, .int .i64 ma, .int .i64 ms, .bool mx, .int .i64 mp, .int .i64 mq, .int .i64 mn, .int .i64 mt, .int .i64 mi, .int .i64 my, .int .i64 mz, .int .i64 mv], sv l] w (Law3.MadeB true w) := by
  have PX : Hid (∀ W, Hid (Lw W) → Calls Tryz.prog 5 #[sv l] W (fun e w' => e = .returned (.tuple #[.agg #[.int .i64 xk, .int .i64 xa, .int .i64 xs, .bool xx, .int .i64 xp, .int .i64 xq, .int .i64 xn, .int .i64 xt, .int .i64 xi, .int .i64 xy, .int .i64 xz, .int .i64 xv], .bool false]) ∧ Below W.heap.size W w')) := κ (fun W h => by have c := Spp.sparse_any l W h (by omega); rw [hP.out] at c; exact c)
  have PY : Hid (∀ W, Calls Tryz.prog 6 #[sv l] W (fun e w' => e = .returned (.tuple #[.agg #[.int .i64 xk, .int .i64 xa, .int .i64 xs, .bool xx, .int .i64 xp, .int .i64 xq, .int .i64 xn, .int .i64 xt, .int .i64 xi, .int .i64 xy, .int .i64 xz, .int .i64 xv], .bool false]) ∧ Below W.heap.size W w')) := κ (fun W => by have c := Rsp.rparse_any l W (by omega); rw [parse_same, hP.out] at c; exact c)
  have PZ : Hid (∀ W, Hid (Lw W) → Calls Tryz.prog 5 #[sv lm] W (fun e w' => e = .returned (.tuple #[.agg #[.int .i64 0, .int .i64 0, .int .i64 0, .bool false, .int .i64 0, .int .i64 0, .int .i64 0, .int .i64 0, .int .i64 0, .int .i64 0, .int .i64 0, .int .i64 0], .bool false]) ∧ Below W.heap.size W w')) := κ (fun W h => by have c := Spp.sparse_any lm W h (by omega); rw [hm.out] at c; exact c)
  have LM : Hid (∀ W, Hid (Lw W) → Calls Tryz.prog 7 #[.agg #[.int .i64 mk, .int .i64 ma, .int .i64 ms, .bool mx, .int .i64 mp, .int .i64 mq, .int .i64 mn, .int .i64 mt, .int .i64 mi, .int .i64 my, .int .i64 mz, .int .i64 mv]] W (fun e w' => e = .returned (sv lm) ∧ Below W.heap.size W w')) := κ (fun W h => by have c := sline_any (⟨mk, ma, ms, mx, mp, mq, mn, mt, mi, my, mz, mv⟩ : M) W wm.out h; rw [hlm.out] at c; exact c)
  have RM : Hid (∀ W, Calls Tryz.prog 10 #[.agg #[.int .i64 mk, .int .i64 ma, .int .i64 ms, .bool mx, .int .i64 mp, .int .i64 mq, .int .i64 mn, .int .i64 mt, .int .i64 mi, .int .i64 my, .int .i64 mz, .int .i64 mv]] W (fun e w' => e = .returned (sv lm) ∧ Below W.heap.size W w')) := κ (fun W => by have c := Rsl.rline_any (⟨mk, ma, ms, mx, mp, mq, mn, mt, mi, my, mz, mv⟩ : M) W wm.out; rw [hlm.out] at c; exact c)
  have b0 := κ (β w (.cells #[.int .i64 mk, .int .i64 ma, .int .i64 ms, .bool mx, .int .i64 mp, .int .i64 mq, .int .i64 mn, .int .i64 mt, .int .i64 mi, .int .i64 my, .int .i64 mz, .int .i64 mv] 25))
  have k0 := κ (δ w 25 #[.int .i64 mk, .int .i64 ma, .int .i64 ms, .bool mx, .int .i64 mp, .int .i64 mq, .int .i64 mn, .int .i64 mt, .int .i64 mi, .int .i64 my, .int .i64 mz, .int .i64 mv] w.heap.size rfl)
  have L0 := lwb hL b0.out
  have hz := len_x l
  have eX : eqM (⟨xk, xa, xs, xx, xp, xq, xn, xt, xi, xy, xz, xv⟩ : M) (⟨xk, xa, xs, xx, xp, xq, xn, xt, xi, xy, xz, xv⟩ : M) = true := eqM_self _
  have eMm : eqM (⟨mk, ma, ms, mx, mp, mq, mn, mt, mi, my, mz, mv⟩ : M) (⟨mk, ma, ms, mx, mp, mq, mn, mt, mi, my, mz, mv⟩ : M) = true := eqM_self _
  clear hL hlm hP hm wm wx
  go_enter Tryz.func3, Tryz.ntmps3
  go_wp2_with fail
  clear hz
  generalize w.alloc (.cells #[.int .i64 mk, .int .i64 ma, .int .i64 ms, .bool mx, .int .i64 mp, .int .i64 mq, .int .i64 mn, .int .i64 mt, .int .i64 mi, .int .i64 my, .int .i64 mz, .int .i64 mv] 25) = w0 at b0 k0 L0 ⊢
  generalize w.heap.size = gM at k0 ⊢
  refine (PX.out w0 L0).mono ?_
  rintro e w1 ⟨rfl, hb1⟩
  have u1 := κ (hb1.alloc hb1.size (.cells #[.int .i64 xk, .int .i64 xa, .int .i64 xs, .bool xx, .int .i64 xp, .int .i64 xq, .int .i64 xn, .int .i64 xt, .int .i64 xi, .int .i64 xy, .int .i64 xz, .int .i64 xv] 29))
  have b1 := κ (CrdB.below_step b0.out u1.out)
  have k1 := κ (k0.out.below' u1.out)
  have L1 := lwb L0 u1.out
  have x1 := κ (δ w1 29 #[.int .i64 xk, .int .i64 xa, .int .i64 xs, .bool xx, .int .i64 xp, .int .i64 xq, .int .i64 xn, .int .i64 xt, .int .i64 xi, .int .i64 xy, .int .i64 xz, .int .i64 xv] w1.heap.size rfl)
  clear hb1 u1 b0 k0 L0 PX
  go_wp2_with fail
  generalize w1.alloc (.cells #[.int .i64 xk, .int .i64 xa, .int .i64 xs, .bool xx, .int .i64 xp, .int .i64 xq, .int .i64 xn, .int .i64 xt, .int .i64 xi, .int .i64 xy, .int .i64 xz, .int .i64 xv] 29) = w2 at b1 k1 L1 x1 ⊢
  generalize w1.heap.size = gX at x1 ⊢
  refine (PY.out w2).mono ?_
  rintro e w3 ⟨rfl, hb1⟩
  have u1 := κ (hb1.alloc hb1.size (.cells #[.int .i64 xk, .int .i64 xa, .int .i64 xs, .bool xx, .int .i64 xp, .int .i64 xq, .int .i64 xn, .int .i64 xt, .int .i64 xi, .int .i64 xy, .int .i64 xz, .int .i64 xv] 25))
  have b3 := κ (CrdB.below_step b1.out u1.out)
  have k3 := κ (k1.out.below' u1.out)
  have L3 := lwb L1 u1.out
  have x3 := κ (x1.out.below' u1.out)
  have y3 := κ (δ w3 25 #[.int .i64 xk, .int .i64 xa, .int .i64 xs, .bool xx, .int .i64 xp, .int .i64 xq, .int .i64 xn, .int .i64 xt, .int .i64 xi, .int .i64 xy, .int .i64 xz, .int .i64 xv] w3.heap.size rfl)
  clear hb1 u1 b1 k1 L1 x1 PY
  obtain ⟨j0, j1, j2, j3, j4, j5, j6, j7, j8, j9, j10, j11⟩ := c12_of k3.out
  go_wp2_with fail
  clear j0 j1 j2 j3 j4 j5 j6 j7 j8 j9 j10 j11
  generalize w3.alloc (.cells #[.int .i64 xk, .int .i64 xa, .int .i64 xs, .bool xx, .int .i64 xp, .int .i64 xq, .int .i64 xn, .int .i64 xt, .int .i64 xi, .int .i64 xy, .int .i64 xz, .int .i64 xv] 25) = w4 at b3 k3 L3 x3 y3 ⊢
  generalize w3.heap.size = gY at y3 ⊢
  refine (to_x mk ma ms mp mq mn mt mi my mz mv mx w4).mono ?_
  rintro e w5 ⟨rfl, hb1⟩
  have b5 := κ (CrdB.below_step b3.out hb1)
  have k5 := κ (k3.out.below' hb1)
  have L5 := lwb L3 hb1
  have x5 := κ (x3.out.below' hb1)
  have y5 := κ (y3.out.below' hb1)
  clear hb1 b3 k3 L3 x3 y3
  go_wp2_with fail
  refine (LM.out w5 L5).mono ?_
  rintro e w6 ⟨rfl, hb1⟩
  have b6 := κ (CrdB.below_step b5.out hb1)
  have k6 := κ (k5.out.below' hb1)
  have L6 := lwb L5 hb1
  have x6 := κ (x5.out.below' hb1)
  have y6 := κ (y5.out.below' hb1)
  clear hb1 b5 k5 L5 x5 y5 LM
  go_wp2_with fail
  refine (PZ.out w6 L6).mono ?_
  rintro e w7 ⟨rfl, hb1⟩
  have u1 := κ (hb1.alloc hb1.size (.cells #[.int .i64 0, .int .i64 0, .int .i64 0, .bool false, .int .i64 0, .int .i64 0, .int .i64 0, .int .i64 0, .int .i64 0, .int .i64 0, .int .i64 0, .int .i64 0] 29))
  have b8 := κ (CrdB.below_step b6.out u1.out)
  have k8 := κ (k6.out.below' u1.out)
  have L8 := lwb L6 u1.out
  have x8 := κ (x6.out.below' u1.out)
  have y8 := κ (y6.out.below' u1.out)
  have z8 := κ (δ w7 29 #[.int .i64 0, .int .i64 0, .int .i64 0, .bool false, .int .i64 0, .int .i64 0, .int .i64 0, .int .i64 0, .int .i64 0, .int .i64 0, .int .i64 0, .int .i64 0] w7.heap.size rfl)
  clear hb1 u1 b6 k6 L6 x6 y6 PZ
  go_upto_region 7 with fail
  generalize w7.alloc (.cells #[.int .i64 0, .int .i64 0, .int .i64 0, .bool false, .int .i64 0, .int .i64 0, .int .i64 0, .int .i64 0, .int .i64 0, .int .i64 0, .int .i64 0, .int .i64 0] 29) = w8 at b8 k8 L8 x8 y8 z8 ⊢
  generalize w7.heap.size = gZ at z8 ⊢
  have b9 := κ b8.out.drew
  have S9 : Blk w8.drew gX 29 #[.int .i64 xk, .int .i64 xa, .int .i64 xs, .bool xx, .int .i64 xp, .int .i64 xq, .int .i64 xn, .int .i64 xt, .int .i64 xi, .int .i64 xy, .int .i64 xz, .int .i64 xv] ∧ Blk w8.drew gY 25 #[.int .i64 xk, .int .i64 xa, .int .i64 xs, .bool xx, .int .i64 xp, .int .i64 xq, .int .i64 xn, .int .i64 xt, .int .i64 xi, .int .i64 xy, .int .i64 xz, .int .i64 xv] ∧ Blk w8.drew gM 25 #[.int .i64 mk, .int .i64 ma, .int .i64 ms, .bool mx, .int .i64 mp, .int .i64 mq, .int .i64 mn, .int .i64 mt, .int .i64 mi, .int .i64 my, .int .i64 mz, .int .i64 mv] ∧ Blk w8.drew gZ 29 #[.int .i64 0, .int .i64 0, .int .i64 0, .bool false, .int .i64 0, .int .i64 0, .int .i64 0, .int .i64 0, .int .i64 0, .int .i64 0, .int .i64 0, .int .i64 0] := ⟨x8.out, y8.out, k8.out, z8.out⟩
  have L9 := lwb L8 (Below.refl w8.heap.size w8).drew
  clear b8 k8 L8 x8 y8 z8
  refine wp_region_held_drew (S := (fun w' => Blk w' gX 29 #[.int .i64 xk, .int .i64 xa, .int .i64 xs, .bool xx, .int .i64 xp, .int .i64 xq, .int .i64 xn, .int .i64 xt, .int .i64 xi, .int .i64 xy, .int .i64 xz, .int .i64 xv] ∧ Blk w' gY 25 #[.int .i64 xk, .int .i64 xa, .int .i64 xs, .bool xx, .int .i64 xp, .int .i64 xq, .int .i64 xn, .int .i64 xt, .int .i64 xi, .int .i64 xy, .int .i64 xz, .int .i64 xv] ∧ Blk w' gM 25 #[.int .i64 mk, .int .i64 ma, .int .i64 ms, .bool mx, .int .i64 mp, .int .i64 mq, .int .i64 mn, .int .i64 mt, .int .i64 mi, .int .i64 my, .int .i64 mz, .int .i64 mv] ∧ Blk w' gZ 29 #[.int .i64 0, .int .i64 0, .int .i64 0, .bool false, .int .i64 0, .int .i64 0, .int .i64 0, .int .i64 0, .int .i64 0, .int .i64 0, .int .i64 0, .int .i64 0])) (by kernel_rfl) S9 (fun hHeld => ?_)
  refine wpAnyH_ready (rs := [0]) (by kernel_rfl) (by simp) ?_
  refine AllReadyH.cons rfl (fun K' hK => ?_) AllReadyH.nil
  go_simp
  refine (told13_any _ L9).mono ?_
  rintro e w10 ⟨rfl, hb⟩
  have S10 : Blk w10 gX 29 #[.int .i64 xk, .int .i64 xa, .int .i64 xs, .bool xx, .int .i64 xp, .int .i64 xq, .int .i64 xn, .int .i64 xt, .int .i64 xi, .int .i64 xy, .int .i64 xz, .int .i64 xv] ∧ Blk w10 gY 25 #[.int .i64 xk, .int .i64 xa, .int .i64 xs, .bool xx, .int .i64 xp, .int .i64 xq, .int .i64 xn, .int .i64 xt, .int .i64 xi, .int .i64 xy, .int .i64 xz, .int .i64 xv] ∧ Blk w10 gM 25 #[.int .i64 mk, .int .i64 ma, .int .i64 ms, .bool mx, .int .i64 mp, .int .i64 mq, .int .i64 mn, .int .i64 mt, .int .i64 mi, .int .i64 my, .int .i64 mz, .int .i64 mv] ∧ Blk w10 gZ 29 #[.int .i64 0, .int .i64 0, .int .i64 0, .bool false, .int .i64 0, .int .i64 0, .int .i64 0, .int .i64 0, .int .i64 0, .int .i64 0, .int .i64 0, .int .i64 0] := ⟨S9.1.below' hb, S9.2.1.below' hb, S9.2.2.1.below' hb, S9.2.2.2.below' hb⟩
  have b10 := κ (CrdB.below_step b9.out hb)
  have L10 := lwb L9 hb
  clear hb b9 L9 S9
  go_wp2_with fail
  refine hK.out _ _ S10 (fun hHeld => ?_)
  clear hK K'
  (try simp only [Act.put, List.getElem_toArray, List.getElem_cons_succ, List.getElem_cons_zero, List.setIfInBounds_toArray, List.set_cons_zero, List.set_cons_succ])
  refine wpAnyH_take (i := 1) (v := ?_) rfl (by kernel_rfl) (by kernel_rfl) (by kernel_rfl) (fun _ _ _ h => h) (Or.inl ⟨by rfl, ?_⟩) (by assumption) ?_
  rotate_left
  · intro w' hSw
    (try dsimp only at hSw)
    go_simp
    try with_reducible rfl
  (try simp only [Act.put, List.getElem_toArray, List.getElem_cons_succ, List.getElem_cons_zero, List.setIfInBounds_toArray, List.set_cons_zero, List.set_cons_succ])
  refine wpAnyH_take (i := 2) (v := ?_) rfl (by kernel_rfl) (by kernel_rfl) (by kernel_rfl) (fun _ _ _ h => h) (Or.inl ⟨by rfl, ?_⟩) (by assumption) ?_
  rotate_left
  · intro w' hSw
    (try dsimp only at hSw)
    go_simp
    try with_reducible rfl
  (try simp only [Act.put, List.getElem_toArray, List.getElem_cons_succ, List.getElem_cons_zero, List.setIfInBounds_toArray, List.set_cons_zero, List.set_cons_succ])
  refine wpAnyH_take (i := 3) (v := ?_) rfl (by kernel_rfl) (by kernel_rfl) (by kernel_rfl) (fun _ _ _ h => h) (Or.inl ⟨by rfl, ?_⟩) (by assumption) ?_
  rotate_left
  · intro w' hSw
    (try dsimp only at hSw)
    obtain ⟨j0, j1, j2, j3, j4, j5, j6, j7, j8, j9, j10, j11⟩ := c12_of hSw.1
    go_simp
    try with_reducible rfl
  (try simp only [Act.put, List.getElem_toArray, List.getElem_cons_succ, List.getElem_cons_zero, List.setIfInBounds_toArray, List.set_cons_zero, List.set_cons_succ])
  refine wpAnyH_take (i := 5) (v := ?_) rfl (by kernel_rfl) (by kernel_rfl) (by kernel_rfl) (fun _ _ _ h => h) (Or.inl ⟨by rfl, ?_⟩) (by assumption) ?_
  rotate_left
  · intro w' hSw
    (try dsimp only at hSw)
    obtain ⟨j0, j1, j2, j3, j4, j5, j6, j7, j8, j9, j10, j11⟩ := c12_of hSw.2.1
    go_simp
    try with_reducible rfl
  (try simp only [Act.put, List.getElem_toArray, List.getElem_cons_succ, List.getElem_cons_zero, List.setIfInBounds_toArray, List.set_cons_zero, List.set_cons_succ])
  refine wpAnyH_ready (rs := [4]) (by kernel_rfl) (by simp) ?_
  refine AllReadyH.cons rfl (fun K' hK => ?_) AllReadyH.nil
  go_simp
  refine (from_x xk xa xs xp xq xn xt xi xy xz xv xx _).mono ?_
  rintro e w11 ⟨rfl, hb⟩
  have S11 : Blk w11 gX 29 #[.int .i64 xk, .int .i64 xa, .int .i64 xs, .bool xx, .int .i64 xp, .int .i64 xq, .int .i64 xn, .int .i64 xt, .int .i64 xi, .int .i64 xy, .int .i64 xz, .int .i64 xv] ∧ Blk w11 gY 25 #[.int .i64 xk, .int .i64 xa, .int .i64 xs, .bool xx, .int .i64 xp, .int .i64 xq, .int .i64 xn, .int .i64 xt, .int .i64 xi, .int .i64 xy, .int .i64 xz, .int .i64 xv] ∧ Blk w11 gM 25 #[.int .i64 mk, .int .i64 ma, .int .i64 ms, .bool mx, .int .i64 mp, .int .i64 mq, .int .i64 mn, .int .i64 mt, .int .i64 mi, .int .i64 my, .int .i64 mz, .int .i64 mv] ∧ Blk w11 gZ 29 #[.int .i64 0, .int .i64 0, .int .i64 0, .bool false, .int .i64 0, .int .i64 0, .int .i64 0, .int .i64 0, .int .i64 0, .int .i64 0, .int .i64 0, .int .i64 0] := ⟨S10.1.below' hb, S10.2.1.below' hb, S10.2.2.1.below' hb, S10.2.2.2.below' hb⟩
  have b11 := κ (CrdB.below_step b10.out hb)
  have L11 := lwb L10 hb
  clear hb b10 L10 S10
  go_wp2_with fail
  refine hK.out _ _ S11 (fun hHeld => ?_)
  clear hK K'
  (try simp only [Act.put, List.getElem_toArray, List.getElem_cons_succ, List.getElem_cons_zero, List.setIfInBounds_toArray, List.set_cons_zero, List.set_cons_succ])
  refine wpAnyH_take (i := 6) (v := ?_) rfl (by kernel_rfl) (by kernel_rfl) (by kernel_rfl) (fun _ _ _ h => h) (Or.inl ⟨by rfl, ?_⟩) (by assumption) ?_
  rotate_left
  · intro w' hSw
    (try dsimp only at hSw)
    go_simp
    try with_reducible rfl
  (try simp only [Act.put, List.getElem_toArray, List.getElem_cons_succ, List.getElem_cons_zero, List.setIfInBounds_toArray, List.set_cons_zero, List.set_cons_succ])
  refine wpAnyH_take (i := 7) (v := ?_) rfl (by kernel_rfl) (by kernel_rfl) (by kernel_rfl) (fun _ _ _ h => h) (Or.inl ⟨by rfl, ?_⟩) (by assumption) ?_
  rotate_left
  · intro w' hSw
    (try dsimp only at hSw)
    go_simp
    try with_reducible rfl
  (try simp only [Act.put, List.getElem_toArray, List.getElem_cons_succ, List.getElem_cons_zero, List.setIfInBounds_toArray, List.set_cons_zero, List.set_cons_succ])
  refine wpAnyH_take (i := 8) (v := ?_) rfl (by kernel_rfl) (by kernel_rfl) (by kernel_rfl) (fun _ _ _ h => h) (Or.inl ⟨by rfl, ?_⟩) (by assumption) ?_
  rotate_left
  · intro w' hSw
    (try dsimp only at hSw)
    go_simp
    try with_reducible rfl
  (try simp only [Act.put, List.getElem_toArray, List.getElem_cons_succ, List.getElem_cons_zero, List.setIfInBounds_toArray, List.set_cons_zero, List.set_cons_succ])
  refine wpAnyH_take (i := 9) (v := ?_) rfl (by kernel_rfl) (by kernel_rfl) (by kernel_rfl) (fun _ _ _ h => h) (Or.inl ⟨by rfl, ?_⟩) (by assumption) ?_
  rotate_left
  · intro w' hSw
    (try dsimp only at hSw)
    go_simp
    try with_reducible rfl
  (try simp only [Act.put, List.getElem_toArray, List.getElem_cons_succ, List.getElem_cons_zero, List.setIfInBounds_toArray, List.set_cons_zero, List.set_cons_succ])
  refine wpAnyH_take (i := 10) (v := ?_) rfl (by kernel_rfl) (by kernel_rfl) (by kernel_rfl) (fun _ _ _ h => h) (Or.inl ⟨by rfl, ?_⟩) (by assumption) ?_
  rotate_left
  · intro w' hSw
    (try dsimp only at hSw)
    go_simp
    try with_reducible rfl
  (try simp only [Act.put, List.getElem_toArray, List.getElem_cons_succ, List.getElem_cons_zero, List.setIfInBounds_toArray, List.set_cons_zero, List.set_cons_succ])
  refine wpAnyH_take (i := 11) (v := ?_) rfl (by kernel_rfl) (by kernel_rfl) (by kernel_rfl) (fun _ _ _ h => h) (Or.inl ⟨by rfl, ?_⟩) (by assumption) ?_
  rotate_left
  · intro w' hSw
    (try dsimp only at hSw)
    go_simp
    try with_reducible rfl
  (try simp only [Act.put, List.getElem_toArray, List.getElem_cons_succ, List.getElem_cons_zero, List.setIfInBounds_toArray, List.set_cons_zero, List.set_cons_succ])
  refine wpAnyH_take (i := 12) (v := ?_) rfl (by kernel_rfl) (by kernel_rfl) (by kernel_rfl) (fun _ _ _ h => h) (Or.inl ⟨by rfl, ?_⟩) (by assumption) ?_
  rotate_left
  · intro w' hSw
    (try dsimp only at hSw)
    go_simp
    try with_reducible rfl
  (try simp only [Act.put, List.getElem_toArray, List.getElem_cons_succ, List.getElem_cons_zero, List.setIfInBounds_toArray, List.set_cons_zero, List.set_cons_succ])
  refine wpAnyH_take (i := 13) (v := ?_) rfl (by kernel_rfl) (by kernel_rfl) (by kernel_rfl) (fun _ _ _ h => h) (Or.inl ⟨by rfl, ?_⟩) (by assumption) ?_
  rotate_left
  · intro w' hSw
    (try dsimp only at hSw)
    go_simp
    try with_reducible rfl
  (try simp only [Act.put, List.getElem_toArray, List.getElem_cons_succ, List.getElem_cons_zero, List.setIfInBounds_toArray, List.set_cons_zero, List.set_cons_succ])
  refine wpAnyH_take (i := 14) (v := ?_) rfl (by kernel_rfl) (by kernel_rfl) (by kernel_rfl) (fun _ _ _ h => h) (Or.inl ⟨by rfl, ?_⟩) (by assumption) ?_
  rotate_left
  · intro w' hSw
    (try dsimp only at hSw)
    go_simp
    try with_reducible rfl
  (try simp only [Act.put, List.getElem_toArray, List.getElem_cons_succ, List.getElem_cons_zero, List.setIfInBounds_toArray, List.set_cons_zero, List.set_cons_succ])
  refine wpAnyH_take (i := 15) (v := ?_) rfl (by kernel_rfl) (by kernel_rfl) (by kernel_rfl) (fun _ _ _ h => h) (Or.inl ⟨by rfl, ?_⟩) (by assumption) ?_
  rotate_left
  · intro w' hSw
    (try dsimp only at hSw)
    go_simp
    try with_reducible rfl
  (try simp only [Act.put, List.getElem_toArray, List.getElem_cons_succ, List.getElem_cons_zero, List.setIfInBounds_toArray, List.set_cons_zero, List.set_cons_succ])
  refine wpAnyH_take (i := 16) (v := undef) rfl (by kernel_rfl) (by kernel_rfl) (by kernel_rfl) (fun _ _ _ h => h) (Or.inr ⟨by rfl, rfl⟩) (by assumption) ?_
  (try simp only [Act.put, List.getElem_toArray, List.getElem_cons_succ, List.getElem_cons_zero, List.setIfInBounds_toArray, List.set_cons_zero, List.set_cons_succ])
  refine wpAnyH_take (i := 17) (v := undef) rfl (by kernel_rfl) (by kernel_rfl) (by kernel_rfl) (fun _ _ _ h => h) (Or.inr ⟨by rfl, rfl⟩) (by assumption) ?_
  (try simp only [Act.put, List.getElem_toArray, List.getElem_cons_succ, List.getElem_cons_zero, List.setIfInBounds_toArray, List.set_cons_zero, List.set_cons_succ])
  refine wpAnyH_take (i := 18) (v := undef) rfl (by kernel_rfl) (by kernel_rfl) (by kernel_rfl) (fun _ _ _ h => h) (Or.inr ⟨by rfl, rfl⟩) (by assumption) ?_
  (try simp only [Act.put, List.getElem_toArray, List.getElem_cons_succ, List.getElem_cons_zero, List.setIfInBounds_toArray, List.set_cons_zero, List.set_cons_succ])
  refine wpAnyH_take (i := 19) (v := undef) rfl (by kernel_rfl) (by kernel_rfl) (by kernel_rfl) (fun _ _ _ h => h) (Or.inr ⟨by rfl, rfl⟩) (by assumption) ?_
  (try simp only [Act.put, List.getElem_toArray, List.getElem_cons_succ, List.getElem_cons_zero, List.setIfInBounds_toArray, List.set_cons_zero, List.set_cons_succ])
  refine wpAnyH_take (i := 20) (v := ?_) rfl (by kernel_rfl) (by kernel_rfl) (by kernel_rfl) (fun _ _ _ h => h) (Or.inl ⟨by rfl, ?_⟩) (by assumption) ?_
  rotate_left
  · intro w' hSw
    (try dsimp only at hSw)
    go_simp
    try with_reducible rfl
  (try simp only [Act.put, List.getElem_toArray, List.getElem_cons_succ, List.getElem_cons_zero, List.setIfInBounds_toArray, List.set_cons_zero, List.set_cons_succ])
  refine wpAnyH_take (i := 21) (v := ?_) rfl (by kernel_rfl) (by kernel_rfl) (by kernel_rfl) (fun _ _ _ h => h) (Or.inl ⟨by rfl, ?_⟩) (by assumption) ?_
  rotate_left
  · intro w' hSw
    (try dsimp only at hSw)
    go_simp
    try with_reducible rfl
  (try simp only [Act.put, List.getElem_toArray, List.getElem_cons_succ, List.getElem_cons_zero, List.setIfInBounds_toArray, List.set_cons_zero, List.set_cons_succ])
  refine wpAnyH_take (i := 22) (v := ?_) rfl (by kernel_rfl) (by kernel_rfl) (by kernel_rfl) (fun _ _ _ h => h) (Or.inl ⟨by rfl, ?_⟩) (by assumption) ?_
  rotate_left
  · intro w' hSw
    (try dsimp only at hSw)
    go_simp
    try with_reducible rfl
  (try simp only [Act.put, List.getElem_toArray, List.getElem_cons_succ, List.getElem_cons_zero, List.setIfInBounds_toArray, List.set_cons_zero, List.set_cons_succ])
  refine wpAnyH_take (i := 23) (v := ?_) rfl (by kernel_rfl) (by kernel_rfl) (by kernel_rfl) (fun _ _ _ h => h) (Or.inl ⟨by rfl, ?_⟩) (by assumption) ?_
  rotate_left
  · intro w' hSw
    (try dsimp only at hSw)
    go_simp
    try with_reducible rfl
  (try simp only [Act.put, List.getElem_toArray, List.getElem_cons_succ, List.getElem_cons_zero, List.setIfInBounds_toArray, List.set_cons_zero, List.set_cons_succ])
  refine wpAnyH_take (i := 24) (v := ?_) rfl (by kernel_rfl) (by kernel_rfl) (by kernel_rfl) (fun _ _ _ h => h) (Or.inl ⟨by rfl, ?_⟩) (by assumption) ?_
  rotate_left
  · intro w' hSw
    (try dsimp only at hSw)
    obtain ⟨j0, j1, j2, j3, j4, j5, j6, j7, j8, j9, j10, j11⟩ := c12_of hSw.2.2.1
    go_simp
    try with_reducible rfl
  (try simp only [Act.put, List.getElem_toArray, List.getElem_cons_succ, List.getElem_cons_zero, List.setIfInBounds_toArray, List.set_cons_zero, List.set_cons_succ])
  refine wpAnyH_ready (rs := [25]) (by kernel_rfl) (by simp) ?_
  refine AllReadyH.cons rfl (fun K' hK => ?_) AllReadyH.nil
  go_simp
  refine (RM.out _).mono ?_
  rintro e w12 ⟨rfl, hb⟩
  have S12 : Blk w12 gX 29 #[.int .i64 xk, .int .i64 xa, .int .i64 xs, .bool xx, .int .i64 xp, .int .i64 xq, .int .i64 xn, .int .i64 xt, .int .i64 xi, .int .i64 xy, .int .i64 xz, .int .i64 xv] ∧ Blk w12 gY 25 #[.int .i64 xk, .int .i64 xa, .int .i64 xs, .bool xx, .int .i64 xp, .int .i64 xq, .int .i64 xn, .int .i64 xt, .int .i64 xi, .int .i64 xy, .int .i64 xz, .int .i64 xv] ∧ Blk w12 gM 25 #[.int .i64 mk, .int .i64 ma, .int .i64 ms, .bool mx, .int .i64 mp, .int .i64 mq, .int .i64 mn, .int .i64 mt, .int .i64 mi, .int .i64 my, .int .i64 mz, .int .i64 mv] ∧ Blk w12 gZ 29 #[.int .i64 0, .int .i64 0, .int .i64 0, .bool false, .int .i64 0, .int .i64 0, .int .i64 0, .int .i64 0, .int .i64 0, .int .i64 0, .int .i64 0, .int .i64 0] := ⟨S11.1.below' hb, S11.2.1.below' hb, S11.2.2.1.below' hb, S11.2.2.2.below' hb⟩
  have b12 := κ (CrdB.below_step b11.out hb)
  have L12 := lwb L11 hb
  clear hb b11 L11 S11
  go_wp2_with fail
  refine hK.out _ _ S12 (fun hHeld => ?_)
  clear hK K'
  (try simp only [Act.put, List.getElem_toArray, List.getElem_cons_succ, List.getElem_cons_zero, List.setIfInBounds_toArray, List.set_cons_zero, List.set_cons_succ])
  refine wpAnyH_take (i := 26) (v := ?_) rfl (by kernel_rfl) (by kernel_rfl) (by kernel_rfl) (fun _ _ _ h => h) (Or.inl ⟨by rfl, ?_⟩) (by assumption) ?_
  rotate_left
  · intro w' hSw
    (try dsimp only at hSw)
    go_simp
    try with_reducible rfl
  (try simp only [Act.put, List.getElem_toArray, List.getElem_cons_succ, List.getElem_cons_zero, List.setIfInBounds_toArray, List.set_cons_zero, List.set_cons_succ])
  refine wpAnyH_take (i := 27) (v := ?_) rfl (by kernel_rfl) (by kernel_rfl) (by kernel_rfl) (fun _ _ _ h => h) (Or.inl ⟨by rfl, ?_⟩) (by assumption) ?_
  rotate_left
  · intro w' hSw
    (try dsimp only at hSw)
    go_simp
    try with_reducible rfl
  (try simp only [Act.put, List.getElem_toArray, List.getElem_cons_succ, List.getElem_cons_zero, List.setIfInBounds_toArray, List.set_cons_zero, List.set_cons_succ])
  refine wpAnyH_take (i := 28) (v := ?_) rfl (by kernel_rfl) (by kernel_rfl) (by kernel_rfl) (fun _ _ _ h => h) (Or.inl ⟨by rfl, ?_⟩) (by assumption) ?_
  rotate_left
  · intro w' hSw
    (try dsimp only at hSw)
    go_simp
    try with_reducible rfl
  (try simp only [Act.put, List.getElem_toArray, List.getElem_cons_succ, List.getElem_cons_zero, List.setIfInBounds_toArray, List.set_cons_zero, List.set_cons_succ])
  refine wpAnyH_take (i := 29) (v := ?_) rfl (by kernel_rfl) (by kernel_rfl) (by kernel_rfl) (fun _ _ _ h => h) (Or.inl ⟨by rfl, ?_⟩) (by assumption) ?_
  rotate_left
  · intro w' hSw
    (try dsimp only at hSw)
    go_simp
    try with_reducible rfl
  (try simp only [Act.put, List.getElem_toArray, List.getElem_cons_succ, List.getElem_cons_zero, List.setIfInBounds_toArray, List.set_cons_zero, List.set_cons_succ])
  refine wpAnyH_take (i := 30) (v := ?_) rfl (by kernel_rfl) (by kernel_rfl) (by kernel_rfl) (fun _ _ _ h => h) (Or.inl ⟨by rfl, ?_⟩) (by assumption) ?_
  rotate_left
  · intro w' hSw
    (try dsimp only at hSw)
    go_simp
    try with_reducible rfl
  (try simp only [Act.put, List.getElem_toArray, List.getElem_cons_succ, List.getElem_cons_zero, List.setIfInBounds_toArray, List.set_cons_zero, List.set_cons_succ])
  refine wpAnyH_take (i := 31) (v := ?_) rfl (by kernel_rfl) (by kernel_rfl) (by kernel_rfl) (fun _ _ _ h => h) (Or.inl ⟨by rfl, ?_⟩) (by assumption) ?_
  rotate_left
  · intro w' hSw
    (try dsimp only at hSw)
    go_simp
    try with_reducible rfl
  (try simp only [Act.put, List.getElem_toArray, List.getElem_cons_succ, List.getElem_cons_zero, List.setIfInBounds_toArray, List.set_cons_zero, List.set_cons_succ])
  refine wpAnyH_take (i := 32) (v := ?_) rfl (by kernel_rfl) (by kernel_rfl) (by kernel_rfl) (fun _ _ _ h => h) (Or.inl ⟨by rfl, ?_⟩) (by assumption) ?_
  rotate_left
  · intro w' hSw
    (try dsimp only at hSw)
    go_simp
    try with_reducible rfl
  (try simp only [Act.put, List.getElem_toArray, List.getElem_cons_succ, List.getElem_cons_zero, List.setIfInBounds_toArray, List.set_cons_zero, List.set_cons_succ])
  refine wpAnyH_take (i := 33) (v := ?_) rfl (by kernel_rfl) (by kernel_rfl) (by kernel_rfl) (fun _ _ _ h => h) (Or.inl ⟨by rfl, ?_⟩) (by assumption) ?_
  rotate_left
  · intro w' hSw
    (try dsimp only at hSw)
    go_simp
    try with_reducible rfl
  (try simp only [Act.put, List.getElem_toArray, List.getElem_cons_succ, List.getElem_cons_zero, List.setIfInBounds_toArray, List.set_cons_zero, List.set_cons_succ])
  refine wpAnyH_done (by kernel_rfl) ?_ _
  go_upto_region 9 with fail
  have b20 := κ b12.out.drew
  have S20 : Blk w12.drew gX 29 #[.int .i64 xk, .int .i64 xa, .int .i64 xs, .bool xx, .int .i64 xp, .int .i64 xq, .int .i64 xn, .int .i64 xt, .int .i64 xi, .int .i64 xy, .int .i64 xz, .int .i64 xv] ∧ Blk w12.drew gY 25 #[.int .i64 xk, .int .i64 xa, .int .i64 xs, .bool xx, .int .i64 xp, .int .i64 xq, .int .i64 xn, .int .i64 xt, .int .i64 xi, .int .i64 xy, .int .i64 xz, .int .i64 xv] ∧ Blk w12.drew gM 25 #[.int .i64 mk, .int .i64 ma, .int .i64 ms, .bool mx, .int .i64 mp, .int .i64 mq, .int .i64 mn, .int .i64 mt, .int .i64 mi, .int .i64 my, .int .i64 mz, .int .i64 mv] ∧ Blk w12.drew gZ 29 #[.int .i64 0, .int .i64 0, .int .i64 0, .bool false, .int .i64 0, .int .i64 0, .int .i64 0, .int .i64 0, .int .i64 0, .int .i64 0, .int .i64 0, .int .i64 0] := S12
  have L20 := lwb L12 (Below.refl w12.heap.size w12).drew
  clear b12 S12 L12
  refine wp_region_held_drew (S := (fun w' => Blk w' gX 29 #[.int .i64 xk, .int .i64 xa, .int .i64 xs, .bool xx, .int .i64 xp, .int .i64 xq, .int .i64 xn, .int .i64 xt, .int .i64 xi, .int .i64 xy, .int .i64 xz, .int .i64 xv] ∧ Blk w' gY 25 #[.int .i64 xk, .int .i64 xa, .int .i64 xs, .bool xx, .int .i64 xp, .int .i64 xq, .int .i64 xn, .int .i64 xt, .int .i64 xi, .int .i64 xy, .int .i64 xz, .int .i64 xv] ∧ Blk w' gM 25 #[.int .i64 mk, .int .i64 ma, .int .i64 ms, .bool mx, .int .i64 mp, .int .i64 mq, .int .i64 mn, .int .i64 mt, .int .i64 mi, .int .i64 my, .int .i64 mz, .int .i64 mv] ∧ Blk w' gZ 29 #[.int .i64 0, .int .i64 0, .int .i64 0, .bool false, .int .i64 0, .int .i64 0, .int .i64 0, .int .i64 0, .int .i64 0, .int .i64 0, .int .i64 0, .int .i64 0])) (by kernel_rfl) S20 (fun hHeld => ?_)
  refine wpAnyH_take (i := 0) (v := ?_) rfl (by kernel_rfl) (by kernel_rfl) (by kernel_rfl) (fun _ _ _ h => h) (Or.inl ⟨by rfl, ?_⟩) (by assumption) ?_
  rotate_left
  · intro w' hSw
    (try dsimp only at hSw)
    go_simp
    try with_reducible rfl
  (try simp only [Act.put, List.getElem_toArray, List.getElem_cons_succ, List.getElem_cons_zero, List.setIfInBounds_toArray, List.set_cons_zero, List.set_cons_succ])
  refine wpAnyH_take (i := 1) (v := ?_) rfl (by kernel_rfl) (by kernel_rfl) (by kernel_rfl) (fun _ _ _ h => h) (Or.inl ⟨by rfl, ?_⟩) (by assumption) ?_
  rotate_left
  · intro w' hSw
    (try dsimp only at hSw)
    go_simp
    try with_reducible rfl
  (try simp only [Act.put, List.getElem_toArray, List.getElem_cons_succ, List.getElem_cons_zero, List.setIfInBounds_toArray, List.set_cons_zero, List.set_cons_succ])
  refine wpAnyH_take (i := 2) (v := ?_) rfl (by kernel_rfl) (by kernel_rfl) (by kernel_rfl) (fun _ _ _ h => h) (Or.inl ⟨by rfl, ?_⟩) (by assumption) ?_
  rotate_left
  · intro w' hSw
    (try dsimp only at hSw)
    go_simp
    try with_reducible rfl
  (try simp only [Act.put, List.getElem_toArray, List.getElem_cons_succ, List.getElem_cons_zero, List.setIfInBounds_toArray, List.set_cons_zero, List.set_cons_succ])
  refine wpAnyH_take (i := 3) (v := undef) rfl (by kernel_rfl) (by kernel_rfl) (by kernel_rfl) (fun _ _ _ h => h) (Or.inr ⟨by rfl, rfl⟩) (by assumption) ?_
  (try simp only [Act.put, List.getElem_toArray, List.getElem_cons_succ, List.getElem_cons_zero, List.setIfInBounds_toArray, List.set_cons_zero, List.set_cons_succ])
  refine wpAnyH_take (i := 4) (v := undef) rfl (by kernel_rfl) (by kernel_rfl) (by kernel_rfl) (fun _ _ _ h => h) (Or.inr ⟨by rfl, rfl⟩) (by assumption) ?_
  (try simp only [Act.put, List.getElem_toArray, List.getElem_cons_succ, List.getElem_cons_zero, List.setIfInBounds_toArray, List.set_cons_zero, List.set_cons_succ])
  refine wpAnyH_take (i := 5) (v := undef) rfl (by kernel_rfl) (by kernel_rfl) (by kernel_rfl) (fun _ _ _ h => h) (Or.inr ⟨by rfl, rfl⟩) (by assumption) ?_
  (try simp only [Act.put, List.getElem_toArray, List.getElem_cons_succ, List.getElem_cons_zero, List.setIfInBounds_toArray, List.set_cons_zero, List.set_cons_succ])
  refine wpAnyH_take (i := 6) (v := undef) rfl (by kernel_rfl) (by kernel_rfl) (by kernel_rfl) (fun _ _ _ h => h) (Or.inr ⟨by rfl, rfl⟩) (by assumption) ?_
  (try simp only [Act.put, List.getElem_toArray, List.getElem_cons_succ, List.getElem_cons_zero, List.setIfInBounds_toArray, List.set_cons_zero, List.set_cons_succ])
  refine wpAnyH_take (i := 7) (v := undef) rfl (by kernel_rfl) (by kernel_rfl) (by kernel_rfl) (fun _ _ _ h => h) (Or.inr ⟨by rfl, rfl⟩) (by assumption) ?_
  (try simp only [Act.put, List.getElem_toArray, List.getElem_cons_succ, List.getElem_cons_zero, List.setIfInBounds_toArray, List.set_cons_zero, List.set_cons_succ])
  refine wpAnyH_take (i := 8) (v := undef) rfl (by kernel_rfl) (by kernel_rfl) (by kernel_rfl) (fun _ _ _ h => h) (Or.inr ⟨by rfl, rfl⟩) (by assumption) ?_
  (try simp only [Act.put, List.getElem_toArray, List.getElem_cons_succ, List.getElem_cons_zero, List.setIfInBounds_toArray, List.set_cons_zero, List.set_cons_succ])
  refine wpAnyH_take (i := 9) (v := undef) rfl (by kernel_rfl) (by kernel_rfl) (by kernel_rfl) (fun _ _ _ h => h) (Or.inr ⟨by rfl, rfl⟩) (by assumption) ?_
  (try simp only [Act.put, List.getElem_toArray, List.getElem_cons_succ, List.getElem_cons_zero, List.setIfInBounds_toArray, List.set_cons_zero, List.set_cons_succ])
  refine wpAnyH_take (i := 10) (v := undef) rfl (by kernel_rfl) (by kernel_rfl) (by kernel_rfl) (fun _ _ _ h => h) (Or.inr ⟨by rfl, rfl⟩) (by assumption) ?_
  (try simp only [Act.put, List.getElem_toArray, List.getElem_cons_succ, List.getElem_cons_zero, List.setIfInBounds_toArray, List.set_cons_zero, List.set_cons_succ])
  refine wpAnyH_take (i := 11) (v := undef) rfl (by kernel_rfl) (by kernel_rfl) (by kernel_rfl) (fun _ _ _ h => h) (Or.inr ⟨by rfl, rfl⟩) (by assumption) ?_
  (try simp only [Act.put, List.getElem_toArray, List.getElem_cons_succ, List.getElem_cons_zero, List.setIfInBounds_toArray, List.set_cons_zero, List.set_cons_succ])
  refine wpAnyH_take (i := 12) (v := undef) rfl (by kernel_rfl) (by kernel_rfl) (by kernel_rfl) (fun _ _ _ h => h) (Or.inr ⟨by rfl, rfl⟩) (by assumption) ?_
  (try simp only [Act.put, List.getElem_toArray, List.getElem_cons_succ, List.getElem_cons_zero, List.setIfInBounds_toArray, List.set_cons_zero, List.set_cons_succ])
  refine wpAnyH_take (i := 13) (v := undef) rfl (by kernel_rfl) (by kernel_rfl) (by kernel_rfl) (fun _ _ _ h => h) (Or.inr ⟨by rfl, rfl⟩) (by assumption) ?_
  (try simp only [Act.put, List.getElem_toArray, List.getElem_cons_succ, List.getElem_cons_zero, List.setIfInBounds_toArray, List.set_cons_zero, List.set_cons_succ])
  refine wpAnyH_take (i := 14) (v := undef) rfl (by kernel_rfl) (by kernel_rfl) (by kernel_rfl) (fun _ _ _ h => h) (Or.inr ⟨by rfl, rfl⟩) (by assumption) ?_
  (try simp only [Act.put, List.getElem_toArray, List.getElem_cons_succ, List.getElem_cons_zero, List.setIfInBounds_toArray, List.set_cons_zero, List.set_cons_succ])
  refine wpAnyH_take (i := 15) (v := ?_) rfl (by kernel_rfl) (by kernel_rfl) (by kernel_rfl) (fun _ _ _ h => h) (Or.inl ⟨by rfl, ?_⟩) (by assumption) ?_
  rotate_left
  · intro w' hSw
    (try dsimp only at hSw)
    go_simp
    try with_reducible rfl
  (try simp only [Act.put, List.getElem_toArray, List.getElem_cons_succ, List.getElem_cons_zero, List.setIfInBounds_toArray, List.set_cons_zero, List.set_cons_succ])
  refine wpAnyH_take (i := 16) (v := ?_) rfl (by kernel_rfl) (by kernel_rfl) (by kernel_rfl) (fun _ _ _ h => h) (Or.inl ⟨by rfl, ?_⟩) (by assumption) ?_
  rotate_left
  · intro w' hSw
    (try dsimp only at hSw)
    go_simp
    try with_reducible rfl
  (try simp only [Act.put, List.getElem_toArray, List.getElem_cons_succ, List.getElem_cons_zero, List.setIfInBounds_toArray, List.set_cons_zero, List.set_cons_succ])
  refine wpAnyH_done (by kernel_rfl) ?_ _
  go_wp2_with fail
  go_ret
  exact ⟨rfl, b20.out⟩
theorem short_tt (l lm : List UInt8) (mk ma ms mp mq mn mt mi my mz mv : Int) (mx : Bool) (xk xa xs xp xq xn xt xi xy xz xv : Int) (xx : Bool) (w : World) (hL : Hid (Lw w)) (hl : ¬ (300 : Int) < (l.length : Int)) (wm : Hid (WfM (⟨mk, ma, ms, mx, mp, mq, mn, mt, mi, my, mz, mv⟩ : M))) (wx : Hid (WfM (⟨xk, xa, xs, xx, xp, xq, xn, xt, xi, xy, xz, xv⟩ : M))) (hlm : Hid (lineL (⟨mk, ma, ms, mx, mp, mq, mn, mt, mi, my, mz, mv⟩ : M) = lm))
    (hP : Hid (parseP l = ((⟨xk, xa, xs, xx, xp, xq, xn, xt, xi, xy, xz, xv⟩ : M), true))) (hX : Hid (lineL (⟨xk, xa, xs, xx, xp, xq, xn, xt, xi, xy, xz, xv⟩ : M) = l)) (hm : Hid (parseP lm = ((⟨mk, ma, ms, mx, mp, mq, mn, mt, mi, my, mz, mv⟩ : M), true))) (q : (lm == []) = false) (lle : (lm.length : Int) ≤ 200) : Calls Tryz.prog 3 #[.agg #[.int .i64 mk, .int .i64 ma, .int .i64 ms, .bool mx, .int .i64 mp, .int .i64 mq, .int .i64 mn, .int .i64 mt, .int .i64 mi, .int .i64 my, .int .i64 mz, .int .i64 mv], sv l] w (Law3.MadeB true w) := by
  have PX : Hid (∀ W, Hid (Lw W) → Calls Tryz.prog 5 #[sv l] W (fun e w' => e = .returned (.tuple #[.agg #[.int .i64 xk, .int .i64 xa, .int .i64 xs, .bool xx, .int .i64 xp, .int .i64 xq, .int .i64 xn, .int .i64 xt, .int .i64 xi, .int .i64 xy, .int .i64 xz, .int .i64 xv], .bool true]) ∧ Below W.heap.size W w')) := κ (fun W h => by have c := Spp.sparse_any l W h (by omega); rw [hP.out] at c; exact c)
  have PY : Hid (∀ W, Calls Tryz.prog 6 #[sv l] W (fun e w' => e = .returned (.tuple #[.agg #[.int .i64 xk, .int .i64 xa, .int .i64 xs, .bool xx, .int .i64 xp, .int .i64 xq, .int .i64 xn, .int .i64 xt, .int .i64 xi, .int .i64 xy, .int .i64 xz, .int .i64 xv], .bool true]) ∧ Below W.heap.size W w')) := κ (fun W => by have c := Rsp.rparse_any l W (by omega); rw [parse_same, hP.out] at c; exact c)
  have PZ : Hid (∀ W, Hid (Lw W) → Calls Tryz.prog 5 #[sv lm] W (fun e w' => e = .returned (.tuple #[.agg #[.int .i64 mk, .int .i64 ma, .int .i64 ms, .bool mx, .int .i64 mp, .int .i64 mq, .int .i64 mn, .int .i64 mt, .int .i64 mi, .int .i64 my, .int .i64 mz, .int .i64 mv], .bool true]) ∧ Below W.heap.size W w')) := κ (fun W h => by have c := Spp.sparse_any lm W h (by omega); rw [hm.out] at c; exact c)
  have LM : Hid (∀ W, Hid (Lw W) → Calls Tryz.prog 7 #[.agg #[.int .i64 mk, .int .i64 ma, .int .i64 ms, .bool mx, .int .i64 mp, .int .i64 mq, .int .i64 mn, .int .i64 mt, .int .i64 mi, .int .i64 my, .int .i64 mz, .int .i64 mv]] W (fun e w' => e = .returned (sv lm) ∧ Below W.heap.size W w')) := κ (fun W h => by have c := sline_any (⟨mk, ma, ms, mx, mp, mq, mn, mt, mi, my, mz, mv⟩ : M) W wm.out h; rw [hlm.out] at c; exact c)
  have RM : Hid (∀ W, Calls Tryz.prog 10 #[.agg #[.int .i64 mk, .int .i64 ma, .int .i64 ms, .bool mx, .int .i64 mp, .int .i64 mq, .int .i64 mn, .int .i64 mt, .int .i64 mi, .int .i64 my, .int .i64 mz, .int .i64 mv]] W (fun e w' => e = .returned (sv lm) ∧ Below W.heap.size W w')) := κ (fun W => by have c := Rsl.rline_any (⟨mk, ma, ms, mx, mp, mq, mn, mt, mi, my, mz, mv⟩ : M) W wm.out; rw [hlm.out] at c; exact c)
  have LX : Hid (∀ W, Hid (Lw W) → Calls Tryz.prog 7 #[.agg #[.int .i64 xk, .int .i64 xa, .int .i64 xs, .bool xx, .int .i64 xp, .int .i64 xq, .int .i64 xn, .int .i64 xt, .int .i64 xi, .int .i64 xy, .int .i64 xz, .int .i64 xv]] W (fun e w' => e = .returned (sv l) ∧ Below W.heap.size W w')) := κ (fun W h => by have c := sline_any (⟨xk, xa, xs, xx, xp, xq, xn, xt, xi, xy, xz, xv⟩ : M) W wx.out h; rw [hX.out] at c; exact c)
  have b0 := κ (β w (.cells #[.int .i64 mk, .int .i64 ma, .int .i64 ms, .bool mx, .int .i64 mp, .int .i64 mq, .int .i64 mn, .int .i64 mt, .int .i64 mi, .int .i64 my, .int .i64 mz, .int .i64 mv] 25))
  have k0 := κ (δ w 25 #[.int .i64 mk, .int .i64 ma, .int .i64 ms, .bool mx, .int .i64 mp, .int .i64 mq, .int .i64 mn, .int .i64 mt, .int .i64 mi, .int .i64 my, .int .i64 mz, .int .i64 mv] w.heap.size rfl)
  have L0 := lwb hL b0.out
  have hz := len_x l
  have eX : eqM (⟨xk, xa, xs, xx, xp, xq, xn, xt, xi, xy, xz, xv⟩ : M) (⟨xk, xa, xs, xx, xp, xq, xn, xt, xi, xy, xz, xv⟩ : M) = true := eqM_self _
  have eMm : eqM (⟨mk, ma, ms, mx, mp, mq, mn, mt, mi, my, mz, mv⟩ : M) (⟨mk, ma, ms, mx, mp, mq, mn, mt, mi, my, mz, mv⟩ : M) = true := eqM_self _
  clear hL hlm hP hX hm wm wx
  go_enter Tryz.func3, Tryz.ntmps3
  go_wp2_with fail
  clear hz
  generalize w.alloc (.cells #[.int .i64 mk, .int .i64 ma, .int .i64 ms, .bool mx, .int .i64 mp, .int .i64 mq, .int .i64 mn, .int .i64 mt, .int .i64 mi, .int .i64 my, .int .i64 mz, .int .i64 mv] 25) = w0 at b0 k0 L0 ⊢
  generalize w.heap.size = gM at k0 ⊢
  refine (PX.out w0 L0).mono ?_
  rintro e w1 ⟨rfl, hb1⟩
  have u1 := κ (hb1.alloc hb1.size (.cells #[.int .i64 xk, .int .i64 xa, .int .i64 xs, .bool xx, .int .i64 xp, .int .i64 xq, .int .i64 xn, .int .i64 xt, .int .i64 xi, .int .i64 xy, .int .i64 xz, .int .i64 xv] 29))
  have b1 := κ (CrdB.below_step b0.out u1.out)
  have k1 := κ (k0.out.below' u1.out)
  have L1 := lwb L0 u1.out
  have x1 := κ (δ w1 29 #[.int .i64 xk, .int .i64 xa, .int .i64 xs, .bool xx, .int .i64 xp, .int .i64 xq, .int .i64 xn, .int .i64 xt, .int .i64 xi, .int .i64 xy, .int .i64 xz, .int .i64 xv] w1.heap.size rfl)
  clear hb1 u1 b0 k0 L0 PX
  go_wp2_with fail
  generalize w1.alloc (.cells #[.int .i64 xk, .int .i64 xa, .int .i64 xs, .bool xx, .int .i64 xp, .int .i64 xq, .int .i64 xn, .int .i64 xt, .int .i64 xi, .int .i64 xy, .int .i64 xz, .int .i64 xv] 29) = w2 at b1 k1 L1 x1 ⊢
  generalize w1.heap.size = gX at x1 ⊢
  refine (PY.out w2).mono ?_
  rintro e w3 ⟨rfl, hb1⟩
  have u1 := κ (hb1.alloc hb1.size (.cells #[.int .i64 xk, .int .i64 xa, .int .i64 xs, .bool xx, .int .i64 xp, .int .i64 xq, .int .i64 xn, .int .i64 xt, .int .i64 xi, .int .i64 xy, .int .i64 xz, .int .i64 xv] 25))
  have b3 := κ (CrdB.below_step b1.out u1.out)
  have k3 := κ (k1.out.below' u1.out)
  have L3 := lwb L1 u1.out
  have x3 := κ (x1.out.below' u1.out)
  have y3 := κ (δ w3 25 #[.int .i64 xk, .int .i64 xa, .int .i64 xs, .bool xx, .int .i64 xp, .int .i64 xq, .int .i64 xn, .int .i64 xt, .int .i64 xi, .int .i64 xy, .int .i64 xz, .int .i64 xv] w3.heap.size rfl)
  clear hb1 u1 b1 k1 L1 x1 PY
  obtain ⟨j0, j1, j2, j3, j4, j5, j6, j7, j8, j9, j10, j11⟩ := c12_of k3.out
  go_wp2_with fail
  clear j0 j1 j2 j3 j4 j5 j6 j7 j8 j9 j10 j11
  generalize w3.alloc (.cells #[.int .i64 xk, .int .i64 xa, .int .i64 xs, .bool xx, .int .i64 xp, .int .i64 xq, .int .i64 xn, .int .i64 xt, .int .i64 xi, .int .i64 xy, .int .i64 xz, .int .i64 xv] 25) = w4 at b3 k3 L3 x3 y3 ⊢
  generalize w3.heap.size = gY at y3 ⊢
  refine (to_x mk ma ms mp mq mn mt mi my mz mv mx w4).mono ?_
  rintro e w5 ⟨rfl, hb1⟩
  have b5 := κ (CrdB.below_step b3.out hb1)
  have k5 := κ (k3.out.below' hb1)
  have L5 := lwb L3 hb1
  have x5 := κ (x3.out.below' hb1)
  have y5 := κ (y3.out.below' hb1)
  clear hb1 b3 k3 L3 x3 y3
  go_wp2_with fail
  refine (LM.out w5 L5).mono ?_
  rintro e w6 ⟨rfl, hb1⟩
  have b6 := κ (CrdB.below_step b5.out hb1)
  have k6 := κ (k5.out.below' hb1)
  have L6 := lwb L5 hb1
  have x6 := κ (x5.out.below' hb1)
  have y6 := κ (y5.out.below' hb1)
  clear hb1 b5 k5 L5 x5 y5 LM
  go_wp2_with fail
  refine (PZ.out w6 L6).mono ?_
  rintro e w7 ⟨rfl, hb1⟩
  have u1 := κ (hb1.alloc hb1.size (.cells #[.int .i64 mk, .int .i64 ma, .int .i64 ms, .bool mx, .int .i64 mp, .int .i64 mq, .int .i64 mn, .int .i64 mt, .int .i64 mi, .int .i64 my, .int .i64 mz, .int .i64 mv] 29))
  have b8 := κ (CrdB.below_step b6.out u1.out)
  have k8 := κ (k6.out.below' u1.out)
  have L8 := lwb L6 u1.out
  have x8 := κ (x6.out.below' u1.out)
  have y8 := κ (y6.out.below' u1.out)
  have z8 := κ (δ w7 29 #[.int .i64 mk, .int .i64 ma, .int .i64 ms, .bool mx, .int .i64 mp, .int .i64 mq, .int .i64 mn, .int .i64 mt, .int .i64 mi, .int .i64 my, .int .i64 mz, .int .i64 mv] w7.heap.size rfl)
  clear hb1 u1 b6 k6 L6 x6 y6 PZ
  go_upto_region 7 with fail
  generalize w7.alloc (.cells #[.int .i64 mk, .int .i64 ma, .int .i64 ms, .bool mx, .int .i64 mp, .int .i64 mq, .int .i64 mn, .int .i64 mt, .int .i64 mi, .int .i64 my, .int .i64 mz, .int .i64 mv] 29) = w8 at b8 k8 L8 x8 y8 z8 ⊢
  generalize w7.heap.size = gZ at z8 ⊢
  have b9 := κ b8.out.drew
  have S9 : Blk w8.drew gX 29 #[.int .i64 xk, .int .i64 xa, .int .i64 xs, .bool xx, .int .i64 xp, .int .i64 xq, .int .i64 xn, .int .i64 xt, .int .i64 xi, .int .i64 xy, .int .i64 xz, .int .i64 xv] ∧ Blk w8.drew gY 25 #[.int .i64 xk, .int .i64 xa, .int .i64 xs, .bool xx, .int .i64 xp, .int .i64 xq, .int .i64 xn, .int .i64 xt, .int .i64 xi, .int .i64 xy, .int .i64 xz, .int .i64 xv] ∧ Blk w8.drew gM 25 #[.int .i64 mk, .int .i64 ma, .int .i64 ms, .bool mx, .int .i64 mp, .int .i64 mq, .int .i64 mn, .int .i64 mt, .int .i64 mi, .int .i64 my, .int .i64 mz, .int .i64 mv] ∧ Blk w8.drew gZ 29 #[.int .i64 mk, .int .i64 ma, .int .i64 ms, .bool mx, .int .i64 mp, .int .i64 mq, .int .i64 mn, .int .i64 mt, .int .i64 mi, .int .i64 my, .int .i64 mz, .int .i64 mv] := ⟨x8.out, y8.out, k8.out, z8.out⟩
  have L9 := lwb L8 (Below.refl w8.heap.size w8).drew
  clear b8 k8 L8 x8 y8 z8
  refine wp_region_held_drew (S := (fun w' => Blk w' gX 29 #[.int .i64 xk, .int .i64 xa, .int .i64 xs, .bool xx, .int .i64 xp, .int .i64 xq, .int .i64 xn, .int .i64 xt, .int .i64 xi, .int .i64 xy, .int .i64 xz, .int .i64 xv] ∧ Blk w' gY 25 #[.int .i64 xk, .int .i64 xa, .int .i64 xs, .bool xx, .int .i64 xp, .int .i64 xq, .int .i64 xn, .int .i64 xt, .int .i64 xi, .int .i64 xy, .int .i64 xz, .int .i64 xv] ∧ Blk w' gM 25 #[.int .i64 mk, .int .i64 ma, .int .i64 ms, .bool mx, .int .i64 mp, .int .i64 mq, .int .i64 mn, .int .i64 mt, .int .i64 mi, .int .i64 my, .int .i64 mz, .int .i64 mv] ∧ Blk w' gZ 29 #[.int .i64 mk, .int .i64 ma, .int .i64 ms, .bool mx, .int .i64 mp, .int .i64 mq, .int .i64 mn, .int .i64 mt, .int .i64 mi, .int .i64 my, .int .i64 mz, .int .i64 mv])) (by kernel_rfl) S9 (fun hHeld => ?_)
  refine wpAnyH_ready (rs := [0]) (by kernel_rfl) (by simp) ?_
  refine AllReadyH.cons rfl (fun K' hK => ?_) AllReadyH.nil
  go_simp
  refine (told13_any _ L9).mono ?_
  rintro e w10 ⟨rfl, hb⟩
  have S10 : Blk w10 gX 29 #[.int .i64 xk, .int .i64 xa, .int .i64 xs, .bool xx, .int .i64 xp, .int .i64 xq, .int .i64 xn, .int .i64 xt, .int .i64 xi, .int .i64 xy, .int .i64 xz, .int .i64 xv] ∧ Blk w10 gY 25 #[.int .i64 xk, .int .i64 xa, .int .i64 xs, .bool xx, .int .i64 xp, .int .i64 xq, .int .i64 xn, .int .i64 xt, .int .i64 xi, .int .i64 xy, .int .i64 xz, .int .i64 xv] ∧ Blk w10 gM 25 #[.int .i64 mk, .int .i64 ma, .int .i64 ms, .bool mx, .int .i64 mp, .int .i64 mq, .int .i64 mn, .int .i64 mt, .int .i64 mi, .int .i64 my, .int .i64 mz, .int .i64 mv] ∧ Blk w10 gZ 29 #[.int .i64 mk, .int .i64 ma, .int .i64 ms, .bool mx, .int .i64 mp, .int .i64 mq, .int .i64 mn, .int .i64 mt, .int .i64 mi, .int .i64 my, .int .i64 mz, .int .i64 mv] := ⟨S9.1.below' hb, S9.2.1.below' hb, S9.2.2.1.below' hb, S9.2.2.2.below' hb⟩
  have b10 := κ (CrdB.below_step b9.out hb)
  have L10 := lwb L9 hb
  clear hb b9 L9 S9
  go_wp2_with fail
  refine hK.out _ _ S10 (fun hHeld => ?_)
  clear hK K'
  (try simp only [Act.put, List.getElem_toArray, List.getElem_cons_succ, List.getElem_cons_zero, List.setIfInBounds_toArray, List.set_cons_zero, List.set_cons_succ])
  refine wpAnyH_take (i := 1) (v := ?_) rfl (by kernel_rfl) (by kernel_rfl) (by kernel_rfl) (fun _ _ _ h => h) (Or.inl ⟨by rfl, ?_⟩) (by assumption) ?_
  rotate_left
  · intro w' hSw
    (try dsimp only at hSw)
    go_simp
    try with_reducible rfl
  (try simp only [Act.put, List.getElem_toArray, List.getElem_cons_succ, List.getElem_cons_zero, List.setIfInBounds_toArray, List.set_cons_zero, List.set_cons_succ])
  refine wpAnyH_take (i := 2) (v := ?_) rfl (by kernel_rfl) (by kernel_rfl) (by kernel_rfl) (fun _ _ _ h => h) (Or.inl ⟨by rfl, ?_⟩) (by assumption) ?_
  rotate_left
  · intro w' hSw
    (try dsimp only at hSw)
    go_simp
    try with_reducible rfl
  (try simp only [Act.put, List.getElem_toArray, List.getElem_cons_succ, List.getElem_cons_zero, List.setIfInBounds_toArray, List.set_cons_zero, List.set_cons_succ])
  refine wpAnyH_take (i := 3) (v := ?_) rfl (by kernel_rfl) (by kernel_rfl) (by kernel_rfl) (fun _ _ _ h => h) (Or.inl ⟨by rfl, ?_⟩) (by assumption) ?_
  rotate_left
  · intro w' hSw
    (try dsimp only at hSw)
    obtain ⟨j0, j1, j2, j3, j4, j5, j6, j7, j8, j9, j10, j11⟩ := c12_of hSw.1
    go_simp
    try with_reducible rfl
  (try simp only [Act.put, List.getElem_toArray, List.getElem_cons_succ, List.getElem_cons_zero, List.setIfInBounds_toArray, List.set_cons_zero, List.set_cons_succ])
  refine wpAnyH_take (i := 5) (v := ?_) rfl (by kernel_rfl) (by kernel_rfl) (by kernel_rfl) (fun _ _ _ h => h) (Or.inl ⟨by rfl, ?_⟩) (by assumption) ?_
  rotate_left
  · intro w' hSw
    (try dsimp only at hSw)
    obtain ⟨j0, j1, j2, j3, j4, j5, j6, j7, j8, j9, j10, j11⟩ := c12_of hSw.2.1
    go_simp
    try with_reducible rfl
  (try simp only [Act.put, List.getElem_toArray, List.getElem_cons_succ, List.getElem_cons_zero, List.setIfInBounds_toArray, List.set_cons_zero, List.set_cons_succ])
  refine wpAnyH_ready (rs := [4]) (by kernel_rfl) (by simp) ?_
  refine AllReadyH.cons rfl (fun K' hK => ?_) AllReadyH.nil
  go_simp
  refine (from_x xk xa xs xp xq xn xt xi xy xz xv xx _).mono ?_
  rintro e w11 ⟨rfl, hb⟩
  have S11 : Blk w11 gX 29 #[.int .i64 xk, .int .i64 xa, .int .i64 xs, .bool xx, .int .i64 xp, .int .i64 xq, .int .i64 xn, .int .i64 xt, .int .i64 xi, .int .i64 xy, .int .i64 xz, .int .i64 xv] ∧ Blk w11 gY 25 #[.int .i64 xk, .int .i64 xa, .int .i64 xs, .bool xx, .int .i64 xp, .int .i64 xq, .int .i64 xn, .int .i64 xt, .int .i64 xi, .int .i64 xy, .int .i64 xz, .int .i64 xv] ∧ Blk w11 gM 25 #[.int .i64 mk, .int .i64 ma, .int .i64 ms, .bool mx, .int .i64 mp, .int .i64 mq, .int .i64 mn, .int .i64 mt, .int .i64 mi, .int .i64 my, .int .i64 mz, .int .i64 mv] ∧ Blk w11 gZ 29 #[.int .i64 mk, .int .i64 ma, .int .i64 ms, .bool mx, .int .i64 mp, .int .i64 mq, .int .i64 mn, .int .i64 mt, .int .i64 mi, .int .i64 my, .int .i64 mz, .int .i64 mv] := ⟨S10.1.below' hb, S10.2.1.below' hb, S10.2.2.1.below' hb, S10.2.2.2.below' hb⟩
  have b11 := κ (CrdB.below_step b10.out hb)
  have L11 := lwb L10 hb
  clear hb b10 L10 S10
  go_wp2_with fail
  refine hK.out _ _ S11 (fun hHeld => ?_)
  clear hK K'
  (try simp only [Act.put, List.getElem_toArray, List.getElem_cons_succ, List.getElem_cons_zero, List.setIfInBounds_toArray, List.set_cons_zero, List.set_cons_succ])
  refine wpAnyH_take (i := 6) (v := ?_) rfl (by kernel_rfl) (by kernel_rfl) (by kernel_rfl) (fun _ _ _ h => h) (Or.inl ⟨by rfl, ?_⟩) (by assumption) ?_
  rotate_left
  · intro w' hSw
    (try dsimp only at hSw)
    go_simp
    try with_reducible rfl
  (try simp only [Act.put, List.getElem_toArray, List.getElem_cons_succ, List.getElem_cons_zero, List.setIfInBounds_toArray, List.set_cons_zero, List.set_cons_succ])
  refine wpAnyH_take (i := 7) (v := ?_) rfl (by kernel_rfl) (by kernel_rfl) (by kernel_rfl) (fun _ _ _ h => h) (Or.inl ⟨by rfl, ?_⟩) (by assumption) ?_
  rotate_left
  · intro w' hSw
    (try dsimp only at hSw)
    go_simp
    try with_reducible rfl
  (try simp only [Act.put, List.getElem_toArray, List.getElem_cons_succ, List.getElem_cons_zero, List.setIfInBounds_toArray, List.set_cons_zero, List.set_cons_succ])
  refine wpAnyH_take (i := 8) (v := ?_) rfl (by kernel_rfl) (by kernel_rfl) (by kernel_rfl) (fun _ _ _ h => h) (Or.inl ⟨by rfl, ?_⟩) (by assumption) ?_
  rotate_left
  · intro w' hSw
    (try dsimp only at hSw)
    go_simp
    try with_reducible rfl
  (try simp only [Act.put, List.getElem_toArray, List.getElem_cons_succ, List.getElem_cons_zero, List.setIfInBounds_toArray, List.set_cons_zero, List.set_cons_succ])
  refine wpAnyH_take (i := 9) (v := ?_) rfl (by kernel_rfl) (by kernel_rfl) (by kernel_rfl) (fun _ _ _ h => h) (Or.inl ⟨by rfl, ?_⟩) (by assumption) ?_
  rotate_left
  · intro w' hSw
    (try dsimp only at hSw)
    go_simp
    try with_reducible rfl
  (try simp only [Act.put, List.getElem_toArray, List.getElem_cons_succ, List.getElem_cons_zero, List.setIfInBounds_toArray, List.set_cons_zero, List.set_cons_succ])
  refine wpAnyH_take (i := 10) (v := ?_) rfl (by kernel_rfl) (by kernel_rfl) (by kernel_rfl) (fun _ _ _ h => h) (Or.inl ⟨by rfl, ?_⟩) (by assumption) ?_
  rotate_left
  · intro w' hSw
    (try dsimp only at hSw)
    go_simp
    try with_reducible rfl
  (try simp only [Act.put, List.getElem_toArray, List.getElem_cons_succ, List.getElem_cons_zero, List.setIfInBounds_toArray, List.set_cons_zero, List.set_cons_succ])
  refine wpAnyH_take (i := 11) (v := ?_) rfl (by kernel_rfl) (by kernel_rfl) (by kernel_rfl) (fun _ _ _ h => h) (Or.inl ⟨by rfl, ?_⟩) (by assumption) ?_
  rotate_left
  · intro w' hSw
    (try dsimp only at hSw)
    go_simp
    try with_reducible rfl
  (try simp only [Act.put, List.getElem_toArray, List.getElem_cons_succ, List.getElem_cons_zero, List.setIfInBounds_toArray, List.set_cons_zero, List.set_cons_succ])
  refine wpAnyH_take (i := 12) (v := ?_) rfl (by kernel_rfl) (by kernel_rfl) (by kernel_rfl) (fun _ _ _ h => h) (Or.inl ⟨by rfl, ?_⟩) (by assumption) ?_
  rotate_left
  · intro w' hSw
    (try dsimp only at hSw)
    go_simp
    try with_reducible rfl
  (try simp only [Act.put, List.getElem_toArray, List.getElem_cons_succ, List.getElem_cons_zero, List.setIfInBounds_toArray, List.set_cons_zero, List.set_cons_succ])
  refine wpAnyH_take (i := 13) (v := ?_) rfl (by kernel_rfl) (by kernel_rfl) (by kernel_rfl) (fun _ _ _ h => h) (Or.inl ⟨by rfl, ?_⟩) (by assumption) ?_
  rotate_left
  · intro w' hSw
    (try dsimp only at hSw)
    go_simp
    try with_reducible rfl
  (try simp only [Act.put, List.getElem_toArray, List.getElem_cons_succ, List.getElem_cons_zero, List.setIfInBounds_toArray, List.set_cons_zero, List.set_cons_succ])
  refine wpAnyH_take (i := 14) (v := ?_) rfl (by kernel_rfl) (by kernel_rfl) (by kernel_rfl) (fun _ _ _ h => h) (Or.inl ⟨by rfl, ?_⟩) (by assumption) ?_
  rotate_left
  · intro w' hSw
    (try dsimp only at hSw)
    go_simp
    try with_reducible rfl
  (try simp only [Act.put, List.getElem_toArray, List.getElem_cons_succ, List.getElem_cons_zero, List.setIfInBounds_toArray, List.set_cons_zero, List.set_cons_succ])
  refine wpAnyH_take (i := 15) (v := ?_) rfl (by kernel_rfl) (by kernel_rfl) (by kernel_rfl) (fun _ _ _ h => h) (Or.inl ⟨by rfl, ?_⟩) (by assumption) ?_
  rotate_left
  · intro w' hSw
    (try dsimp only at hSw)
    go_simp
    try with_reducible rfl
  (try simp only [Act.put, List.getElem_toArray, List.getElem_cons_succ, List.getElem_cons_zero, List.setIfInBounds_toArray, List.set_cons_zero, List.set_cons_succ])
  refine wpAnyH_take (i := 16) (v := ?_) rfl (by kernel_rfl) (by kernel_rfl) (by kernel_rfl) (fun _ _ _ h => h) (Or.inl ⟨by rfl, ?_⟩) (by assumption) ?_
  rotate_left
  · intro w' hSw
    (try dsimp only at hSw)
    obtain ⟨j0, j1, j2, j3, j4, j5, j6, j7, j8, j9, j10, j11⟩ := c12_of hSw.1
    go_simp
    try with_reducible rfl
  (try simp only [Act.put, List.getElem_toArray, List.getElem_cons_succ, List.getElem_cons_zero, List.setIfInBounds_toArray, List.set_cons_zero, List.set_cons_succ])
  refine wpAnyH_take (i := 18) (v := ?_) rfl (by kernel_rfl) (by kernel_rfl) (by kernel_rfl) (fun _ _ _ h => h) (Or.inl ⟨by rfl, ?_⟩) (by assumption) ?_
  rotate_left
  · intro w' hSw
    (try dsimp only at hSw)
    go_simp
    try with_reducible rfl
  (try simp only [Act.put, List.getElem_toArray, List.getElem_cons_succ, List.getElem_cons_zero, List.setIfInBounds_toArray, List.set_cons_zero, List.set_cons_succ])
  refine wpAnyH_ready (rs := [17]) (by kernel_rfl) (by simp) ?_
  refine AllReadyH.cons rfl (fun K' hK => ?_) AllReadyH.nil
  go_simp
  refine (LX.out _ L11).mono ?_
  rintro e w12 ⟨rfl, hb⟩
  have S12 : Blk w12 gX 29 #[.int .i64 xk, .int .i64 xa, .int .i64 xs, .bool xx, .int .i64 xp, .int .i64 xq, .int .i64 xn, .int .i64 xt, .int .i64 xi, .int .i64 xy, .int .i64 xz, .int .i64 xv] ∧ Blk w12 gY 25 #[.int .i64 xk, .int .i64 xa, .int .i64 xs, .bool xx, .int .i64 xp, .int .i64 xq, .int .i64 xn, .int .i64 xt, .int .i64 xi, .int .i64 xy, .int .i64 xz, .int .i64 xv] ∧ Blk w12 gM 25 #[.int .i64 mk, .int .i64 ma, .int .i64 ms, .bool mx, .int .i64 mp, .int .i64 mq, .int .i64 mn, .int .i64 mt, .int .i64 mi, .int .i64 my, .int .i64 mz, .int .i64 mv] ∧ Blk w12 gZ 29 #[.int .i64 mk, .int .i64 ma, .int .i64 ms, .bool mx, .int .i64 mp, .int .i64 mq, .int .i64 mn, .int .i64 mt, .int .i64 mi, .int .i64 my, .int .i64 mz, .int .i64 mv] := ⟨S11.1.below' hb, S11.2.1.below' hb, S11.2.2.1.below' hb, S11.2.2.2.below' hb⟩
  have b12 := κ (CrdB.below_step b11.out hb)
  have L12 := lwb L11 hb
  clear hb b11 L11 S11
  go_wp2_with fail
  refine hK.out _ _ S12 (fun hHeld => ?_)
  clear hK K'
  (try simp only [Act.put, List.getElem_toArray, List.getElem_cons_succ, List.getElem_cons_zero, List.setIfInBounds_toArray, List.set_cons_zero, List.set_cons_succ])
  refine wpAnyH_take (i := 19) (v := ?_) rfl (by kernel_rfl) (by kernel_rfl) (by kernel_rfl) (fun _ _ _ h => h) (Or.inl ⟨by rfl, ?_⟩) (by assumption) ?_
  rotate_left
  · intro w' hSw
    (try dsimp only at hSw)
    go_simp
    try with_reducible rfl
  (try simp only [Act.put, List.getElem_toArray, List.getElem_cons_succ, List.getElem_cons_zero, List.setIfInBounds_toArray, List.set_cons_zero, List.set_cons_succ])
  refine wpAnyH_take (i := 20) (v := ?_) rfl (by kernel_rfl) (by kernel_rfl) (by kernel_rfl) (fun _ _ _ h => h) (Or.inl ⟨by rfl, ?_⟩) (by assumption) ?_
  rotate_left
  · intro w' hSw
    (try dsimp only at hSw)
    go_simp
    try with_reducible rfl
  (try simp only [Act.put, List.getElem_toArray, List.getElem_cons_succ, List.getElem_cons_zero, List.setIfInBounds_toArray, List.set_cons_zero, List.set_cons_succ])
  refine wpAnyH_take (i := 21) (v := ?_) rfl (by kernel_rfl) (by kernel_rfl) (by kernel_rfl) (fun _ _ _ h => h) (Or.inl ⟨by rfl, ?_⟩) (by assumption) ?_
  rotate_left
  · intro w' hSw
    (try dsimp only at hSw)
    go_simp
    try with_reducible rfl
  (try simp only [Act.put, List.getElem_toArray, List.getElem_cons_succ, List.getElem_cons_zero, List.setIfInBounds_toArray, List.set_cons_zero, List.set_cons_succ])
  refine wpAnyH_take (i := 22) (v := ?_) rfl (by kernel_rfl) (by kernel_rfl) (by kernel_rfl) (fun _ _ _ h => h) (Or.inl ⟨by rfl, ?_⟩) (by assumption) ?_
  rotate_left
  · intro w' hSw
    (try dsimp only at hSw)
    go_simp
    try with_reducible rfl
  (try simp only [Act.put, List.getElem_toArray, List.getElem_cons_succ, List.getElem_cons_zero, List.setIfInBounds_toArray, List.set_cons_zero, List.set_cons_succ])
  refine wpAnyH_take (i := 23) (v := ?_) rfl (by kernel_rfl) (by kernel_rfl) (by kernel_rfl) (fun _ _ _ h => h) (Or.inl ⟨by rfl, ?_⟩) (by assumption) ?_
  rotate_left
  · intro w' hSw
    (try dsimp only at hSw)
    go_simp
    try with_reducible rfl
  (try simp only [Act.put, List.getElem_toArray, List.getElem_cons_succ, List.getElem_cons_zero, List.setIfInBounds_toArray, List.set_cons_zero, List.set_cons_succ])
  refine wpAnyH_take (i := 24) (v := ?_) rfl (by kernel_rfl) (by kernel_rfl) (by kernel_rfl) (fun _ _ _ h => h) (Or.inl ⟨by rfl, ?_⟩) (by assumption) ?_
  rotate_left
  · intro w' hSw
    (try dsimp only at hSw)
    obtain ⟨j0, j1, j2, j3, j4, j5, j6, j7, j8, j9, j10, j11⟩ := c12_of hSw.2.2.1
    go_simp
    try with_reducible rfl
  (try simp only [Act.put, List.getElem_toArray, List.getElem_cons_succ, List.getElem_cons_zero, List.setIfInBounds_toArray, List.set_cons_zero, List.set_cons_succ])
  refine wpAnyH_ready (rs := [25]) (by kernel_rfl) (by simp) ?_
  refine AllReadyH.cons rfl (fun K' hK => ?_) AllReadyH.nil
  go_simp
  refine (RM.out _).mono ?_
  rintro e w13 ⟨rfl, hb⟩
  have S13 : Blk w13 gX 29 #[.int .i64 xk, .int .i64 xa, .int .i64 xs, .bool xx, .int .i64 xp, .int .i64 xq, .int .i64 xn, .int .i64 xt, .int .i64 xi, .int .i64 xy, .int .i64 xz, .int .i64 xv] ∧ Blk w13 gY 25 #[.int .i64 xk, .int .i64 xa, .int .i64 xs, .bool xx, .int .i64 xp, .int .i64 xq, .int .i64 xn, .int .i64 xt, .int .i64 xi, .int .i64 xy, .int .i64 xz, .int .i64 xv] ∧ Blk w13 gM 25 #[.int .i64 mk, .int .i64 ma, .int .i64 ms, .bool mx, .int .i64 mp, .int .i64 mq, .int .i64 mn, .int .i64 mt, .int .i64 mi, .int .i64 my, .int .i64 mz, .int .i64 mv] ∧ Blk w13 gZ 29 #[.int .i64 mk, .int .i64 ma, .int .i64 ms, .bool mx, .int .i64 mp, .int .i64 mq, .int .i64 mn, .int .i64 mt, .int .i64 mi, .int .i64 my, .int .i64 mz, .int .i64 mv] := ⟨S12.1.below' hb, S12.2.1.below' hb, S12.2.2.1.below' hb, S12.2.2.2.below' hb⟩
  have b13 := κ (CrdB.below_step b12.out hb)
  have L13 := lwb L12 hb
  clear hb b12 L12 S12
  go_wp2_with fail
  refine hK.out _ _ S13 (fun hHeld => ?_)
  clear hK K'
  (try simp only [Act.put, List.getElem_toArray, List.getElem_cons_succ, List.getElem_cons_zero, List.setIfInBounds_toArray, List.set_cons_zero, List.set_cons_succ])
  refine wpAnyH_take (i := 26) (v := ?_) rfl (by kernel_rfl) (by kernel_rfl) (by kernel_rfl) (fun _ _ _ h => h) (Or.inl ⟨by rfl, ?_⟩) (by assumption) ?_
  rotate_left
  · intro w' hSw
    (try dsimp only at hSw)
    go_simp
    try with_reducible rfl
  (try simp only [Act.put, List.getElem_toArray, List.getElem_cons_succ, List.getElem_cons_zero, List.setIfInBounds_toArray, List.set_cons_zero, List.set_cons_succ])
  refine wpAnyH_take (i := 27) (v := ?_) rfl (by kernel_rfl) (by kernel_rfl) (by kernel_rfl) (fun _ _ _ h => h) (Or.inl ⟨by rfl, ?_⟩) (by assumption) ?_
  rotate_left
  · intro w' hSw
    (try dsimp only at hSw)
    go_simp
    try with_reducible rfl
  (try simp only [Act.put, List.getElem_toArray, List.getElem_cons_succ, List.getElem_cons_zero, List.setIfInBounds_toArray, List.set_cons_zero, List.set_cons_succ])
  refine wpAnyH_take (i := 28) (v := ?_) rfl (by kernel_rfl) (by kernel_rfl) (by kernel_rfl) (fun _ _ _ h => h) (Or.inl ⟨by rfl, ?_⟩) (by assumption) ?_
  rotate_left
  · intro w' hSw
    (try dsimp only at hSw)
    go_simp
    try with_reducible rfl
  (try simp only [Act.put, List.getElem_toArray, List.getElem_cons_succ, List.getElem_cons_zero, List.setIfInBounds_toArray, List.set_cons_zero, List.set_cons_succ])
  refine wpAnyH_take (i := 29) (v := ?_) rfl (by kernel_rfl) (by kernel_rfl) (by kernel_rfl) (fun _ _ _ h => h) (Or.inl ⟨by rfl, ?_⟩) (by assumption) ?_
  rotate_left
  · intro w' hSw
    (try dsimp only at hSw)
    go_simp
    try with_reducible rfl
  (try simp only [Act.put, List.getElem_toArray, List.getElem_cons_succ, List.getElem_cons_zero, List.setIfInBounds_toArray, List.set_cons_zero, List.set_cons_succ])
  refine wpAnyH_take (i := 30) (v := ?_) rfl (by kernel_rfl) (by kernel_rfl) (by kernel_rfl) (fun _ _ _ h => h) (Or.inl ⟨by rfl, ?_⟩) (by assumption) ?_
  rotate_left
  · intro w' hSw
    (try dsimp only at hSw)
    go_simp
    try with_reducible rfl
  (try simp only [Act.put, List.getElem_toArray, List.getElem_cons_succ, List.getElem_cons_zero, List.setIfInBounds_toArray, List.set_cons_zero, List.set_cons_succ])
  refine wpAnyH_take (i := 31) (v := ?_) rfl (by kernel_rfl) (by kernel_rfl) (by kernel_rfl) (fun _ _ _ h => h) (Or.inl ⟨by rfl, ?_⟩) (by assumption) ?_
  rotate_left
  · intro w' hSw
    (try dsimp only at hSw)
    go_simp
    try with_reducible rfl
  (try simp only [Act.put, List.getElem_toArray, List.getElem_cons_succ, List.getElem_cons_zero, List.setIfInBounds_toArray, List.set_cons_zero, List.set_cons_succ])
  refine wpAnyH_take (i := 32) (v := ?_) rfl (by kernel_rfl) (by kernel_rfl) (by kernel_rfl) (fun _ _ _ h => h) (Or.inl ⟨by rfl, ?_⟩) (by assumption) ?_
  rotate_left
  · intro w' hSw
    (try dsimp only at hSw)
    go_simp
    try with_reducible rfl
  (try simp only [Act.put, List.getElem_toArray, List.getElem_cons_succ, List.getElem_cons_zero, List.setIfInBounds_toArray, List.set_cons_zero, List.set_cons_succ])
  refine wpAnyH_take (i := 33) (v := ?_) rfl (by kernel_rfl) (by kernel_rfl) (by kernel_rfl) (fun _ _ _ h => h) (Or.inl ⟨by rfl, ?_⟩) (by assumption) ?_
  rotate_left
  · intro w' hSw
    (try dsimp only at hSw)
    go_simp
    try with_reducible rfl
  (try simp only [Act.put, List.getElem_toArray, List.getElem_cons_succ, List.getElem_cons_zero, List.setIfInBounds_toArray, List.set_cons_zero, List.set_cons_succ])
  refine wpAnyH_done (by kernel_rfl) ?_ _
  go_upto_region 9 with fail
  have b20 := κ b13.out.drew
  have S20 : Blk w13.drew gX 29 #[.int .i64 xk, .int .i64 xa, .int .i64 xs, .bool xx, .int .i64 xp, .int .i64 xq, .int .i64 xn, .int .i64 xt, .int .i64 xi, .int .i64 xy, .int .i64 xz, .int .i64 xv] ∧ Blk w13.drew gY 25 #[.int .i64 xk, .int .i64 xa, .int .i64 xs, .bool xx, .int .i64 xp, .int .i64 xq, .int .i64 xn, .int .i64 xt, .int .i64 xi, .int .i64 xy, .int .i64 xz, .int .i64 xv] ∧ Blk w13.drew gM 25 #[.int .i64 mk, .int .i64 ma, .int .i64 ms, .bool mx, .int .i64 mp, .int .i64 mq, .int .i64 mn, .int .i64 mt, .int .i64 mi, .int .i64 my, .int .i64 mz, .int .i64 mv] ∧ Blk w13.drew gZ 29 #[.int .i64 mk, .int .i64 ma, .int .i64 ms, .bool mx, .int .i64 mp, .int .i64 mq, .int .i64 mn, .int .i64 mt, .int .i64 mi, .int .i64 my, .int .i64 mz, .int .i64 mv] := S13
  have L20 := lwb L13 (Below.refl w13.heap.size w13).drew
  clear b13 S13 L13
  refine wp_region_held_drew (S := (fun w' => Blk w' gX 29 #[.int .i64 xk, .int .i64 xa, .int .i64 xs, .bool xx, .int .i64 xp, .int .i64 xq, .int .i64 xn, .int .i64 xt, .int .i64 xi, .int .i64 xy, .int .i64 xz, .int .i64 xv] ∧ Blk w' gY 25 #[.int .i64 xk, .int .i64 xa, .int .i64 xs, .bool xx, .int .i64 xp, .int .i64 xq, .int .i64 xn, .int .i64 xt, .int .i64 xi, .int .i64 xy, .int .i64 xz, .int .i64 xv] ∧ Blk w' gM 25 #[.int .i64 mk, .int .i64 ma, .int .i64 ms, .bool mx, .int .i64 mp, .int .i64 mq, .int .i64 mn, .int .i64 mt, .int .i64 mi, .int .i64 my, .int .i64 mz, .int .i64 mv] ∧ Blk w' gZ 29 #[.int .i64 mk, .int .i64 ma, .int .i64 ms, .bool mx, .int .i64 mp, .int .i64 mq, .int .i64 mn, .int .i64 mt, .int .i64 mi, .int .i64 my, .int .i64 mz, .int .i64 mv])) (by kernel_rfl) S20 (fun hHeld => ?_)
  refine wpAnyH_take (i := 0) (v := ?_) rfl (by kernel_rfl) (by kernel_rfl) (by kernel_rfl) (fun _ _ _ h => h) (Or.inl ⟨by rfl, ?_⟩) (by assumption) ?_
  rotate_left
  · intro w' hSw
    (try dsimp only at hSw)
    go_simp
    try with_reducible rfl
  (try simp only [Act.put, List.getElem_toArray, List.getElem_cons_succ, List.getElem_cons_zero, List.setIfInBounds_toArray, List.set_cons_zero, List.set_cons_succ])
  refine wpAnyH_take (i := 1) (v := ?_) rfl (by kernel_rfl) (by kernel_rfl) (by kernel_rfl) (fun _ _ _ h => h) (Or.inl ⟨by rfl, ?_⟩) (by assumption) ?_
  rotate_left
  · intro w' hSw
    (try dsimp only at hSw)
    go_simp
    try with_reducible rfl
  (try simp only [Act.put, List.getElem_toArray, List.getElem_cons_succ, List.getElem_cons_zero, List.setIfInBounds_toArray, List.set_cons_zero, List.set_cons_succ])
  refine wpAnyH_take (i := 2) (v := ?_) rfl (by kernel_rfl) (by kernel_rfl) (by kernel_rfl) (fun _ _ _ h => h) (Or.inl ⟨by rfl, ?_⟩) (by assumption) ?_
  rotate_left
  · intro w' hSw
    (try dsimp only at hSw)
    go_simp
    try with_reducible rfl
  (try simp only [Act.put, List.getElem_toArray, List.getElem_cons_succ, List.getElem_cons_zero, List.setIfInBounds_toArray, List.set_cons_zero, List.set_cons_succ])
  refine wpAnyH_take (i := 3) (v := ?_) rfl (by kernel_rfl) (by kernel_rfl) (by kernel_rfl) (fun _ _ _ h => h) (Or.inl ⟨by rfl, ?_⟩) (by assumption) ?_
  rotate_left
  · intro w' hSw
    (try dsimp only at hSw)
    obtain ⟨j0, j1, j2, j3, j4, j5, j6, j7, j8, j9, j10, j11⟩ := c12_of hSw.2.2.2
    go_simp
    try with_reducible rfl
  (try simp only [Act.put, List.getElem_toArray, List.getElem_cons_succ, List.getElem_cons_zero, List.setIfInBounds_toArray, List.set_cons_zero, List.set_cons_succ])
  refine wpAnyH_take (i := 5) (v := ?_) rfl (by kernel_rfl) (by kernel_rfl) (by kernel_rfl) (fun _ _ _ h => h) (Or.inl ⟨by rfl, ?_⟩) (by assumption) ?_
  rotate_left
  · intro w' hSw
    (try dsimp only at hSw)
    obtain ⟨j0, j1, j2, j3, j4, j5, j6, j7, j8, j9, j10, j11⟩ := c12_of hSw.2.2.1
    go_simp
    try with_reducible rfl
  (try simp only [Act.put, List.getElem_toArray, List.getElem_cons_succ, List.getElem_cons_zero, List.setIfInBounds_toArray, List.set_cons_zero, List.set_cons_succ])
  refine wpAnyH_ready (rs := [4]) (by kernel_rfl) (by simp) ?_
  refine AllReadyH.cons rfl (fun K' hK => ?_) AllReadyH.nil
  go_simp
  refine (from_x mk ma ms mp mq mn mt mi my mz mv mx _).mono ?_
  rintro e w21 ⟨rfl, hb⟩
  have S21 : Blk w21 gX 29 #[.int .i64 xk, .int .i64 xa, .int .i64 xs, .bool xx, .int .i64 xp, .int .i64 xq, .int .i64 xn, .int .i64 xt, .int .i64 xi, .int .i64 xy, .int .i64 xz, .int .i64 xv] ∧ Blk w21 gY 25 #[.int .i64 xk, .int .i64 xa, .int .i64 xs, .bool xx, .int .i64 xp, .int .i64 xq, .int .i64 xn, .int .i64 xt, .int .i64 xi, .int .i64 xy, .int .i64 xz, .int .i64 xv] ∧ Blk w21 gM 25 #[.int .i64 mk, .int .i64 ma, .int .i64 ms, .bool mx, .int .i64 mp, .int .i64 mq, .int .i64 mn, .int .i64 mt, .int .i64 mi, .int .i64 my, .int .i64 mz, .int .i64 mv] ∧ Blk w21 gZ 29 #[.int .i64 mk, .int .i64 ma, .int .i64 ms, .bool mx, .int .i64 mp, .int .i64 mq, .int .i64 mn, .int .i64 mt, .int .i64 mi, .int .i64 my, .int .i64 mz, .int .i64 mv] := ⟨S20.1.below' hb, S20.2.1.below' hb, S20.2.2.1.below' hb, S20.2.2.2.below' hb⟩
  have b21 := κ (CrdB.below_step b20.out hb)
  have L21 := lwb L20 hb
  clear hb b20 L20 S20
  go_wp2_with fail
  refine hK.out _ _ S21 (fun hHeld => ?_)
  clear hK K'
  (try simp only [Act.put, List.getElem_toArray, List.getElem_cons_succ, List.getElem_cons_zero, List.setIfInBounds_toArray, List.set_cons_zero, List.set_cons_succ])
  refine wpAnyH_take (i := 6) (v := ?_) rfl (by kernel_rfl) (by kernel_rfl) (by kernel_rfl) (fun _ _ _ h => h) (Or.inl ⟨by rfl, ?_⟩) (by assumption) ?_
  rotate_left
  · intro w' hSw
    (try dsimp only at hSw)
    go_simp
    try with_reducible rfl
  (try simp only [Act.put, List.getElem_toArray, List.getElem_cons_succ, List.getElem_cons_zero, List.setIfInBounds_toArray, List.set_cons_zero, List.set_cons_succ])
  refine wpAnyH_take (i := 7) (v := ?_) rfl (by kernel_rfl) (by kernel_rfl) (by kernel_rfl) (fun _ _ _ h => h) (Or.inl ⟨by rfl, ?_⟩) (by assumption) ?_
  rotate_left
  · intro w' hSw
    (try dsimp only at hSw)
    go_simp
    try with_reducible rfl
  (try simp only [Act.put, List.getElem_toArray, List.getElem_cons_succ, List.getElem_cons_zero, List.setIfInBounds_toArray, List.set_cons_zero, List.set_cons_succ])
  refine wpAnyH_take (i := 8) (v := ?_) rfl (by kernel_rfl) (by kernel_rfl) (by kernel_rfl) (fun _ _ _ h => h) (Or.inl ⟨by rfl, ?_⟩) (by assumption) ?_
  rotate_left
  · intro w' hSw
    (try dsimp only at hSw)
    go_simp
    try with_reducible rfl
  (try simp only [Act.put, List.getElem_toArray, List.getElem_cons_succ, List.getElem_cons_zero, List.setIfInBounds_toArray, List.set_cons_zero, List.set_cons_succ])
  refine wpAnyH_take (i := 9) (v := ?_) rfl (by kernel_rfl) (by kernel_rfl) (by kernel_rfl) (fun _ _ _ h => h) (Or.inl ⟨by rfl, ?_⟩) (by assumption) ?_
  rotate_left
  · intro w' hSw
    (try dsimp only at hSw)
    obtain ⟨j0, j1, j2, j3, j4, j5, j6, j7, j8, j9, j10, j11⟩ := c12_of hSw.2.2.1
    go_simp
    try with_reducible rfl
  (try simp only [Act.put, List.getElem_toArray, List.getElem_cons_succ, List.getElem_cons_zero, List.setIfInBounds_toArray, List.set_cons_zero, List.set_cons_succ])
  refine wpAnyH_take (i := 11) (v := ?_) rfl (by kernel_rfl) (by kernel_rfl) (by kernel_rfl) (fun _ _ _ h => h) (Or.inl ⟨by rfl, ?_⟩) (by assumption) ?_
  rotate_left
  · intro w' hSw
    (try dsimp only at hSw)
    go_simp
    try with_reducible rfl
  (try simp only [Act.put, List.getElem_toArray, List.getElem_cons_succ, List.getElem_cons_zero, List.setIfInBounds_toArray, List.set_cons_zero, List.set_cons_succ])
  refine wpAnyH_take (i := 12) (v := ?_) rfl (by kernel_rfl) (by kernel_rfl) (by kernel_rfl) (fun _ _ _ h => h) (Or.inl ⟨by rfl, ?_⟩) (by assumption) ?_
  rotate_left
  · intro w' hSw
    (try dsimp only at hSw)
    obtain ⟨j0, j1, j2, j3, j4, j5, j6, j7, j8, j9, j10, j11⟩ := c12_of hSw.2.2.2
    go_simp
    try with_reducible rfl
  (try simp only [Act.put, List.getElem_toArray, List.getElem_cons_succ, List.getElem_cons_zero, List.setIfInBounds_toArray, List.set_cons_zero, List.set_cons_succ])
  refine wpAnyH_ready (rs := [10]) (by kernel_rfl) (by simp) ?_
  refine AllReadyH.cons rfl (fun K' hK => ?_) AllReadyH.nil
  go_simp
  refine (order_any ma ms mx mp mq mn mt _).mono ?_
  rintro e w22 ⟨rfl, hb⟩
  have S22 : Blk w22 gX 29 #[.int .i64 xk, .int .i64 xa, .int .i64 xs, .bool xx, .int .i64 xp, .int .i64 xq, .int .i64 xn, .int .i64 xt, .int .i64 xi, .int .i64 xy, .int .i64 xz, .int .i64 xv] ∧ Blk w22 gY 25 #[.int .i64 xk, .int .i64 xa, .int .i64 xs, .bool xx, .int .i64 xp, .int .i64 xq, .int .i64 xn, .int .i64 xt, .int .i64 xi, .int .i64 xy, .int .i64 xz, .int .i64 xv] ∧ Blk w22 gM 25 #[.int .i64 mk, .int .i64 ma, .int .i64 ms, .bool mx, .int .i64 mp, .int .i64 mq, .int .i64 mn, .int .i64 mt, .int .i64 mi, .int .i64 my, .int .i64 mz, .int .i64 mv] ∧ Blk w22 gZ 29 #[.int .i64 mk, .int .i64 ma, .int .i64 ms, .bool mx, .int .i64 mp, .int .i64 mq, .int .i64 mn, .int .i64 mt, .int .i64 mi, .int .i64 my, .int .i64 mz, .int .i64 mv] := ⟨S21.1.below' hb, S21.2.1.below' hb, S21.2.2.1.below' hb, S21.2.2.2.below' hb⟩
  have b22 := κ (CrdB.below_step b21.out hb)
  have L22 := lwb L21 hb
  clear hb b21 L21 S21
  go_wp2_with fail
  refine hK.out _ _ S22 (fun hHeld => ?_)
  clear hK K'
  (try simp only [Act.put, List.getElem_toArray, List.getElem_cons_succ, List.getElem_cons_zero, List.setIfInBounds_toArray, List.set_cons_zero, List.set_cons_succ])
  refine wpAnyH_take (i := 13) (v := ?_) rfl (by kernel_rfl) (by kernel_rfl) (by kernel_rfl) (fun _ _ _ h => h) (Or.inl ⟨by rfl, ?_⟩) (by assumption) ?_
  rotate_left
  · intro w' hSw
    (try dsimp only at hSw)
    go_simp
    try with_reducible rfl
  (try simp only [Act.put, List.getElem_toArray, List.getElem_cons_succ, List.getElem_cons_zero, List.setIfInBounds_toArray, List.set_cons_zero, List.set_cons_succ])
  refine wpAnyH_take (i := 14) (v := ?_) rfl (by kernel_rfl) (by kernel_rfl) (by kernel_rfl) (fun _ _ _ h => h) (Or.inl ⟨by rfl, ?_⟩) (by assumption) ?_
  rotate_left
  · intro w' hSw
    (try dsimp only at hSw)
    go_simp
    try with_reducible rfl
  (try simp only [Act.put, List.getElem_toArray, List.getElem_cons_succ, List.getElem_cons_zero, List.setIfInBounds_toArray, List.set_cons_zero, List.set_cons_succ])
  refine wpAnyH_take (i := 15) (v := ?_) rfl (by kernel_rfl) (by kernel_rfl) (by kernel_rfl) (fun _ _ _ h => h) (Or.inl ⟨by rfl, ?_⟩) (by assumption) ?_
  rotate_left
  · intro w' hSw
    (try dsimp only at hSw)
    go_simp
    try with_reducible rfl
  (try simp only [Act.put, List.getElem_toArray, List.getElem_cons_succ, List.getElem_cons_zero, List.setIfInBounds_toArray, List.set_cons_zero, List.set_cons_succ])
  refine wpAnyH_take (i := 16) (v := ?_) rfl (by kernel_rfl) (by kernel_rfl) (by kernel_rfl) (fun _ _ _ h => h) (Or.inl ⟨by rfl, ?_⟩) (by assumption) ?_
  rotate_left
  · intro w' hSw
    (try dsimp only at hSw)
    go_simp
    try with_reducible rfl
  (try simp only [Act.put, List.getElem_toArray, List.getElem_cons_succ, List.getElem_cons_zero, List.setIfInBounds_toArray, List.set_cons_zero, List.set_cons_succ])
  refine wpAnyH_done (by kernel_rfl) ?_ _
  go_wp2_with fail
  go_ret
  exact ⟨rfl, b22.out⟩
theorem short_tf (l lm : List UInt8) (mk ma ms mp mq mn mt mi my mz mv : Int) (mx : Bool) (xk xa xs xp xq xn xt xi xy xz xv : Int) (xx : Bool) (w : World) (hL : Hid (Lw w)) (hl : ¬ (300 : Int) < (l.length : Int)) (wm : Hid (WfM (⟨mk, ma, ms, mx, mp, mq, mn, mt, mi, my, mz, mv⟩ : M))) (wx : Hid (WfM (⟨xk, xa, xs, xx, xp, xq, xn, xt, xi, xy, xz, xv⟩ : M))) (hlm : Hid (lineL (⟨mk, ma, ms, mx, mp, mq, mn, mt, mi, my, mz, mv⟩ : M) = lm))
    (hP : Hid (parseP l = ((⟨xk, xa, xs, xx, xp, xq, xn, xt, xi, xy, xz, xv⟩ : M), true))) (hX : Hid (lineL (⟨xk, xa, xs, xx, xp, xq, xn, xt, xi, xy, xz, xv⟩ : M) = l)) (hm : Hid (parseP lm = (m0, false))) (q : (lm == []) = true) (lle : (lm.length : Int) ≤ 200) : Calls Tryz.prog 3 #[.agg #[.int .i64 mk, .int .i64 ma, .int .i64 ms, .bool mx, .int .i64 mp, .int .i64 mq, .int .i64 mn, .int .i64 mt, .int .i64 mi, .int .i64 my, .int .i64 mz, .int .i64 mv], sv l] w (Law3.MadeB true w) := by
  have PX : Hid (∀ W, Hid (Lw W) → Calls Tryz.prog 5 #[sv l] W (fun e w' => e = .returned (.tuple #[.agg #[.int .i64 xk, .int .i64 xa, .int .i64 xs, .bool xx, .int .i64 xp, .int .i64 xq, .int .i64 xn, .int .i64 xt, .int .i64 xi, .int .i64 xy, .int .i64 xz, .int .i64 xv], .bool true]) ∧ Below W.heap.size W w')) := κ (fun W h => by have c := Spp.sparse_any l W h (by omega); rw [hP.out] at c; exact c)
  have PY : Hid (∀ W, Calls Tryz.prog 6 #[sv l] W (fun e w' => e = .returned (.tuple #[.agg #[.int .i64 xk, .int .i64 xa, .int .i64 xs, .bool xx, .int .i64 xp, .int .i64 xq, .int .i64 xn, .int .i64 xt, .int .i64 xi, .int .i64 xy, .int .i64 xz, .int .i64 xv], .bool true]) ∧ Below W.heap.size W w')) := κ (fun W => by have c := Rsp.rparse_any l W (by omega); rw [parse_same, hP.out] at c; exact c)
  have PZ : Hid (∀ W, Hid (Lw W) → Calls Tryz.prog 5 #[sv lm] W (fun e w' => e = .returned (.tuple #[.agg #[.int .i64 0, .int .i64 0, .int .i64 0, .bool false, .int .i64 0, .int .i64 0, .int .i64 0, .int .i64 0, .int .i64 0, .int .i64 0, .int .i64 0, .int .i64 0], .bool false]) ∧ Below W.heap.size W w')) := κ (fun W h => by have c := Spp.sparse_any lm W h (by omega); rw [hm.out] at c; exact c)
  have LM : Hid (∀ W, Hid (Lw W) → Calls Tryz.prog 7 #[.agg #[.int .i64 mk, .int .i64 ma, .int .i64 ms, .bool mx, .int .i64 mp, .int .i64 mq, .int .i64 mn, .int .i64 mt, .int .i64 mi, .int .i64 my, .int .i64 mz, .int .i64 mv]] W (fun e w' => e = .returned (sv lm) ∧ Below W.heap.size W w')) := κ (fun W h => by have c := sline_any (⟨mk, ma, ms, mx, mp, mq, mn, mt, mi, my, mz, mv⟩ : M) W wm.out h; rw [hlm.out] at c; exact c)
  have RM : Hid (∀ W, Calls Tryz.prog 10 #[.agg #[.int .i64 mk, .int .i64 ma, .int .i64 ms, .bool mx, .int .i64 mp, .int .i64 mq, .int .i64 mn, .int .i64 mt, .int .i64 mi, .int .i64 my, .int .i64 mz, .int .i64 mv]] W (fun e w' => e = .returned (sv lm) ∧ Below W.heap.size W w')) := κ (fun W => by have c := Rsl.rline_any (⟨mk, ma, ms, mx, mp, mq, mn, mt, mi, my, mz, mv⟩ : M) W wm.out; rw [hlm.out] at c; exact c)
  have LX : Hid (∀ W, Hid (Lw W) → Calls Tryz.prog 7 #[.agg #[.int .i64 xk, .int .i64 xa, .int .i64 xs, .bool xx, .int .i64 xp, .int .i64 xq, .int .i64 xn, .int .i64 xt, .int .i64 xi, .int .i64 xy, .int .i64 xz, .int .i64 xv]] W (fun e w' => e = .returned (sv l) ∧ Below W.heap.size W w')) := κ (fun W h => by have c := sline_any (⟨xk, xa, xs, xx, xp, xq, xn, xt, xi, xy, xz, xv⟩ : M) W wx.out h; rw [hX.out] at c; exact c)
  have b0 := κ (β w (.cells #[.int .i64 mk, .int .i64 ma, .int .i64 ms, .bool mx, .int .i64 mp, .int .i64 mq, .int .i64 mn, .int .i64 mt, .int .i64 mi, .int .i64 my, .int .i64 mz, .int .i64 mv] 25))
  have k0 := κ (δ w 25 #[.int .i64 mk, .int .i64 ma, .int .i64 ms, .bool mx, .int .i64 mp, .int .i64 mq, .int .i64 mn, .int .i64 mt, .int .i64 mi, .int .i64 my, .int .i64 mz, .int .i64 mv] w.heap.size rfl)
  have L0 := lwb hL b0.out
  have hz := len_x l
  have eX : eqM (⟨xk, xa, xs, xx, xp, xq, xn, xt, xi, xy, xz, xv⟩ : M) (⟨xk, xa, xs, xx, xp, xq, xn, xt, xi, xy, xz, xv⟩ : M) = true := eqM_self _
  have eMm : eqM (⟨mk, ma, ms, mx, mp, mq, mn, mt, mi, my, mz, mv⟩ : M) (⟨mk, ma, ms, mx, mp, mq, mn, mt, mi, my, mz, mv⟩ : M) = true := eqM_self _
  clear hL hlm hP hX hm wm wx
  go_enter Tryz.func3, Tryz.ntmps3
  go_wp2_with fail
  clear hz
  generalize w.alloc (.cells #[.int .i64 mk, .int .i64 ma, .int .i64 ms, .bool mx, .int .i64 mp, .int .i64 mq, .int .i64 mn, .int .i64 mt, .int .i64 mi, .int .i64 my, .int .i64 mz, .int .i64 mv] 25) = w0 at b0 k0 L0 ⊢
  generalize w.heap.size = gM at k0 ⊢
  refine (PX.out w0 L0).mono ?_
  rintro e w1 ⟨rfl, hb1⟩
  have u1 := κ (hb1.alloc hb1.size (.cells #[.int .i64 xk, .int .i64 xa, .int .i64 xs, .bool xx, .int .i64 xp, .int .i64 xq, .int .i64 xn, .int .i64 xt, .int .i64 xi, .int .i64 xy, .int .i64 xz, .int .i64 xv] 29))
  have b1 := κ (CrdB.below_step b0.out u1.out)
  have k1 := κ (k0.out.below' u1.out)
  have L1 := lwb L0 u1.out
  have x1 := κ (δ w1 29 #[.int .i64 xk, .int .i64 xa, .int .i64 xs, .bool xx, .int .i64 xp, .int .i64 xq, .int .i64 xn, .int .i64 xt, .int .i64 xi, .int .i64 xy, .int .i64 xz, .int .i64 xv] w1.heap.size rfl)
  clear hb1 u1 b0 k0 L0 PX
  go_wp2_with fail
  generalize w1.alloc (.cells #[.int .i64 xk, .int .i64 xa, .int .i64 xs, .bool xx, .int .i64 xp, .int .i64 xq, .int .i64 xn, .int .i64 xt, .int .i64 xi, .int .i64 xy, .int .i64 xz, .int .i64 xv] 29) = w2 at b1 k1 L1 x1 ⊢
  generalize w1.heap.size = gX at x1 ⊢
  refine (PY.out w2).mono ?_
  rintro e w3 ⟨rfl, hb1⟩
  have u1 := κ (hb1.alloc hb1.size (.cells #[.int .i64 xk, .int .i64 xa, .int .i64 xs, .bool xx, .int .i64 xp, .int .i64 xq, .int .i64 xn, .int .i64 xt, .int .i64 xi, .int .i64 xy, .int .i64 xz, .int .i64 xv] 25))
  have b3 := κ (CrdB.below_step b1.out u1.out)
  have k3 := κ (k1.out.below' u1.out)
  have L3 := lwb L1 u1.out
  have x3 := κ (x1.out.below' u1.out)
  have y3 := κ (δ w3 25 #[.int .i64 xk, .int .i64 xa, .int .i64 xs, .bool xx, .int .i64 xp, .int .i64 xq, .int .i64 xn, .int .i64 xt, .int .i64 xi, .int .i64 xy, .int .i64 xz, .int .i64 xv] w3.heap.size rfl)
  clear hb1 u1 b1 k1 L1 x1 PY
  obtain ⟨j0, j1, j2, j3, j4, j5, j6, j7, j8, j9, j10, j11⟩ := c12_of k3.out
  go_wp2_with fail
  clear j0 j1 j2 j3 j4 j5 j6 j7 j8 j9 j10 j11
  generalize w3.alloc (.cells #[.int .i64 xk, .int .i64 xa, .int .i64 xs, .bool xx, .int .i64 xp, .int .i64 xq, .int .i64 xn, .int .i64 xt, .int .i64 xi, .int .i64 xy, .int .i64 xz, .int .i64 xv] 25) = w4 at b3 k3 L3 x3 y3 ⊢
  generalize w3.heap.size = gY at y3 ⊢
  refine (to_x mk ma ms mp mq mn mt mi my mz mv mx w4).mono ?_
  rintro e w5 ⟨rfl, hb1⟩
  have b5 := κ (CrdB.below_step b3.out hb1)
  have k5 := κ (k3.out.below' hb1)
  have L5 := lwb L3 hb1
  have x5 := κ (x3.out.below' hb1)
  have y5 := κ (y3.out.below' hb1)
  clear hb1 b3 k3 L3 x3 y3
  go_wp2_with fail
  refine (LM.out w5 L5).mono ?_
  rintro e w6 ⟨rfl, hb1⟩
  have b6 := κ (CrdB.below_step b5.out hb1)
  have k6 := κ (k5.out.below' hb1)
  have L6 := lwb L5 hb1
  have x6 := κ (x5.out.below' hb1)
  have y6 := κ (y5.out.below' hb1)
  clear hb1 b5 k5 L5 x5 y5 LM
  go_wp2_with fail
  refine (PZ.out w6 L6).mono ?_
  rintro e w7 ⟨rfl, hb1⟩
  have u1 := κ (hb1.alloc hb1.size (.cells #[.int .i64 0, .int .i64 0, .int .i64 0, .bool false, .int .i64 0, .int .i64 0, .int .i64 0, .int .i64 0, .int .i64 0, .int .i64 0, .int .i64 0, .int .i64 0] 29))
  have b8 := κ (CrdB.below_step b6.out u1.out)
  have k8 := κ (k6.out.below' u1.out)
  have L8 := lwb L6 u1.out
  have x8 := κ (x6.out.below' u1.out)
  have y8 := κ (y6.out.below' u1.out)
  have z8 := κ (δ w7 29 #[.int .i64 0, .int .i64 0, .int .i64 0, .bool false, .int .i64 0, .int .i64 0, .int .i64 0, .int .i64 0, .int .i64 0, .int .i64 0, .int .i64 0, .int .i64 0] w7.heap.size rfl)
  clear hb1 u1 b6 k6 L6 x6 y6 PZ
  go_upto_region 7 with fail
  generalize w7.alloc (.cells #[.int .i64 0, .int .i64 0, .int .i64 0, .bool false, .int .i64 0, .int .i64 0, .int .i64 0, .int .i64 0, .int .i64 0, .int .i64 0, .int .i64 0, .int .i64 0] 29) = w8 at b8 k8 L8 x8 y8 z8 ⊢
  generalize w7.heap.size = gZ at z8 ⊢
  have b9 := κ b8.out.drew
  have S9 : Blk w8.drew gX 29 #[.int .i64 xk, .int .i64 xa, .int .i64 xs, .bool xx, .int .i64 xp, .int .i64 xq, .int .i64 xn, .int .i64 xt, .int .i64 xi, .int .i64 xy, .int .i64 xz, .int .i64 xv] ∧ Blk w8.drew gY 25 #[.int .i64 xk, .int .i64 xa, .int .i64 xs, .bool xx, .int .i64 xp, .int .i64 xq, .int .i64 xn, .int .i64 xt, .int .i64 xi, .int .i64 xy, .int .i64 xz, .int .i64 xv] ∧ Blk w8.drew gM 25 #[.int .i64 mk, .int .i64 ma, .int .i64 ms, .bool mx, .int .i64 mp, .int .i64 mq, .int .i64 mn, .int .i64 mt, .int .i64 mi, .int .i64 my, .int .i64 mz, .int .i64 mv] ∧ Blk w8.drew gZ 29 #[.int .i64 0, .int .i64 0, .int .i64 0, .bool false, .int .i64 0, .int .i64 0, .int .i64 0, .int .i64 0, .int .i64 0, .int .i64 0, .int .i64 0, .int .i64 0] := ⟨x8.out, y8.out, k8.out, z8.out⟩
  have L9 := lwb L8 (Below.refl w8.heap.size w8).drew
  clear b8 k8 L8 x8 y8 z8
  refine wp_region_held_drew (S := (fun w' => Blk w' gX 29 #[.int .i64 xk, .int .i64 xa, .int .i64 xs, .bool xx, .int .i64 xp, .int .i64 xq, .int .i64 xn, .int .i64 xt, .int .i64 xi, .int .i64 xy, .int .i64 xz, .int .i64 xv] ∧ Blk w' gY 25 #[.int .i64 xk, .int .i64 xa, .int .i64 xs, .bool xx, .int .i64 xp, .int .i64 xq, .int .i64 xn, .int .i64 xt, .int .i64 xi, .int .i64 xy, .int .i64 xz, .int .i64 xv] ∧ Blk w' gM 25 #[.int .i64 mk, .int .i64 ma, .int .i64 ms, .bool mx, .int .i64 mp, .int .i64 mq, .int .i64 mn, .int .i64 mt, .int .i64 mi, .int .i64 my, .int .i64 mz, .int .i64 mv] ∧ Blk w' gZ 29 #[.int .i64 0, .int .i64 0, .int .i64 0, .bool false, .int .i64 0, .int .i64 0, .int .i64 0, .int .i64 0, .int .i64 0, .int .i64 0, .int .i64 0, .int .i64 0])) (by kernel_rfl) S9 (fun hHeld => ?_)
  refine wpAnyH_ready (rs := [0]) (by kernel_rfl) (by simp) ?_
  refine AllReadyH.cons rfl (fun K' hK => ?_) AllReadyH.nil
  go_simp
  refine (told13_any _ L9).mono ?_
  rintro e w10 ⟨rfl, hb⟩
  have S10 : Blk w10 gX 29 #[.int .i64 xk, .int .i64 xa, .int .i64 xs, .bool xx, .int .i64 xp, .int .i64 xq, .int .i64 xn, .int .i64 xt, .int .i64 xi, .int .i64 xy, .int .i64 xz, .int .i64 xv] ∧ Blk w10 gY 25 #[.int .i64 xk, .int .i64 xa, .int .i64 xs, .bool xx, .int .i64 xp, .int .i64 xq, .int .i64 xn, .int .i64 xt, .int .i64 xi, .int .i64 xy, .int .i64 xz, .int .i64 xv] ∧ Blk w10 gM 25 #[.int .i64 mk, .int .i64 ma, .int .i64 ms, .bool mx, .int .i64 mp, .int .i64 mq, .int .i64 mn, .int .i64 mt, .int .i64 mi, .int .i64 my, .int .i64 mz, .int .i64 mv] ∧ Blk w10 gZ 29 #[.int .i64 0, .int .i64 0, .int .i64 0, .bool false, .int .i64 0, .int .i64 0, .int .i64 0, .int .i64 0, .int .i64 0, .int .i64 0, .int .i64 0, .int .i64 0] := ⟨S9.1.below' hb, S9.2.1.below' hb, S9.2.2.1.below' hb, S9.2.2.2.below' hb⟩
  have b10 := κ (CrdB.below_step b9.out hb)
  have L10 := lwb L9 hb
  clear hb b9 L9 S9
  go_wp2_with fail
  refine hK.out _ _ S10 (fun hHeld => ?_)
  clear hK K'
  (try simp only [Act.put, List.getElem_toArray, List.getElem_cons_succ, List.getElem_cons_zero, List.setIfInBounds_toArray, List.set_cons_zero, List.set_cons_succ])
  refine wpAnyH_take (i := 1) (v := ?_) rfl (by kernel_rfl) (by kernel_rfl) (by kernel_rfl) (fun _ _ _ h => h) (Or.inl ⟨by rfl, ?_⟩) (by assumption) ?_
  rotate_left
  · intro w' hSw
    (try dsimp only at hSw)
    go_simp
    try with_reducible rfl
  (try simp only [Act.put, List.getElem_toArray, List.getElem_cons_succ, List.getElem_cons_zero, List.setIfInBounds_toArray, List.set_cons_zero, List.set_cons_succ])
  refine wpAnyH_take (i := 2) (v := ?_) rfl (by kernel_rfl) (by kernel_rfl) (by kernel_rfl) (fun _ _ _ h => h) (Or.inl ⟨by rfl, ?_⟩) (by assumption) ?_
  rotate_left
  · intro w' hSw
    (try dsimp only at hSw)
    go_simp
    try with_reducible rfl
  (try simp only [Act.put, List.getElem_toArray, List.getElem_cons_succ, List.getElem_cons_zero, List.setIfInBounds_toArray, List.set_cons_zero, List.set_cons_succ])
  refine wpAnyH_take (i := 3) (v := ?_) rfl (by kernel_rfl) (by kernel_rfl) (by kernel_rfl) (fun _ _ _ h => h) (Or.inl ⟨by rfl, ?_⟩) (by assumption) ?_
  rotate_left
  · intro w' hSw
    (try dsimp only at hSw)
    obtain ⟨j0, j1, j2, j3, j4, j5, j6, j7, j8, j9, j10, j11⟩ := c12_of hSw.1
    go_simp
    try with_reducible rfl
  (try simp only [Act.put, List.getElem_toArray, List.getElem_cons_succ, List.getElem_cons_zero, List.setIfInBounds_toArray, List.set_cons_zero, List.set_cons_succ])
  refine wpAnyH_take (i := 5) (v := ?_) rfl (by kernel_rfl) (by kernel_rfl) (by kernel_rfl) (fun _ _ _ h => h) (Or.inl ⟨by rfl, ?_⟩) (by assumption) ?_
  rotate_left
  · intro w' hSw
    (try dsimp only at hSw)
    obtain ⟨j0, j1, j2, j3, j4, j5, j6, j7, j8, j9, j10, j11⟩ := c12_of hSw.2.1
    go_simp
    try with_reducible rfl
  (try simp only [Act.put, List.getElem_toArray, List.getElem_cons_succ, List.getElem_cons_zero, List.setIfInBounds_toArray, List.set_cons_zero, List.set_cons_succ])
  refine wpAnyH_ready (rs := [4]) (by kernel_rfl) (by simp) ?_
  refine AllReadyH.cons rfl (fun K' hK => ?_) AllReadyH.nil
  go_simp
  refine (from_x xk xa xs xp xq xn xt xi xy xz xv xx _).mono ?_
  rintro e w11 ⟨rfl, hb⟩
  have S11 : Blk w11 gX 29 #[.int .i64 xk, .int .i64 xa, .int .i64 xs, .bool xx, .int .i64 xp, .int .i64 xq, .int .i64 xn, .int .i64 xt, .int .i64 xi, .int .i64 xy, .int .i64 xz, .int .i64 xv] ∧ Blk w11 gY 25 #[.int .i64 xk, .int .i64 xa, .int .i64 xs, .bool xx, .int .i64 xp, .int .i64 xq, .int .i64 xn, .int .i64 xt, .int .i64 xi, .int .i64 xy, .int .i64 xz, .int .i64 xv] ∧ Blk w11 gM 25 #[.int .i64 mk, .int .i64 ma, .int .i64 ms, .bool mx, .int .i64 mp, .int .i64 mq, .int .i64 mn, .int .i64 mt, .int .i64 mi, .int .i64 my, .int .i64 mz, .int .i64 mv] ∧ Blk w11 gZ 29 #[.int .i64 0, .int .i64 0, .int .i64 0, .bool false, .int .i64 0, .int .i64 0, .int .i64 0, .int .i64 0, .int .i64 0, .int .i64 0, .int .i64 0, .int .i64 0] := ⟨S10.1.below' hb, S10.2.1.below' hb, S10.2.2.1.below' hb, S10.2.2.2.below' hb⟩
  have b11 := κ (CrdB.below_step b10.out hb)
  have L11 := lwb L10 hb
  clear hb b10 L10 S10
  go_wp2_with fail
  refine hK.out _ _ S11 (fun hHeld => ?_)
  clear hK K'
  (try simp only [Act.put, List.getElem_toArray, List.getElem_cons_succ, List.getElem_cons_zero, List.setIfInBounds_toArray, List.set_cons_zero, List.set_cons_succ])
  refine wpAnyH_take (i := 6) (v := ?_) rfl (by kernel_rfl) (by kernel_rfl) (by kernel_rfl) (fun _ _ _ h => h) (Or.inl ⟨by rfl, ?_⟩) (by assumption) ?_
  rotate_left
  · intro w' hSw
    (try dsimp only at hSw)
    go_simp
    try with_reducible rfl
  (try simp only [Act.put, List.getElem_toArray, List.getElem_cons_succ, List.getElem_cons_zero, List.setIfInBounds_toArray, List.set_cons_zero, List.set_cons_succ])
  refine wpAnyH_take (i := 7) (v := ?_) rfl (by kernel_rfl) (by kernel_rfl) (by kernel_rfl) (fun _ _ _ h => h) (Or.inl ⟨by rfl, ?_⟩) (by assumption) ?_
  rotate_left
  · intro w' hSw
    (try dsimp only at hSw)
    go_simp
    try with_reducible rfl
  (try simp only [Act.put, List.getElem_toArray, List.getElem_cons_succ, List.getElem_cons_zero, List.setIfInBounds_toArray, List.set_cons_zero, List.set_cons_succ])
  refine wpAnyH_take (i := 8) (v := ?_) rfl (by kernel_rfl) (by kernel_rfl) (by kernel_rfl) (fun _ _ _ h => h) (Or.inl ⟨by rfl, ?_⟩) (by assumption) ?_
  rotate_left
  · intro w' hSw
    (try dsimp only at hSw)
    go_simp
    try with_reducible rfl
  (try simp only [Act.put, List.getElem_toArray, List.getElem_cons_succ, List.getElem_cons_zero, List.setIfInBounds_toArray, List.set_cons_zero, List.set_cons_succ])
  refine wpAnyH_take (i := 9) (v := ?_) rfl (by kernel_rfl) (by kernel_rfl) (by kernel_rfl) (fun _ _ _ h => h) (Or.inl ⟨by rfl, ?_⟩) (by assumption) ?_
  rotate_left
  · intro w' hSw
    (try dsimp only at hSw)
    go_simp
    try with_reducible rfl
  (try simp only [Act.put, List.getElem_toArray, List.getElem_cons_succ, List.getElem_cons_zero, List.setIfInBounds_toArray, List.set_cons_zero, List.set_cons_succ])
  refine wpAnyH_take (i := 10) (v := ?_) rfl (by kernel_rfl) (by kernel_rfl) (by kernel_rfl) (fun _ _ _ h => h) (Or.inl ⟨by rfl, ?_⟩) (by assumption) ?_
  rotate_left
  · intro w' hSw
    (try dsimp only at hSw)
    go_simp
    try with_reducible rfl
  (try simp only [Act.put, List.getElem_toArray, List.getElem_cons_succ, List.getElem_cons_zero, List.setIfInBounds_toArray, List.set_cons_zero, List.set_cons_succ])
  refine wpAnyH_take (i := 11) (v := ?_) rfl (by kernel_rfl) (by kernel_rfl) (by kernel_rfl) (fun _ _ _ h => h) (Or.inl ⟨by rfl, ?_⟩) (by assumption) ?_
  rotate_left
  · intro w' hSw
    (try dsimp only at hSw)
    go_simp
    try with_reducible rfl
  (try simp only [Act.put, List.getElem_toArray, List.getElem_cons_succ, List.getElem_cons_zero, List.setIfInBounds_toArray, List.set_cons_zero, List.set_cons_succ])
  refine wpAnyH_take (i := 12) (v := ?_) rfl (by kernel_rfl) (by kernel_rfl) (by kernel_rfl) (fun _ _ _ h => h) (Or.inl ⟨by rfl, ?_⟩) (by assumption) ?_
  rotate_left
  · intro w' hSw
    (try dsimp only at hSw)
    go_simp
    try with_reducible rfl
  (try simp only [Act.put, List.getElem_toArray, List.getElem_cons_succ, List.getElem_cons_zero, List.setIfInBounds_toArray, List.set_cons_zero, List.set_cons_succ])
  refine wpAnyH_take (i := 13) (v := ?_) rfl (by kernel_rfl) (by kernel_rfl) (by kernel_rfl) (fun _ _ _ h => h) (Or.inl ⟨by rfl, ?_⟩) (by assumption) ?_
  rotate_left
  · intro w' hSw
    (try dsimp only at hSw)
    go_simp
    try with_reducible rfl
  (try simp only [Act.put, List.getElem_toArray, List.getElem_cons_succ, List.getElem_cons_zero, List.setIfInBounds_toArray, List.set_cons_zero, List.set_cons_succ])
  refine wpAnyH_take (i := 14) (v := ?_) rfl (by kernel_rfl) (by kernel_rfl) (by kernel_rfl) (fun _ _ _ h => h) (Or.inl ⟨by rfl, ?_⟩) (by assumption) ?_
  rotate_left
  · intro w' hSw
    (try dsimp only at hSw)
    go_simp
    try with_reducible rfl
  (try simp only [Act.put, List.getElem_toArray, List.getElem_cons_succ, List.getElem_cons_zero, List.setIfInBounds_toArray, List.set_cons_zero, List.set_cons_succ])
  refine wpAnyH_take (i := 15) (v := ?_) rfl (by kernel_rfl) (by kernel_rfl) (by kernel_rfl) (fun _ _ _ h => h) (Or.inl ⟨by rfl, ?_⟩) (by assumption) ?_
  rotate_left
  · intro w' hSw
    (try dsimp only at hSw)
    go_simp
    try with_reducible rfl
  (try simp only [Act.put, List.getElem_toArray, List.getElem_cons_succ, List.getElem_cons_zero, List.setIfInBounds_toArray, List.set_cons_zero, List.set_cons_succ])
  refine wpAnyH_take (i := 16) (v := ?_) rfl (by kernel_rfl) (by kernel_rfl) (by kernel_rfl) (fun _ _ _ h => h) (Or.inl ⟨by rfl, ?_⟩) (by assumption) ?_
  rotate_left
  · intro w' hSw
    (try dsimp only at hSw)
    obtain ⟨j0, j1, j2, j3, j4, j5, j6, j7, j8, j9, j10, j11⟩ := c12_of hSw.1
    go_simp
    try with_reducible rfl
  (try simp only [Act.put, List.getElem_toArray, List.getElem_cons_succ, List.getElem_cons_zero, List.setIfInBounds_toArray, List.set_cons_zero, List.set_cons_succ])
  refine wpAnyH_take (i := 18) (v := ?_) rfl (by kernel_rfl) (by kernel_rfl) (by kernel_rfl) (fun _ _ _ h => h) (Or.inl ⟨by rfl, ?_⟩) (by assumption) ?_
  rotate_left
  · intro w' hSw
    (try dsimp only at hSw)
    go_simp
    try with_reducible rfl
  (try simp only [Act.put, List.getElem_toArray, List.getElem_cons_succ, List.getElem_cons_zero, List.setIfInBounds_toArray, List.set_cons_zero, List.set_cons_succ])
  refine wpAnyH_ready (rs := [17]) (by kernel_rfl) (by simp) ?_
  refine AllReadyH.cons rfl (fun K' hK => ?_) AllReadyH.nil
  go_simp
  refine (LX.out _ L11).mono ?_
  rintro e w12 ⟨rfl, hb⟩
  have S12 : Blk w12 gX 29 #[.int .i64 xk, .int .i64 xa, .int .i64 xs, .bool xx, .int .i64 xp, .int .i64 xq, .int .i64 xn, .int .i64 xt, .int .i64 xi, .int .i64 xy, .int .i64 xz, .int .i64 xv] ∧ Blk w12 gY 25 #[.int .i64 xk, .int .i64 xa, .int .i64 xs, .bool xx, .int .i64 xp, .int .i64 xq, .int .i64 xn, .int .i64 xt, .int .i64 xi, .int .i64 xy, .int .i64 xz, .int .i64 xv] ∧ Blk w12 gM 25 #[.int .i64 mk, .int .i64 ma, .int .i64 ms, .bool mx, .int .i64 mp, .int .i64 mq, .int .i64 mn, .int .i64 mt, .int .i64 mi, .int .i64 my, .int .i64 mz, .int .i64 mv] ∧ Blk w12 gZ 29 #[.int .i64 0, .int .i64 0, .int .i64 0, .bool false, .int .i64 0, .int .i64 0, .int .i64 0, .int .i64 0, .int .i64 0, .int .i64 0, .int .i64 0, .int .i64 0] := ⟨S11.1.below' hb, S11.2.1.below' hb, S11.2.2.1.below' hb, S11.2.2.2.below' hb⟩
  have b12 := κ (CrdB.below_step b11.out hb)
  have L12 := lwb L11 hb
  clear hb b11 L11 S11
  go_wp2_with fail
  refine hK.out _ _ S12 (fun hHeld => ?_)
  clear hK K'
  (try simp only [Act.put, List.getElem_toArray, List.getElem_cons_succ, List.getElem_cons_zero, List.setIfInBounds_toArray, List.set_cons_zero, List.set_cons_succ])
  refine wpAnyH_take (i := 19) (v := ?_) rfl (by kernel_rfl) (by kernel_rfl) (by kernel_rfl) (fun _ _ _ h => h) (Or.inl ⟨by rfl, ?_⟩) (by assumption) ?_
  rotate_left
  · intro w' hSw
    (try dsimp only at hSw)
    go_simp
    try with_reducible rfl
  (try simp only [Act.put, List.getElem_toArray, List.getElem_cons_succ, List.getElem_cons_zero, List.setIfInBounds_toArray, List.set_cons_zero, List.set_cons_succ])
  refine wpAnyH_take (i := 20) (v := ?_) rfl (by kernel_rfl) (by kernel_rfl) (by kernel_rfl) (fun _ _ _ h => h) (Or.inl ⟨by rfl, ?_⟩) (by assumption) ?_
  rotate_left
  · intro w' hSw
    (try dsimp only at hSw)
    go_simp
    try with_reducible rfl
  (try simp only [Act.put, List.getElem_toArray, List.getElem_cons_succ, List.getElem_cons_zero, List.setIfInBounds_toArray, List.set_cons_zero, List.set_cons_succ])
  refine wpAnyH_take (i := 21) (v := ?_) rfl (by kernel_rfl) (by kernel_rfl) (by kernel_rfl) (fun _ _ _ h => h) (Or.inl ⟨by rfl, ?_⟩) (by assumption) ?_
  rotate_left
  · intro w' hSw
    (try dsimp only at hSw)
    go_simp
    try with_reducible rfl
  (try simp only [Act.put, List.getElem_toArray, List.getElem_cons_succ, List.getElem_cons_zero, List.setIfInBounds_toArray, List.set_cons_zero, List.set_cons_succ])
  refine wpAnyH_take (i := 22) (v := ?_) rfl (by kernel_rfl) (by kernel_rfl) (by kernel_rfl) (fun _ _ _ h => h) (Or.inl ⟨by rfl, ?_⟩) (by assumption) ?_
  rotate_left
  · intro w' hSw
    (try dsimp only at hSw)
    go_simp
    try with_reducible rfl
  (try simp only [Act.put, List.getElem_toArray, List.getElem_cons_succ, List.getElem_cons_zero, List.setIfInBounds_toArray, List.set_cons_zero, List.set_cons_succ])
  refine wpAnyH_take (i := 23) (v := ?_) rfl (by kernel_rfl) (by kernel_rfl) (by kernel_rfl) (fun _ _ _ h => h) (Or.inl ⟨by rfl, ?_⟩) (by assumption) ?_
  rotate_left
  · intro w' hSw
    (try dsimp only at hSw)
    go_simp
    try with_reducible rfl
  (try simp only [Act.put, List.getElem_toArray, List.getElem_cons_succ, List.getElem_cons_zero, List.setIfInBounds_toArray, List.set_cons_zero, List.set_cons_succ])
  refine wpAnyH_take (i := 24) (v := ?_) rfl (by kernel_rfl) (by kernel_rfl) (by kernel_rfl) (fun _ _ _ h => h) (Or.inl ⟨by rfl, ?_⟩) (by assumption) ?_
  rotate_left
  · intro w' hSw
    (try dsimp only at hSw)
    obtain ⟨j0, j1, j2, j3, j4, j5, j6, j7, j8, j9, j10, j11⟩ := c12_of hSw.2.2.1
    go_simp
    try with_reducible rfl
  (try simp only [Act.put, List.getElem_toArray, List.getElem_cons_succ, List.getElem_cons_zero, List.setIfInBounds_toArray, List.set_cons_zero, List.set_cons_succ])
  refine wpAnyH_ready (rs := [25]) (by kernel_rfl) (by simp) ?_
  refine AllReadyH.cons rfl (fun K' hK => ?_) AllReadyH.nil
  go_simp
  refine (RM.out _).mono ?_
  rintro e w13 ⟨rfl, hb⟩
  have S13 : Blk w13 gX 29 #[.int .i64 xk, .int .i64 xa, .int .i64 xs, .bool xx, .int .i64 xp, .int .i64 xq, .int .i64 xn, .int .i64 xt, .int .i64 xi, .int .i64 xy, .int .i64 xz, .int .i64 xv] ∧ Blk w13 gY 25 #[.int .i64 xk, .int .i64 xa, .int .i64 xs, .bool xx, .int .i64 xp, .int .i64 xq, .int .i64 xn, .int .i64 xt, .int .i64 xi, .int .i64 xy, .int .i64 xz, .int .i64 xv] ∧ Blk w13 gM 25 #[.int .i64 mk, .int .i64 ma, .int .i64 ms, .bool mx, .int .i64 mp, .int .i64 mq, .int .i64 mn, .int .i64 mt, .int .i64 mi, .int .i64 my, .int .i64 mz, .int .i64 mv] ∧ Blk w13 gZ 29 #[.int .i64 0, .int .i64 0, .int .i64 0, .bool false, .int .i64 0, .int .i64 0, .int .i64 0, .int .i64 0, .int .i64 0, .int .i64 0, .int .i64 0, .int .i64 0] := ⟨S12.1.below' hb, S12.2.1.below' hb, S12.2.2.1.below' hb, S12.2.2.2.below' hb⟩
  have b13 := κ (CrdB.below_step b12.out hb)
  have L13 := lwb L12 hb
  clear hb b12 L12 S12
  go_wp2_with fail
  refine hK.out _ _ S13 (fun hHeld => ?_)
  clear hK K'
  (try simp only [Act.put, List.getElem_toArray, List.getElem_cons_succ, List.getElem_cons_zero, List.setIfInBounds_toArray, List.set_cons_zero, List.set_cons_succ])
  refine wpAnyH_take (i := 26) (v := ?_) rfl (by kernel_rfl) (by kernel_rfl) (by kernel_rfl) (fun _ _ _ h => h) (Or.inl ⟨by rfl, ?_⟩) (by assumption) ?_
  rotate_left
  · intro w' hSw
    (try dsimp only at hSw)
    go_simp
    try with_reducible rfl
  (try simp only [Act.put, List.getElem_toArray, List.getElem_cons_succ, List.getElem_cons_zero, List.setIfInBounds_toArray, List.set_cons_zero, List.set_cons_succ])
  refine wpAnyH_take (i := 27) (v := ?_) rfl (by kernel_rfl) (by kernel_rfl) (by kernel_rfl) (fun _ _ _ h => h) (Or.inl ⟨by rfl, ?_⟩) (by assumption) ?_
  rotate_left
  · intro w' hSw
    (try dsimp only at hSw)
    go_simp
    try with_reducible rfl
  (try simp only [Act.put, List.getElem_toArray, List.getElem_cons_succ, List.getElem_cons_zero, List.setIfInBounds_toArray, List.set_cons_zero, List.set_cons_succ])
  refine wpAnyH_take (i := 28) (v := ?_) rfl (by kernel_rfl) (by kernel_rfl) (by kernel_rfl) (fun _ _ _ h => h) (Or.inl ⟨by rfl, ?_⟩) (by assumption) ?_
  rotate_left
  · intro w' hSw
    (try dsimp only at hSw)
    go_simp
    try with_reducible rfl
  (try simp only [Act.put, List.getElem_toArray, List.getElem_cons_succ, List.getElem_cons_zero, List.setIfInBounds_toArray, List.set_cons_zero, List.set_cons_succ])
  refine wpAnyH_take (i := 29) (v := ?_) rfl (by kernel_rfl) (by kernel_rfl) (by kernel_rfl) (fun _ _ _ h => h) (Or.inl ⟨by rfl, ?_⟩) (by assumption) ?_
  rotate_left
  · intro w' hSw
    (try dsimp only at hSw)
    go_simp
    try with_reducible rfl
  (try simp only [Act.put, List.getElem_toArray, List.getElem_cons_succ, List.getElem_cons_zero, List.setIfInBounds_toArray, List.set_cons_zero, List.set_cons_succ])
  refine wpAnyH_take (i := 30) (v := ?_) rfl (by kernel_rfl) (by kernel_rfl) (by kernel_rfl) (fun _ _ _ h => h) (Or.inl ⟨by rfl, ?_⟩) (by assumption) ?_
  rotate_left
  · intro w' hSw
    (try dsimp only at hSw)
    go_simp
    try with_reducible rfl
  (try simp only [Act.put, List.getElem_toArray, List.getElem_cons_succ, List.getElem_cons_zero, List.setIfInBounds_toArray, List.set_cons_zero, List.set_cons_succ])
  refine wpAnyH_take (i := 31) (v := ?_) rfl (by kernel_rfl) (by kernel_rfl) (by kernel_rfl) (fun _ _ _ h => h) (Or.inl ⟨by rfl, ?_⟩) (by assumption) ?_
  rotate_left
  · intro w' hSw
    (try dsimp only at hSw)
    go_simp
    try with_reducible rfl
  (try simp only [Act.put, List.getElem_toArray, List.getElem_cons_succ, List.getElem_cons_zero, List.setIfInBounds_toArray, List.set_cons_zero, List.set_cons_succ])
  refine wpAnyH_take (i := 32) (v := ?_) rfl (by kernel_rfl) (by kernel_rfl) (by kernel_rfl) (fun _ _ _ h => h) (Or.inl ⟨by rfl, ?_⟩) (by assumption) ?_
  rotate_left
  · intro w' hSw
    (try dsimp only at hSw)
    go_simp
    try with_reducible rfl
  (try simp only [Act.put, List.getElem_toArray, List.getElem_cons_succ, List.getElem_cons_zero, List.setIfInBounds_toArray, List.set_cons_zero, List.set_cons_succ])
  refine wpAnyH_take (i := 33) (v := ?_) rfl (by kernel_rfl) (by kernel_rfl) (by kernel_rfl) (fun _ _ _ h => h) (Or.inl ⟨by rfl, ?_⟩) (by assumption) ?_
  rotate_left
  · intro w' hSw
    (try dsimp only at hSw)
    go_simp
    try with_reducible rfl
  (try simp only [Act.put, List.getElem_toArray, List.getElem_cons_succ, List.getElem_cons_zero, List.setIfInBounds_toArray, List.set_cons_zero, List.set_cons_succ])
  refine wpAnyH_done (by kernel_rfl) ?_ _
  go_upto_region 9 with fail
  have b20 := κ b13.out.drew
  have S20 : Blk w13.drew gX 29 #[.int .i64 xk, .int .i64 xa, .int .i64 xs, .bool xx, .int .i64 xp, .int .i64 xq, .int .i64 xn, .int .i64 xt, .int .i64 xi, .int .i64 xy, .int .i64 xz, .int .i64 xv] ∧ Blk w13.drew gY 25 #[.int .i64 xk, .int .i64 xa, .int .i64 xs, .bool xx, .int .i64 xp, .int .i64 xq, .int .i64 xn, .int .i64 xt, .int .i64 xi, .int .i64 xy, .int .i64 xz, .int .i64 xv] ∧ Blk w13.drew gM 25 #[.int .i64 mk, .int .i64 ma, .int .i64 ms, .bool mx, .int .i64 mp, .int .i64 mq, .int .i64 mn, .int .i64 mt, .int .i64 mi, .int .i64 my, .int .i64 mz, .int .i64 mv] ∧ Blk w13.drew gZ 29 #[.int .i64 0, .int .i64 0, .int .i64 0, .bool false, .int .i64 0, .int .i64 0, .int .i64 0, .int .i64 0, .int .i64 0, .int .i64 0, .int .i64 0, .int .i64 0] := S13
  have L20 := lwb L13 (Below.refl w13.heap.size w13).drew
  clear b13 S13 L13
  refine wp_region_held_drew (S := (fun w' => Blk w' gX 29 #[.int .i64 xk, .int .i64 xa, .int .i64 xs, .bool xx, .int .i64 xp, .int .i64 xq, .int .i64 xn, .int .i64 xt, .int .i64 xi, .int .i64 xy, .int .i64 xz, .int .i64 xv] ∧ Blk w' gY 25 #[.int .i64 xk, .int .i64 xa, .int .i64 xs, .bool xx, .int .i64 xp, .int .i64 xq, .int .i64 xn, .int .i64 xt, .int .i64 xi, .int .i64 xy, .int .i64 xz, .int .i64 xv] ∧ Blk w' gM 25 #[.int .i64 mk, .int .i64 ma, .int .i64 ms, .bool mx, .int .i64 mp, .int .i64 mq, .int .i64 mn, .int .i64 mt, .int .i64 mi, .int .i64 my, .int .i64 mz, .int .i64 mv] ∧ Blk w' gZ 29 #[.int .i64 0, .int .i64 0, .int .i64 0, .bool false, .int .i64 0, .int .i64 0, .int .i64 0, .int .i64 0, .int .i64 0, .int .i64 0, .int .i64 0, .int .i64 0])) (by kernel_rfl) S20 (fun hHeld => ?_)
  refine wpAnyH_take (i := 0) (v := ?_) rfl (by kernel_rfl) (by kernel_rfl) (by kernel_rfl) (fun _ _ _ h => h) (Or.inl ⟨by rfl, ?_⟩) (by assumption) ?_
  rotate_left
  · intro w' hSw
    (try dsimp only at hSw)
    go_simp
    try with_reducible rfl
  (try simp only [Act.put, List.getElem_toArray, List.getElem_cons_succ, List.getElem_cons_zero, List.setIfInBounds_toArray, List.set_cons_zero, List.set_cons_succ])
  refine wpAnyH_take (i := 1) (v := ?_) rfl (by kernel_rfl) (by kernel_rfl) (by kernel_rfl) (fun _ _ _ h => h) (Or.inl ⟨by rfl, ?_⟩) (by assumption) ?_
  rotate_left
  · intro w' hSw
    (try dsimp only at hSw)
    go_simp
    try with_reducible rfl
  (try simp only [Act.put, List.getElem_toArray, List.getElem_cons_succ, List.getElem_cons_zero, List.setIfInBounds_toArray, List.set_cons_zero, List.set_cons_succ])
  refine wpAnyH_take (i := 2) (v := ?_) rfl (by kernel_rfl) (by kernel_rfl) (by kernel_rfl) (fun _ _ _ h => h) (Or.inl ⟨by rfl, ?_⟩) (by assumption) ?_
  rotate_left
  · intro w' hSw
    (try dsimp only at hSw)
    go_simp
    try with_reducible rfl
  (try simp only [Act.put, List.getElem_toArray, List.getElem_cons_succ, List.getElem_cons_zero, List.setIfInBounds_toArray, List.set_cons_zero, List.set_cons_succ])
  refine wpAnyH_take (i := 3) (v := undef) rfl (by kernel_rfl) (by kernel_rfl) (by kernel_rfl) (fun _ _ _ h => h) (Or.inr ⟨by rfl, rfl⟩) (by assumption) ?_
  (try simp only [Act.put, List.getElem_toArray, List.getElem_cons_succ, List.getElem_cons_zero, List.setIfInBounds_toArray, List.set_cons_zero, List.set_cons_succ])
  refine wpAnyH_take (i := 4) (v := undef) rfl (by kernel_rfl) (by kernel_rfl) (by kernel_rfl) (fun _ _ _ h => h) (Or.inr ⟨by rfl, rfl⟩) (by assumption) ?_
  (try simp only [Act.put, List.getElem_toArray, List.getElem_cons_succ, List.getElem_cons_zero, List.setIfInBounds_toArray, List.set_cons_zero, List.set_cons_succ])
  refine wpAnyH_take (i := 5) (v := undef) rfl (by kernel_rfl) (by kernel_rfl) (by kernel_rfl) (fun _ _ _ h => h) (Or.inr ⟨by rfl, rfl⟩) (by assumption) ?_
  (try simp only [Act.put, List.getElem_toArray, List.getElem_cons_succ, List.getElem_cons_zero, List.setIfInBounds_toArray, List.set_cons_zero, List.set_cons_succ])
  refine wpAnyH_take (i := 6) (v := undef) rfl (by kernel_rfl) (by kernel_rfl) (by kernel_rfl) (fun _ _ _ h => h) (Or.inr ⟨by rfl, rfl⟩) (by assumption) ?_
  (try simp only [Act.put, List.getElem_toArray, List.getElem_cons_succ, List.getElem_cons_zero, List.setIfInBounds_toArray, List.set_cons_zero, List.set_cons_succ])
  refine wpAnyH_take (i := 7) (v := undef) rfl (by kernel_rfl) (by kernel_rfl) (by kernel_rfl) (fun _ _ _ h => h) (Or.inr ⟨by rfl, rfl⟩) (by assumption) ?_
  (try simp only [Act.put, List.getElem_toArray, List.getElem_cons_succ, List.getElem_cons_zero, List.setIfInBounds_toArray, List.set_cons_zero, List.set_cons_succ])
  refine wpAnyH_take (i := 8) (v := undef) rfl (by kernel_rfl) (by kernel_rfl) (by kernel_rfl) (fun _ _ _ h => h) (Or.inr ⟨by rfl, rfl⟩) (by assumption) ?_
  (try simp only [Act.put, List.getElem_toArray, List.getElem_cons_succ, List.getElem_cons_zero, List.setIfInBounds_toArray, List.set_cons_zero, List.set_cons_succ])
  refine wpAnyH_take (i := 9) (v := undef) rfl (by kernel_rfl) (by kernel_rfl) (by kernel_rfl) (fun _ _ _ h => h) (Or.inr ⟨by rfl, rfl⟩) (by assumption) ?_
  (try simp only [Act.put, List.getElem_toArray, List.getElem_cons_succ, List.getElem_cons_zero, List.setIfInBounds_toArray, List.set_cons_zero, List.set_cons_succ])
  refine wpAnyH_take (i := 10) (v := undef) rfl (by kernel_rfl) (by kernel_rfl) (by kernel_rfl) (fun _ _ _ h => h) (Or.inr ⟨by rfl, rfl⟩) (by assumption) ?_
  (try simp only [Act.put, List.getElem_toArray, List.getElem_cons_succ, List.getElem_cons_zero, List.setIfInBounds_toArray, List.set_cons_zero, List.set_cons_succ])
  refine wpAnyH_take (i := 11) (v := undef) rfl (by kernel_rfl) (by kernel_rfl) (by kernel_rfl) (fun _ _ _ h => h) (Or.inr ⟨by rfl, rfl⟩) (by assumption) ?_
  (try simp only [Act.put, List.getElem_toArray, List.getElem_cons_succ, List.getElem_cons_zero, List.setIfInBounds_toArray, List.set_cons_zero, List.set_cons_succ])
  refine wpAnyH_take (i := 12) (v := undef) rfl (by kernel_rfl) (by kernel_rfl) (by kernel_rfl) (fun _ _ _ h => h) (Or.inr ⟨by rfl, rfl⟩) (by assumption) ?_
  (try simp only [Act.put, List.getElem_toArray, List.getElem_cons_succ, List.getElem_cons_zero, List.setIfInBounds_toArray, List.set_cons_zero, List.set_cons_succ])
  refine wpAnyH_take (i := 13) (v := undef) rfl (by kernel_rfl) (by kernel_rfl) (by kernel_rfl) (fun _ _ _ h => h) (Or.inr ⟨by rfl, rfl⟩) (by assumption) ?_
  (try simp only [Act.put, List.getElem_toArray, List.getElem_cons_succ, List.getElem_cons_zero, List.setIfInBounds_toArray, List.set_cons_zero, List.set_cons_succ])
  refine wpAnyH_take (i := 14) (v := undef) rfl (by kernel_rfl) (by kernel_rfl) (by kernel_rfl) (fun _ _ _ h => h) (Or.inr ⟨by rfl, rfl⟩) (by assumption) ?_
  (try simp only [Act.put, List.getElem_toArray, List.getElem_cons_succ, List.getElem_cons_zero, List.setIfInBounds_toArray, List.set_cons_zero, List.set_cons_succ])
  refine wpAnyH_take (i := 15) (v := ?_) rfl (by kernel_rfl) (by kernel_rfl) (by kernel_rfl) (fun _ _ _ h => h) (Or.inl ⟨by rfl, ?_⟩) (by assumption) ?_
  rotate_left
  · intro w' hSw
    (try dsimp only at hSw)
    go_simp
    try with_reducible rfl
  (try simp only [Act.put, List.getElem_toArray, List.getElem_cons_succ, List.getElem_cons_zero, List.setIfInBounds_toArray, List.set_cons_zero, List.set_cons_succ])
  refine wpAnyH_take (i := 16) (v := ?_) rfl (by kernel_rfl) (by kernel_rfl) (by kernel_rfl) (fun _ _ _ h => h) (Or.inl ⟨by rfl, ?_⟩) (by assumption) ?_
  rotate_left
  · intro w' hSw
    (try dsimp only at hSw)
    go_simp
    try with_reducible rfl
  (try simp only [Act.put, List.getElem_toArray, List.getElem_cons_succ, List.getElem_cons_zero, List.setIfInBounds_toArray, List.set_cons_zero, List.set_cons_succ])
  refine wpAnyH_done (by kernel_rfl) ?_ _
  go_wp2_with fail
  go_ret
  exact ⟨rfl, b20.out⟩
theorem inner (l : List UInt8) (mk ma ms mp mq mn mt mi my mz mv : Int) (mx : Bool) (w : World) (hL : Hid (Lw w)) (wm : WfM (⟨mk, ma, ms, mx, mp, mq, mn, mt, mi, my, mz, mv⟩ : M)) : Calls Tryz.prog 3 #[.agg #[.int .i64 mk, .int .i64 ma, .int .i64 ms, .bool mx, .int .i64 mp, .int .i64 mq, .int .i64 mn, .int .i64 mt, .int .i64 mi, .int .i64 my, .int .i64 mz, .int .i64 mv], sv l] w (Law3.MadeB true w) := by
  by_cases hl : (300 : Int) < (l.length : Int)
  · exact long l mk ma ms mp mq mn mt mi my mz mv mx w hL hl
  have wx := parseP_wf l
  obtain ⟨X, ok⟩ : ∃ X, parseP l = X := ⟨_, rfl⟩
  obtain ⟨⟨xk, xa, xs, xx, xp, xq, xn, xt, xi, xy, xz, xv⟩, ob⟩ := X
  rw [ok] at wx
  have lle : ((lineL (⟨mk, ma, ms, mx, mp, mq, mn, mt, mi, my, mz, mv⟩ : M)).length : Int) ≤ 200 := by have := line_len wm; omega
  by_cases hr : rightM (⟨mk, ma, ms, mx, mp, mq, mn, mt, mi, my, mz, mv⟩ : M) = true
  · have h1 := parseP_line wm hr
    have h2 : (lineL (⟨mk, ma, ms, mx, mp, mq, mn, mt, mi, my, mz, mv⟩ : M) == []) = false := beq_f (line_ne hr)
    cases ob with
    | true => exact short_tt l _ mk ma ms mp mq mn mt mi my mz mv mx xk xa xs xp xq xn xt xi xy xz xv xx w hL hl (κ wm) (κ wx) (κ rfl) (κ ok) (κ (by have h := parseP_line' (l := l) (by rw [ok]); rw [ok] at h; exact h)) (κ h1) h2 lle
    | false => exact short_ft l _ mk ma ms mp mq mn mt mi my mz mv mx xk xa xs xp xq xn xt xi xy xz xv xx w hL hl (κ wm) (κ wx) (κ rfl) (κ ok) (κ h1) h2 lle
  · have h0 := line_wrong hr
    have h1 : parseP (lineL (⟨mk, ma, ms, mx, mp, mq, mn, mt, mi, my, mz, mv⟩ : M)) = (m0, false) := by rw [h0]; exact parseP_nil
    have h2 : (lineL (⟨mk, ma, ms, mx, mp, mq, mn, mt, mi, my, mz, mv⟩ : M) == []) = true := beq_t h0
    cases ob with
    | true => exact short_tf l _ mk ma ms mp mq mn mt mi my mz mv mx xk xa xs xp xq xn xt xi xy xz xv xx w hL hl (κ wm) (κ wx) (κ rfl) (κ ok) (κ (by have h := parseP_line' (l := l) (by rw [ok]); rw [ok] at h; exact h)) (κ h1) h2 lle
    | false => exact short_ff l _ mk ma ms mp mq mn mt mi my mz mv mx xk xa xs xp xq xn xt xi xy xz xv xx w hL hl (κ wm) (κ wx) (κ rfl) (κ ok) (κ h1) h2 lle
end Slw
end Go.Proofs.YteclenloimbaeaaGreatDoor
