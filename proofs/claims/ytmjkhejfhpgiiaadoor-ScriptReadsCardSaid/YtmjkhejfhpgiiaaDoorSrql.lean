/- Texts side by side. -/
import Derived.Test.YtmjkhejfhpgiiaaDoorSrqf
set_option linter.unusedVariables false
set_option linter.unusedSimpArgs false
set_option maxRecDepth 100000
set_option maxHeartbeats 16000000
namespace Go.Proofs.YtmjkhejfhpgiiaaDoor
open Go.ChangeShapes Go.WideShapes Go.ChangeAt Go.RowKit Mem Tre Ref3 Law3 Fix3 CrdB Rul3 Wpl Wmr Wrt St7 Rul6 Wfi Wto
namespace Sco
def prF (y z : Int) : Int := if (y / 4) % 2 = 1 then 4 + z % 14 else 88 + z % 25
theorem sorder_any (y z v : Nat) (hy : y < 256) (hz : z < 256) (hv : v < 256) (w : World) : Calls Tryd.prog 22 #[.int .u8 y, .int .u8 z, .int .u8 v] w (fun e w' => e = .returned (.agg #[.int .i64 ((y : Int) % 3), .int .i64 ((y : Int) / 4 % 2), .bool (decide (128 ≤ (y : Int))), .int .i64 (prF y z), .int .i64 (1 + (z : Int) / 32), .int .i64 ((v : Int) % 16), .int .i64 ((v : Int) / 16)]) ∧ Below w.heap.size w w') := by
  go_enter Tryd.func22, Tryd.ntmps22
  go_wp2_with fail
  · rename_i h
    have hp : prF y z = 4 + (z : Int) % 14 := by unfold prF; rw [if_pos (by simpa using h)]
    rw [hp]
    exact bodyPost_ret (v := .agg #[.int .i64 ((y : Int) % 3), .int .i64 ((y : Int) / 4 % 2), .bool (decide (128 ≤ (y : Int))), .int .i64 (4 + (z : Int) % 14), .int .i64 (1 + (z : Int) / 32), .int .i64 ((v : Int) % 16), .int .i64 ((v : Int) / 16)]) (by simp [results, Tryd.results22, go_sem]) rfl ⟨rfl, ((Below.refl _ _).alloc (Nat.le_refl _) _).alloc (by simp) _⟩
  · rename_i h
    have hp : prF y z = 88 + (z : Int) % 25 := by unfold prF; rw [if_neg (by simpa using h)]
    rw [hp]
    exact bodyPost_ret (v := .agg #[.int .i64 ((y : Int) % 3), .int .i64 ((y : Int) / 4 % 2), .bool (decide (128 ≤ (y : Int))), .int .i64 (88 + (z : Int) % 25), .int .i64 (1 + (z : Int) / 32), .int .i64 ((v : Int) % 16), .int .i64 ((v : Int) / 16)]) (by simp [results, Tryd.results22, go_sem]) rfl ⟨rfl, ((Below.refl _ _).alloc (Nat.le_refl _) _).alloc (by simp) _⟩
end Sco
namespace Sc2
open Sco
def mF (x y z v : Nat) : M :=
  if (x : Int) % 16 ≤ 6 then ⟨0, (y : Int) % 3, (y : Int) / 4 % 2, decide (128 ≤ (y : Int)), prF y z, 1 + (z : Int) / 32, (v : Int) % 16, (v : Int) / 16, 0, 0, 0, 0⟩
  else if (x : Int) % 16 = 7 then ⟨1, 0, 0, false, 0, 0, 0, 0, (y : Int) % 12, 0, 0, 0⟩
  else if (x : Int) % 16 ≤ 10 then ⟨2, 0, 0, false, 0, 0, 0, 0, (y : Int) % 12, 1 + (z : Int) % 4, 0, 0⟩
  else if (x : Int) % 16 ≤ 12 then ⟨3, 0, 0, false, 0, 0, 0, 0, (y : Int) % 12, 0, 0, 0⟩
  else if (x : Int) % 16 = 13 ∧ 64 ≤ (z : Int) then ⟨6, 0, 0, false, 0, 0, 0, 0, 0, 0, (y : Int) % 5, 10 * (z : Int)⟩
  else if (x : Int) % 16 = 14 then ⟨5, 0, 0, false, 0, 0, 0, 0, 0, 0, 0, 0⟩
  else ⟨4, 0, 0, false, 0, 0, 0, 0, 0, 0, 0, 0⟩
theorem rmsg_any (x y z v : Nat) (hx : x < 256) (hy : y < 256) (hz : z < 256) (hv : v < 256) (w : World) : Calls Tryd.prog 14 #[.int .i64 x, .int .i64 y, .int .i64 z, .int .i64 v] w (fun e w' => e = .returned (mvl (mF x y z v)) ∧ Below w.heap.size w w') := by
  go_enter Tryd.func14, Tryd.ntmps14
  go_wp2_with fail
  all_goals
    refine bodyPost_ret (v := mvl (mF x y z v)) ?_ rfl ⟨rfl, by first | exact ((Below.refl _ _).alloc (Nat.le_refl _) _).alloc (by simp) _ | exact (Below.refl _ _).alloc (Nat.le_refl _) _⟩
    simp only [beq_iff_eq, beq_eq_false_iff_ne, ne_eq, decide_eq_true_eq, decide_eq_false_iff_not, Bool.and_eq_true, Bool.not_eq_true] at *
    unfold mF prF
    repeat first | rw [if_pos (by omega)] | rw [if_neg (by omega)]
    simp [results, Tryd.results14, go_sem, mvl]
end Sc2
namespace Sc3
open Kap Sco Sc2
theorem smessage_any (x y z v : Nat) (hx : x < 256) (hy : y < 256) (hz : z < 256) (hv : v < 256) (w : World) : Calls Tryd.prog 12 #[.agg #[.int .u8 x, .int .u8 y, .int .u8 z, .int .u8 v]] w (fun e w' => e = .returned (mvl (mF x y z v)) ∧ Below w.heap.size w w') := by
  have b0 := κ (γ w (.cells #[.int .u8 x, .int .u8 y, .int .u8 z, .int .u8 v] 57) (.cells #[.int .i64 0, .int .i64 0, .int .i64 0, .bool false, .int .i64 0, .int .i64 0, .int .i64 0, .int .i64 0, .int .i64 0, .int .i64 0, .int .i64 0, .int .i64 0] 54))
  have k0 := κ ((Blk.fresh w 57 #[.int .u8 x, .int .u8 y, .int .u8 z, .int .u8 v]).alloc (.cells #[.int .i64 0, .int .i64 0, .int .i64 0, .bool false, .int .i64 0, .int .i64 0, .int .i64 0, .int .i64 0, .int .i64 0, .int .i64 0, .int .i64 0, .int .i64 0] 54))
  have z0 := κ (δ (w.alloc (.cells #[.int .u8 x, .int .u8 y, .int .u8 z, .int .u8 v] 57)) 54 #[.int .i64 0, .int .i64 0, .int .i64 0, .bool false, .int .i64 0, .int .i64 0, .int .i64 0, .int .i64 0, .int .i64 0, .int .i64 0, .int .i64 0, .int .i64 0] (w.heap.size + 1))
  go_enter Tryd.func12, Tryd.ntmps12
  go_upto_region 1 with fail
  generalize ((w.alloc (.cells #[.int .u8 x, .int .u8 y, .int .u8 z, .int .u8 v] 57)).alloc (.cells #[.int .i64 0, .int .i64 0, .int .i64 0, .bool false, .int .i64 0, .int .i64 0, .int .i64 0, .int .i64 0, .int .i64 0, .int .i64 0, .int .i64 0, .int .i64 0] 54)) = w0 at b0 k0 z0 ⊢
  have hg : Hid (w.heap.size ≤ w.heap.size + 1) := by show _ ≤ _; omega
  generalize w.heap.size + 1 = gR at z0 hg ⊢
  generalize hgM : w.heap.size = gM at k0 ⊢
  clear hgM
  have c0 := χ (k0.out.cell 0)
  have c1 := χ (k0.out.cell 1)
  have c2 := χ (k0.out.cell 2)
  have c3 := χ (k0.out.cell 3)
  go_quiet (fail)
  clear c0 c1 c2
  have b1 : Hid (Below w.heap.size w (w0.drewN nq)) := Below.drewN' b0.out nq
  have k1 : Hid (Blk (w0.drewN nq) gM 57 #[.int .u8 x, .int .u8 y, .int .u8 z, .int .u8 v]) := k0.out
  have z1 : Hid (Blk (w0.drewN nq) gR 54 #[.int .i64 0, .int .i64 0, .int .i64 0, .bool false, .int .i64 0, .int .i64 0, .int .i64 0, .int .i64 0, .int .i64 0, .int .i64 0, .int .i64 0, .int .i64 0]) := z0.out
  clear b0 k0 z0 c3
  go_upto_region 2 with fail
  generalize w0.drewN nq = w1 at b1 k1 z1 ⊢
  have c3 := χ (k1.out.cell 3)
  obtain ⟨s0, s1, s2, s3, s4, s5, s6, s7, s8, s9, s10, s11, y0, y1, y2, y3, y4, y5, y6, y7, y8, y9, y10, y11⟩ := z12_of z1.out
  go_wp2_with (first | (go_at_call 22; refine (sorder_any y z v hy hz hv _).mono ?_; rintro e w2 ⟨rfl, hb2⟩; refine Hid.out ?_))
  · refine Lib.hid ?_
    have b2 := κ (CrdB.below_step b1.out hb2)
    have z2 := κ (z1.out.below' hb2)
    clear s0 s1 s2 s3 s4 s5 s6 s7 s8 s9 s10 s11 y0 y1 y2 y3 y4 y5 y6 y7 y8 y9 y10 y11
    obtain ⟨s0, s1, s2, s3, s4, s5, s6, s7, s8, s9, s10, s11, y0, y1, y2, y3, y4, y5, y6, y7, y8, y9, y10, y11⟩ := z12_of z2.out
    go_wp2_with fail
    have f3 : Blk (st12 w2 gR (.int .i64 0) (.int .i64 ((y : Int) % 3)) (.int .i64 ((y : Int) / 4 % 2)) (.bool (decide (128 ≤ (y : Int)))) (.int .i64 (prF y z)) (.int .i64 (1 + (z : Int) / 32)) (.int .i64 ((v : Int) % 16)) (.int .i64 ((v : Int) / 16)) (.int .i64 0) (.int .i64 0) (.int .i64 0) (.int .i64 0)) gR 54 #[.int .i64 0, .int .i64 ((y : Int) % 3), .int .i64 ((y : Int) / 4 % 2), .bool (decide (128 ≤ (y : Int))), .int .i64 (prF y z), .int .i64 (1 + (z : Int) / 32), .int .i64 ((v : Int) % 16), .int .i64 ((v : Int) / 16), .int .i64 0, .int .i64 0, .int .i64 0, .int .i64 0] := st12_blk z2.out
    have hb : Below w.heap.size w (st12 w2 gR (.int .i64 0) (.int .i64 ((y : Int) % 3)) (.int .i64 ((y : Int) / 4 % 2)) (.bool (decide (128 ≤ (y : Int)))) (.int .i64 (prF y z)) (.int .i64 (1 + (z : Int) / 32)) (.int .i64 ((v : Int) % 16)) (.int .i64 ((v : Int) / 16)) (.int .i64 0) (.int .i64 0) (.int .i64 0) (.int .i64 0)) := st12_below b2.out hg.out
    have hm : mF x y z v = ⟨0, ((y : Int) % 3), ((y : Int) / 4 % 2), (decide (128 ≤ (y : Int))), (prF y z), (1 + (z : Int) / 32), ((v : Int) % 16), ((v : Int) / 16), 0, 0, 0, 0⟩ := by
      try simp only [beq_iff_eq, beq_eq_false_iff_ne, ne_eq, decide_eq_true_eq, decide_eq_false_iff_not, Bool.and_eq_true, Bool.not_eq_true] at *
      unfold mF
      repeat first | rw [if_pos (by omega)] | rw [if_neg (by omega)]
    obtain ⟨d0, d1, d2, d3, d4, d5, d6, d7, d8, d9, d10, d11⟩ := c12_of f3
    unfold st12 at d0 d1 d2 d3 d4 d5 d6 d7 d8 d9 d10 d11 hb
    rw [hm]
    exact bodyPost_ret (v := .agg #[.int .i64 0, .int .i64 ((y : Int) % 3), .int .i64 ((y : Int) / 4 % 2), .bool (decide (128 ≤ (y : Int))), .int .i64 (prF y z), .int .i64 (1 + (z : Int) / 32), .int .i64 ((v : Int) % 16), .int .i64 ((v : Int) / 16), .int .i64 0, .int .i64 0, .int .i64 0, .int .i64 0]) (by simp [results, Tryd.results12, go_sem, d0, d1, d2, d3, d4, d5, d6, d7, d8, d9, d10, d11]) rfl ⟨rfl, hb⟩
  · have f3 : Blk (st12 w1 gR (.int .i64 1) (.int .i64 0) (.int .i64 0) (.bool false) (.int .i64 0) (.int .i64 0) (.int .i64 0) (.int .i64 0) (.int .i64 ((y : Int) % 12)) (.int .i64 0) (.int .i64 0) (.int .i64 0)) gR 54 #[.int .i64 1, .int .i64 0, .int .i64 0, .bool false, .int .i64 0, .int .i64 0, .int .i64 0, .int .i64 0, .int .i64 ((y : Int) % 12), .int .i64 0, .int .i64 0, .int .i64 0] := st12_blk z1.out
    have hb : Below w.heap.size w (st12 w1 gR (.int .i64 1) (.int .i64 0) (.int .i64 0) (.bool false) (.int .i64 0) (.int .i64 0) (.int .i64 0) (.int .i64 0) (.int .i64 ((y : Int) % 12)) (.int .i64 0) (.int .i64 0) (.int .i64 0)) := st12_below b1.out hg.out
    have hm : mF x y z v = ⟨1, 0, 0, false, 0, 0, 0, 0, ((y : Int) % 12), 0, 0, 0⟩ := by
      try simp only [beq_iff_eq, beq_eq_false_iff_ne, ne_eq, decide_eq_true_eq, decide_eq_false_iff_not, Bool.and_eq_true, Bool.not_eq_true] at *
      unfold mF
      repeat first | rw [if_pos (by omega)] | rw [if_neg (by omega)]
    obtain ⟨d0, d1, d2, d3, d4, d5, d6, d7, d8, d9, d10, d11⟩ := c12_of f3
    unfold st12 at d0 d1 d2 d3 d4 d5 d6 d7 d8 d9 d10 d11 hb
    rw [hm]
    exact bodyPost_ret (v := .agg #[.int .i64 1, .int .i64 0, .int .i64 0, .bool false, .int .i64 0, .int .i64 0, .int .i64 0, .int .i64 0, .int .i64 ((y : Int) % 12), .int .i64 0, .int .i64 0, .int .i64 0]) (by simp [results, Tryd.results12, go_sem, d0, d1, d2, d3, d4, d5, d6, d7, d8, d9, d10, d11]) rfl ⟨rfl, hb⟩
  · have f3 : Blk (st12 w1 gR (.int .i64 2) (.int .i64 0) (.int .i64 0) (.bool false) (.int .i64 0) (.int .i64 0) (.int .i64 0) (.int .i64 0) (.int .i64 ((y : Int) % 12)) (.int .i64 (1 + (z : Int) % 4)) (.int .i64 0) (.int .i64 0)) gR 54 #[.int .i64 2, .int .i64 0, .int .i64 0, .bool false, .int .i64 0, .int .i64 0, .int .i64 0, .int .i64 0, .int .i64 ((y : Int) % 12), .int .i64 (1 + (z : Int) % 4), .int .i64 0, .int .i64 0] := st12_blk z1.out
    have hb : Below w.heap.size w (st12 w1 gR (.int .i64 2) (.int .i64 0) (.int .i64 0) (.bool false) (.int .i64 0) (.int .i64 0) (.int .i64 0) (.int .i64 0) (.int .i64 ((y : Int) % 12)) (.int .i64 (1 + (z : Int) % 4)) (.int .i64 0) (.int .i64 0)) := st12_below b1.out hg.out
    have hm : mF x y z v = ⟨2, 0, 0, false, 0, 0, 0, 0, ((y : Int) % 12), (1 + (z : Int) % 4), 0, 0⟩ := by
      try simp only [beq_iff_eq, beq_eq_false_iff_ne, ne_eq, decide_eq_true_eq, decide_eq_false_iff_not, Bool.and_eq_true, Bool.not_eq_true] at *
      unfold mF
      repeat first | rw [if_pos (by omega)] | rw [if_neg (by omega)]
    obtain ⟨d0, d1, d2, d3, d4, d5, d6, d7, d8, d9, d10, d11⟩ := c12_of f3
    unfold st12 at d0 d1 d2 d3 d4 d5 d6 d7 d8 d9 d10 d11 hb
    rw [hm]
    exact bodyPost_ret (v := .agg #[.int .i64 2, .int .i64 0, .int .i64 0, .bool false, .int .i64 0, .int .i64 0, .int .i64 0, .int .i64 0, .int .i64 ((y : Int) % 12), .int .i64 (1 + (z : Int) % 4), .int .i64 0, .int .i64 0]) (by simp [results, Tryd.results12, go_sem, d0, d1, d2, d3, d4, d5, d6, d7, d8, d9, d10, d11]) rfl ⟨rfl, hb⟩
  · have f3 : Blk (st12 w1 gR (.int .i64 3) (.int .i64 0) (.int .i64 0) (.bool false) (.int .i64 0) (.int .i64 0) (.int .i64 0) (.int .i64 0) (.int .i64 ((y : Int) % 12)) (.int .i64 0) (.int .i64 0) (.int .i64 0)) gR 54 #[.int .i64 3, .int .i64 0, .int .i64 0, .bool false, .int .i64 0, .int .i64 0, .int .i64 0, .int .i64 0, .int .i64 ((y : Int) % 12), .int .i64 0, .int .i64 0, .int .i64 0] := st12_blk z1.out
    have hb : Below w.heap.size w (st12 w1 gR (.int .i64 3) (.int .i64 0) (.int .i64 0) (.bool false) (.int .i64 0) (.int .i64 0) (.int .i64 0) (.int .i64 0) (.int .i64 ((y : Int) % 12)) (.int .i64 0) (.int .i64 0) (.int .i64 0)) := st12_below b1.out hg.out
    have hm : mF x y z v = ⟨3, 0, 0, false, 0, 0, 0, 0, ((y : Int) % 12), 0, 0, 0⟩ := by
      try simp only [beq_iff_eq, beq_eq_false_iff_ne, ne_eq, decide_eq_true_eq, decide_eq_false_iff_not, Bool.and_eq_true, Bool.not_eq_true] at *
      unfold mF
      repeat first | rw [if_pos (by omega)] | rw [if_neg (by omega)]
    obtain ⟨d0, d1, d2, d3, d4, d5, d6, d7, d8, d9, d10, d11⟩ := c12_of f3
    unfold st12 at d0 d1 d2 d3 d4 d5 d6 d7 d8 d9 d10 d11 hb
    rw [hm]
    exact bodyPost_ret (v := .agg #[.int .i64 3, .int .i64 0, .int .i64 0, .bool false, .int .i64 0, .int .i64 0, .int .i64 0, .int .i64 0, .int .i64 ((y : Int) % 12), .int .i64 0, .int .i64 0, .int .i64 0]) (by simp [results, Tryd.results12, go_sem, d0, d1, d2, d3, d4, d5, d6, d7, d8, d9, d10, d11]) rfl ⟨rfl, hb⟩
  · have f3 : Blk (st12 w1 gR (.int .i64 6) (.int .i64 0) (.int .i64 0) (.bool false) (.int .i64 0) (.int .i64 0) (.int .i64 0) (.int .i64 0) (.int .i64 0) (.int .i64 0) (.int .i64 ((y : Int) % 5)) (.int .i64 (10 * (z : Int)))) gR 54 #[.int .i64 6, .int .i64 0, .int .i64 0, .bool false, .int .i64 0, .int .i64 0, .int .i64 0, .int .i64 0, .int .i64 0, .int .i64 0, .int .i64 ((y : Int) % 5), .int .i64 (10 * (z : Int))] := st12_blk z1.out
    have hb : Below w.heap.size w (st12 w1 gR (.int .i64 6) (.int .i64 0) (.int .i64 0) (.bool false) (.int .i64 0) (.int .i64 0) (.int .i64 0) (.int .i64 0) (.int .i64 0) (.int .i64 0) (.int .i64 ((y : Int) % 5)) (.int .i64 (10 * (z : Int)))) := st12_below b1.out hg.out
    have hm : mF x y z v = ⟨6, 0, 0, false, 0, 0, 0, 0, 0, 0, ((y : Int) % 5), (10 * (z : Int))⟩ := by
      try simp only [beq_iff_eq, beq_eq_false_iff_ne, ne_eq, decide_eq_true_eq, decide_eq_false_iff_not, Bool.and_eq_true, Bool.not_eq_true] at *
      unfold mF
      repeat first | rw [if_pos (by omega)] | rw [if_neg (by omega)]
    obtain ⟨d0, d1, d2, d3, d4, d5, d6, d7, d8, d9, d10, d11⟩ := c12_of f3
    unfold st12 at d0 d1 d2 d3 d4 d5 d6 d7 d8 d9 d10 d11 hb
    rw [hm]
    exact bodyPost_ret (v := .agg #[.int .i64 6, .int .i64 0, .int .i64 0, .bool false, .int .i64 0, .int .i64 0, .int .i64 0, .int .i64 0, .int .i64 0, .int .i64 0, .int .i64 ((y : Int) % 5), .int .i64 (10 * (z : Int))]) (by simp [results, Tryd.results12, go_sem, d0, d1, d2, d3, d4, d5, d6, d7, d8, d9, d10, d11]) rfl ⟨rfl, hb⟩
  · have f3 : Blk (st12 w1 gR (.int .i64 4) (.int .i64 0) (.int .i64 0) (.bool false) (.int .i64 0) (.int .i64 0) (.int .i64 0) (.int .i64 0) (.int .i64 0) (.int .i64 0) (.int .i64 0) (.int .i64 0)) gR 54 #[.int .i64 4, .int .i64 0, .int .i64 0, .bool false, .int .i64 0, .int .i64 0, .int .i64 0, .int .i64 0, .int .i64 0, .int .i64 0, .int .i64 0, .int .i64 0] := st12_blk z1.out
    have hb : Below w.heap.size w (st12 w1 gR (.int .i64 4) (.int .i64 0) (.int .i64 0) (.bool false) (.int .i64 0) (.int .i64 0) (.int .i64 0) (.int .i64 0) (.int .i64 0) (.int .i64 0) (.int .i64 0) (.int .i64 0)) := st12_below b1.out hg.out
    have hm : mF x y z v = ⟨4, 0, 0, false, 0, 0, 0, 0, 0, 0, 0, 0⟩ := by
      try simp only [beq_iff_eq, beq_eq_false_iff_ne, ne_eq, decide_eq_true_eq, decide_eq_false_iff_not, Bool.and_eq_true, Bool.not_eq_true] at *
      unfold mF
      repeat first | rw [if_pos (by omega)] | rw [if_neg (by omega)]
    obtain ⟨d0, d1, d2, d3, d4, d5, d6, d7, d8, d9, d10, d11⟩ := c12_of f3
    unfold st12 at d0 d1 d2 d3 d4 d5 d6 d7 d8 d9 d10 d11 hb
    rw [hm]
    exact bodyPost_ret (v := .agg #[.int .i64 4, .int .i64 0, .int .i64 0, .bool false, .int .i64 0, .int .i64 0, .int .i64 0, .int .i64 0, .int .i64 0, .int .i64 0, .int .i64 0, .int .i64 0]) (by simp [results, Tryd.results12, go_sem, d0, d1, d2, d3, d4, d5, d6, d7, d8, d9, d10, d11]) rfl ⟨rfl, hb⟩
  · have f3 : Blk (st12 w1 gR (.int .i64 5) (.int .i64 0) (.int .i64 0) (.bool false) (.int .i64 0) (.int .i64 0) (.int .i64 0) (.int .i64 0) (.int .i64 0) (.int .i64 0) (.int .i64 0) (.int .i64 0)) gR 54 #[.int .i64 5, .int .i64 0, .int .i64 0, .bool false, .int .i64 0, .int .i64 0, .int .i64 0, .int .i64 0, .int .i64 0, .int .i64 0, .int .i64 0, .int .i64 0] := st12_blk z1.out
    have hb : Below w.heap.size w (st12 w1 gR (.int .i64 5) (.int .i64 0) (.int .i64 0) (.bool false) (.int .i64 0) (.int .i64 0) (.int .i64 0) (.int .i64 0) (.int .i64 0) (.int .i64 0) (.int .i64 0) (.int .i64 0)) := st12_below b1.out hg.out
    have hm : mF x y z v = ⟨5, 0, 0, false, 0, 0, 0, 0, 0, 0, 0, 0⟩ := by
      try simp only [beq_iff_eq, beq_eq_false_iff_ne, ne_eq, decide_eq_true_eq, decide_eq_false_iff_not, Bool.and_eq_true, Bool.not_eq_true] at *
      unfold mF
      repeat first | rw [if_pos (by omega)] | rw [if_neg (by omega)]
    obtain ⟨d0, d1, d2, d3, d4, d5, d6, d7, d8, d9, d10, d11⟩ := c12_of f3
    unfold st12 at d0 d1 d2 d3 d4 d5 d6 d7 d8 d9 d10 d11 hb
    rw [hm]
    exact bodyPost_ret (v := .agg #[.int .i64 5, .int .i64 0, .int .i64 0, .bool false, .int .i64 0, .int .i64 0, .int .i64 0, .int .i64 0, .int .i64 0, .int .i64 0, .int .i64 0, .int .i64 0]) (by simp [results, Tryd.results12, go_sem, d0, d1, d2, d3, d4, d5, d6, d7, d8, d9, d10, d11]) rfl ⟨rfl, hb⟩
  · have f3 : Blk (st12 w1 gR (.int .i64 4) (.int .i64 0) (.int .i64 0) (.bool false) (.int .i64 0) (.int .i64 0) (.int .i64 0) (.int .i64 0) (.int .i64 0) (.int .i64 0) (.int .i64 0) (.int .i64 0)) gR 54 #[.int .i64 4, .int .i64 0, .int .i64 0, .bool false, .int .i64 0, .int .i64 0, .int .i64 0, .int .i64 0, .int .i64 0, .int .i64 0, .int .i64 0, .int .i64 0] := st12_blk z1.out
    have hb : Below w.heap.size w (st12 w1 gR (.int .i64 4) (.int .i64 0) (.int .i64 0) (.bool false) (.int .i64 0) (.int .i64 0) (.int .i64 0) (.int .i64 0) (.int .i64 0) (.int .i64 0) (.int .i64 0) (.int .i64 0)) := st12_below b1.out hg.out
    have hm : mF x y z v = ⟨4, 0, 0, false, 0, 0, 0, 0, 0, 0, 0, 0⟩ := by
      try simp only [beq_iff_eq, beq_eq_false_iff_ne, ne_eq, decide_eq_true_eq, decide_eq_false_iff_not, Bool.and_eq_true, Bool.not_eq_true] at *
      unfold mF
      repeat first | rw [if_pos (by omega)] | rw [if_neg (by omega)]
    obtain ⟨d0, d1, d2, d3, d4, d5, d6, d7, d8, d9, d10, d11⟩ := c12_of f3
    unfold st12 at d0 d1 d2 d3 d4 d5 d6 d7 d8 d9 d10 d11 hb
    rw [hm]
    exact bodyPost_ret (v := .agg #[.int .i64 4, .int .i64 0, .int .i64 0, .bool false, .int .i64 0, .int .i64 0, .int .i64 0, .int .i64 0, .int .i64 0, .int .i64 0, .int .i64 0, .int .i64 0]) (by simp [results, Tryd.results12, go_sem, d0, d1, d2, d3, d4, d5, d6, d7, d8, d9, d10, d11]) rfl ⟨rfl, hb⟩
end Sc3
end Go.Proofs.YtmjkhejfhpgiiaaDoor
