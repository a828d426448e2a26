/- Texts side by side. -/
import Derived.Test.YtmjkhejfhpgiiaaDoorSrqh
import Derived.Test.YtmjkhejfhpgiiaaDoorSrqi
import Derived.Test.YtmjkhejfhpgiiaaDoorSrqk
set_option linter.unusedVariables false
set_option linter.unusedSimpArgs false
set_option maxRecDepth 100000
set_option maxHeartbeats 16000000
namespace Go.Proofs.YtmjkhejfhpgiiaaDoor
open Kap Go.ChangeShapes Go.WideShapes Go.ChangeAt Go.RowKit Go.Lib Mem Wpl Wmr Wrt Spa Spm Shw Sgu Slp
namespace Spp
open St7 Rul6 Wfi Wto
def MadeMB (r : M × Bool) (w : World) (e : Ending) (w' : World) : Prop := e = .returned (.tuple #[mvl r.1, .bool r.2]) ∧ Below w.heap.size w w'
theorem sparse_any (l : List UInt8) (w : World) (hL : Hid (Lw w)) (hs : l.length ≤ 400) : Calls Tryd.prog 15 #[sv l] w (MadeMB (parseP l) w) := by
  have hwf := guessP_wf l
  have G0 := κ (fun W h => guess_any l W h hs)
  have hP0 : Hid (parseP l = if lineL (guessP l) = l then (guessP l, true) else (m0, false)) := κ rfl
  generalize guessP l = m at G0 hwf hP0
  have SL0 := κ (fun W h => sline_any m W hwf h)
  have b0 := κ (β w (.cells #[.int .i64 0, .int .i64 0, .int .i64 0, .bool false, .int .i64 0, .int .i64 0, .int .i64 0, .int .i64 0, .int .i64 0, .int .i64 0, .int .i64 0, .int .i64 0] 54))
  have z0 := κ (δ w 54 #[.int .i64 0, .int .i64 0, .int .i64 0, .bool false, .int .i64 0, .int .i64 0, .int .i64 0, .int .i64 0, .int .i64 0, .int .i64 0, .int .i64 0, .int .i64 0] w.heap.size rfl)
  have L0 := lwb hL b0.out
  by_cases hq : lineL m = l
  · have hP : Hid (parseP l = (m, true)) := κ (by rw [hP0.out, if_pos hq])
    have q : (lineL m == l) = true := beq_t hq
    rw [hP.out]
    clear hP hP0 hwf hs hL hq
    obtain ⟨k, a, s, x, p, q', n, t, i, y, z, v⟩ := m
    have G : Hid (∀ W, Hid (Lw W) → Calls Tryd.prog 23 #[sv l] W (fun e w' => e = .returned (.agg #[.int .i64 k, .int .i64 a, .int .i64 s, .bool x, .int .i64 p, .int .i64 q', .int .i64 n, .int .i64 t, .int .i64 i, .int .i64 y, .int .i64 z, .int .i64 v]) ∧ Below W.heap.size W w')) := κ (fun W h => G0.out W h)
    have SL : Hid (∀ W, Hid (Lw W) → Calls Tryd.prog 16 #[.agg #[.int .i64 k, .int .i64 a, .int .i64 s, .bool x, .int .i64 p, .int .i64 q', .int .i64 n, .int .i64 t, .int .i64 i, .int .i64 y, .int .i64 z, .int .i64 v]] W (MadeS (lineL ⟨k, a, s, x, p, q', n, t, i, y, z, v⟩) W)) := κ (fun W h => SL0.out W h)
    clear G0 SL0
    have hm : Hid (mvl ⟨k, a, s, x, p, q', n, t, i, y, z, v⟩ = .agg #[.int .i64 k, .int .i64 a, .int .i64 s, .bool x, .int .i64 p, .int .i64 q', .int .i64 n, .int .i64 t, .int .i64 i, .int .i64 y, .int .i64 z, .int .i64 v]) := κ rfl
    generalize (⟨k, a, s, x, p, q', n, t, i, y, z, v⟩ : M) = mm at SL q hm ⊢
    go_enter Tryd.func15, Tryd.ntmps15
    go_wp2_with fail
    generalize w.alloc (.cells #[.int .i64 0, .int .i64 0, .int .i64 0, .bool false, .int .i64 0, .int .i64 0, .int .i64 0, .int .i64 0, .int .i64 0, .int .i64 0, .int .i64 0, .int .i64 0] 54) = w0 at b0 z0 L0 ⊢
    generalize hgR : w.heap.size = gR at z0 ⊢
    have hg : Hid (w.heap.size ≤ gR) := κ (by omega)
    clear hgR
    refine (G.out _ L0).mono ?_
    rintro e w1 ⟨rfl, hb1⟩
    have b1 := κ (CrdB.below_step b0.out hb1)
    have z1 := κ (z0.out.below' hb1)
    have L1 := lwb L0 hb1
    clear hb1 b0 z0 L0 G
    have b2 := κ (b1.out.alloc b1.out.size (.cells #[.int .i64 k, .int .i64 a, .int .i64 s, .bool x, .int .i64 p, .int .i64 q', .int .i64 n, .int .i64 t, .int .i64 i, .int .i64 y, .int .i64 z, .int .i64 v] 54))
    have k2 := κ (δ w1 54 #[.int .i64 k, .int .i64 a, .int .i64 s, .bool x, .int .i64 p, .int .i64 q', .int .i64 n, .int .i64 t, .int .i64 i, .int .i64 y, .int .i64 z, .int .i64 v] w1.heap.size rfl)
    have z2 := κ (z1.out.alloc (.cells #[.int .i64 k, .int .i64 a, .int .i64 s, .bool x, .int .i64 p, .int .i64 q', .int .i64 n, .int .i64 t, .int .i64 i, .int .i64 y, .int .i64 z, .int .i64 v] 54))
    have L2 := lwb L1 ((Below.refl w1.heap.size w1).alloc (Nat.le_refl _) (.cells #[.int .i64 k, .int .i64 a, .int .i64 s, .bool x, .int .i64 p, .int .i64 q', .int .i64 n, .int .i64 t, .int .i64 i, .int .i64 y, .int .i64 z, .int .i64 v] 54))
    obtain ⟨j0, j1, j2, j3, j4, j5, j6, j7, j8, j9, j10, j11⟩ := c12_of k2.out
    go_wp2_with fail
    clear j0 j1 j2 j3 j4 j5 j6 j7 j8 j9 j10 j11 b1 L1 z1
    generalize w1.alloc (.cells #[.int .i64 k, .int .i64 a, .int .i64 s, .bool x, .int .i64 p, .int .i64 q', .int .i64 n, .int .i64 t, .int .i64 i, .int .i64 y, .int .i64 z, .int .i64 v] 54) = w2 at b2 k2 z2 L2 ⊢
    generalize w1.heap.size = g4 at k2 ⊢
    refine (SL.out _ L2).mono ?_
    rintro e w3 ⟨rfl, hb3⟩
    have b3 := κ (CrdB.below_step b2.out hb3)
    have z3 := κ (z2.out.below' hb3)
    have k3 := κ (k2.out.below' hb3)
    clear hb3 b2 z2 L2 k2 SL
    obtain ⟨s0, s1, s2, s3, s4, s5, s6, s7, s8, s9, s10, s11, y0, y1, y2, y3, y4, y5, y6, y7, y8, y9, y10, y11⟩ := z12_of z3.out
    obtain ⟨j0, j1, j2, j3, j4, j5, j6, j7, j8, j9, j10, j11⟩ := c12_of k3.out
    go_wp2_with fail
    have f3 : Blk (st12 w3 gR (.int .i64 k) (.int .i64 a) (.int .i64 s) (.bool x) (.int .i64 p) (.int .i64 q') (.int .i64 n) (.int .i64 t) (.int .i64 i) (.int .i64 y) (.int .i64 z) (.int .i64 v)) gR 54 #[.int .i64 k, .int .i64 a, .int .i64 s, .bool x, .int .i64 p, .int .i64 q', .int .i64 n, .int .i64 t, .int .i64 i, .int .i64 y, .int .i64 z, .int .i64 v] := st12_blk z3.out
    have hb : Below w.heap.size w (st12 w3 gR (.int .i64 k) (.int .i64 a) (.int .i64 s) (.bool x) (.int .i64 p) (.int .i64 q') (.int .i64 n) (.int .i64 t) (.int .i64 i) (.int .i64 y) (.int .i64 z) (.int .i64 v)) := st12_below b3.out hg.out
    clear j0 j1 j2 j3 j4 j5 j6 j7 j8 j9 j10 j11
    obtain ⟨d0, d1, d2, d3, d4, d5, d6, d7, d8, d9, d10, d11⟩ := c12_of f3
    unfold st12 at d0 d1 d2 d3 d4 d5 d6 d7 d8 d9 d10 d11 hb
    exact bodyPost_ret (v := .tuple #[.agg #[.int .i64 k, .int .i64 a, .int .i64 s, .bool x, .int .i64 p, .int .i64 q', .int .i64 n, .int .i64 t, .int .i64 i, .int .i64 y, .int .i64 z, .int .i64 v], .bool true]) (by simp [results, Tryd.results15, go_sem, d0, d1, d2, d3, d4, d5, d6, d7, d8, d9, d10, d11]) rfl ⟨by rw [hm.out], hb⟩
  · have hP : Hid (parseP l = (m0, false)) := κ (by rw [hP0.out, if_neg hq])
    have q : (lineL m == l) = false := beq_f hq
    rw [hP.out]
    clear hP hP0 hwf hs hL hq
    obtain ⟨k, a, s, x, p, q', n, t, i, y, z, v⟩ := m
    have G : Hid (∀ W, Hid (Lw W) → Calls Tryd.prog 23 #[sv l] W (fun e w' => e = .returned (.agg #[.int .i64 k, .int .i64 a, .int .i64 s, .bool x, .int .i64 p, .int .i64 q', .int .i64 n, .int .i64 t, .int .i64 i, .int .i64 y, .int .i64 z, .int .i64 v]) ∧ Below W.heap.size W w')) := κ (fun W h => G0.out W h)
    have SL : Hid (∀ W, Hid (Lw W) → Calls Tryd.prog 16 #[.agg #[.int .i64 k, .int .i64 a, .int .i64 s, .bool x, .int .i64 p, .int .i64 q', .int .i64 n, .int .i64 t, .int .i64 i, .int .i64 y, .int .i64 z, .int .i64 v]] W (MadeS (lineL ⟨k, a, s, x, p, q', n, t, i, y, z, v⟩) W)) := κ (fun W h => SL0.out W h)
    clear G0 SL0
    have hm : Hid (mvl ⟨k, a, s, x, p, q', n, t, i, y, z, v⟩ = .agg #[.int .i64 k, .int .i64 a, .int .i64 s, .bool x, .int .i64 p, .int .i64 q', .int .i64 n, .int .i64 t, .int .i64 i, .int .i64 y, .int .i64 z, .int .i64 v]) := κ rfl
    generalize (⟨k, a, s, x, p, q', n, t, i, y, z, v⟩ : M) = mm at SL q hm ⊢
    go_enter Tryd.func15, Tryd.ntmps15
    go_wp2_with fail
    generalize w.alloc (.cells #[.int .i64 0, .int .i64 0, .int .i64 0, .bool false, .int .i64 0, .int .i64 0, .int .i64 0, .int .i64 0, .int .i64 0, .int .i64 0, .int .i64 0, .int .i64 0] 54) = w0 at b0 z0 L0 ⊢
    generalize hgR : w.heap.size = gR at z0 ⊢
    have hg : Hid (w.heap.size ≤ gR) := κ (by omega)
    clear hgR
    refine (G.out _ L0).mono ?_
    rintro e w1 ⟨rfl, hb1⟩
    have b1 := κ (CrdB.below_step b0.out hb1)
    have z1 := κ (z0.out.below' hb1)
    have L1 := lwb L0 hb1
    clear hb1 b0 z0 L0 G
    have b2 := κ (b1.out.alloc b1.out.size (.cells #[.int .i64 k, .int .i64 a, .int .i64 s, .bool x, .int .i64 p, .int .i64 q', .int .i64 n, .int .i64 t, .int .i64 i, .int .i64 y, .int .i64 z, .int .i64 v] 54))
    have k2 := κ (δ w1 54 #[.int .i64 k, .int .i64 a, .int .i64 s, .bool x, .int .i64 p, .int .i64 q', .int .i64 n, .int .i64 t, .int .i64 i, .int .i64 y, .int .i64 z, .int .i64 v] w1.heap.size rfl)
    have z2 := κ (z1.out.alloc (.cells #[.int .i64 k, .int .i64 a, .int .i64 s, .bool x, .int .i64 p, .int .i64 q', .int .i64 n, .int .i64 t, .int .i64 i, .int .i64 y, .int .i64 z, .int .i64 v] 54))
    have L2 := lwb L1 ((Below.refl w1.heap.size w1).alloc (Nat.le_refl _) (.cells #[.int .i64 k, .int .i64 a, .int .i64 s, .bool x, .int .i64 p, .int .i64 q', .int .i64 n, .int .i64 t, .int .i64 i, .int .i64 y, .int .i64 z, .int .i64 v] 54))
    obtain ⟨j0, j1, j2, j3, j4, j5, j6, j7, j8, j9, j10, j11⟩ := c12_of k2.out
    go_wp2_with fail
    clear j0 j1 j2 j3 j4 j5 j6 j7 j8 j9 j10 j11 b1 L1 z1
    generalize w1.alloc (.cells #[.int .i64 k, .int .i64 a, .int .i64 s, .bool x, .int .i64 p, .int .i64 q', .int .i64 n, .int .i64 t, .int .i64 i, .int .i64 y, .int .i64 z, .int .i64 v] 54) = w2 at b2 k2 z2 L2 ⊢
    generalize w1.heap.size = g4 at k2 ⊢
    refine (SL.out _ L2).mono ?_
    rintro e w3 ⟨rfl, hb3⟩
    have b3 := κ (CrdB.below_step b2.out hb3)
    have z3 := κ (z2.out.below' hb3)
    have k3 := κ (k2.out.below' hb3)
    clear hb3 b2 z2 L2 k2 SL
    obtain ⟨s0, s1, s2, s3, s4, s5, s6, s7, s8, s9, s10, s11, y0, y1, y2, y3, y4, y5, y6, y7, y8, y9, y10, y11⟩ := z12_of z3.out
    obtain ⟨j0, j1, j2, j3, j4, j5, j6, j7, j8, j9, j10, j11⟩ := c12_of k3.out
    go_wp2_with fail
    have f3 : Blk (st12 w3 gR (.int .i64 0) (.int .i64 0) (.int .i64 0) (.bool false) (.int .i64 0) (.int .i64 0) (.int .i64 0) (.int .i64 0) (.int .i64 0) (.int .i64 0) (.int .i64 0) (.int .i64 0)) gR 54 #[.int .i64 0, .int .i64 0, .int .i64 0, .bool false, .int .i64 0, .int .i64 0, .int .i64 0, .int .i64 0, .int .i64 0, .int .i64 0, .int .i64 0, .int .i64 0] := st12_blk z3.out
    have hb : Below w.heap.size w (st12 w3 gR (.int .i64 0) (.int .i64 0) (.int .i64 0) (.bool false) (.int .i64 0) (.int .i64 0) (.int .i64 0) (.int .i64 0) (.int .i64 0) (.int .i64 0) (.int .i64 0) (.int .i64 0)) := st12_below b3.out hg.out
    clear j0 j1 j2 j3 j4 j5 j6 j7 j8 j9 j10 j11
    obtain ⟨d0, d1, d2, d3, d4, d5, d6, d7, d8, d9, d10, d11⟩ := c12_of f3
    unfold st12 at d0 d1 d2 d3 d4 d5 d6 d7 d8 d9 d10 d11 hb
    exact bodyPost_ret (v := .tuple #[.agg #[.int .i64 0, .int .i64 0, .int .i64 0, .bool false, .int .i64 0, .int .i64 0, .int .i64 0, .int .i64 0, .int .i64 0, .int .i64 0, .int .i64 0, .int .i64 0], .bool false]) (by simp [results, Tryd.results15, go_sem, d0, d1, d2, d3, d4, d5, d6, d7, d8, d9, d10, d11]) rfl ⟨rfl, hb⟩
end Spp
namespace Sto
open Tre Fix3 Cfg Rul1 Spp Scf Srd
theorem dig1 {n : Int} (h : 0 ≤ n) (h9 : n < 10) : itoa n = [dgt n.toNat] := by rw [itoa_dec h, dec_small (by omega)]
theorem itoa12 : itoa 12 = [49, 50] := by
  rw [itoa_dec (by omega), show (12 : Int).toNat = 12 from rfl, dec_big (by omega), dec_small (by omega)]
  rfl
def mA : M := ⟨0, 0, 1, true, 12, 3, 7, 0, 0, 0, 0, 0⟩
def mC : M := ⟨2, 0, 0, false, 0, 0, 0, 0, 4, 2, 0, 0⟩
def lA : List UInt8 := [111, 114, 100, 101, 114, 32, 48, 32, 49, 32, 115, 101, 108, 108, 32, 49, 50, 32, 51, 32, 55, 32, 48]
def lB : List UInt8 := [102, 105, 108, 108, 32, 48, 52, 32, 50]
def lC : List UInt8 := [102, 105, 108, 108, 32, 52, 32, 50]
theorem lineA : lineL mA = lA := by
  unfold lineL
  rw [if_pos (by decide)]
  show join [wOrder, itoa 0, itoa 1, sideL true, itoa 12, itoa 3, itoa 7, itoa 0] [32] = lA
  rw [itoa12, dig1 (n := 0) (by omega) (by omega), dig1 (n := 1) (by omega) (by omega), dig1 (n := 3) (by omega) (by omega), dig1 (n := 7) (by omega) (by omega)]
  rfl
theorem lineC : lineL mC = lC := by
  unfold lineL
  rw [if_pos (by decide)]
  show join [wFill, itoa 4, itoa 2] [32] = lC
  rw [dig1 (n := 4) (by omega) (by omega), dig1 (n := 2) (by omega) (by omega)]
  rfl
theorem small {n : Int} (h : 0 ≤ n := by decide) (h1 : n ≤ 100 := by decide) : inI n := by unfold inI; omega
theorem wfA : WfM mA := ⟨small, small, small, small, small, small, small, small, small, small, small⟩
theorem wfC : WfM mC := ⟨small, small, small, small, small, small, small, small, small, small, small⟩
theorem parseA : parseP lA = (mA, true) := by rw [← lineA]; exact parseP_line wfA (by decide)
theorem guessB : guessP lB = mC := by kernel_rfl
theorem parseB : parseP lB = (m0, false) := by
  unfold parseP
  rw [guessB, lineC, if_neg (by decide)]
theorem cf_ok (l : List UInt8) : cfgF (1 + bt l 0 % 3) (bt l 1 % 4) (1 + bt l 2 % 6) (1 + bt l 3 % 6) (cfN l) cfA cfS = 0 := by
  have p0 := bt_in l 0
  have p1 := bt_in l 1
  have p2 := bt_in l 2
  have p3 := bt_in l 3
  have p4 := bt_in l 4
  have p5 := bt_in l 5
  have p6 := bt_in l 6
  have p7 := bt_in l 7
  refine cfgF_7 ?_ ?_ (by decide) (by show accB 4 cfA = true; decide) (by decide) (by decide +kernel)
  · unfold sizB
    rw [btw_t (by omega) (by omega), btw_t (by omega) (by omega), btw_t (by omega) (by omega), btw_t (by omega) (by omega)]
    rfl
  · unfold cfN
    generalize bt l 4 = c4 at *
    generalize bt l 5 = c5 at *
    generalize bt l 6 = c6 at *
    generalize bt l 7 = c7 at *
    have h : scanF [(-1, 100 * (1 + c4)), (0, 100 * (1 + c5)), (1, 50 * (1 + c6)), (1, 50 * (1 + c7))] 4 0 = (0, -1) := by
      simp only [scanF, nP, nC, List.getD_cons_zero, List.getD_cons_succ, List.length_cons, List.length_nil]
      rw [if_pos (Or.inl trivial), if_pos (by omega), if_pos (Or.inr (by decide)), if_pos (by omega), if_pos (Or.inr (by decide)), if_pos (by omega), if_pos (Or.inr (by decide)), if_pos (by omega)]
      rfl
    have e : chk [(-1, 100 * (1 + c4)), (0, 100 * (1 + c5)), (1, 50 * (1 + c6)), (1, 50 * (1 + c7))] = (0, -1) := by
      unfold chk
      rw [if_neg (by simp), if_neg (by simp)]
      exact h
    rw [e]
theorem checkC (l : List UInt8) (gA gB gC : Nat) (w0 w : World) (h : Hid (Cn l w0 w gA gB gC)) : Calls Tryd.prog 7 #[cnV l gA gB gC] w (MadeX 0 w) := by
  have p4 := bt_in l 4
  have p5 := bt_in l 5
  have p6 := bt_in l 6
  have p7 := bt_in l 7
  have hw : WfN (cfN l) := by
    intro i hi
    have hi : i < 4 := hi
    unfold inI nP nC cfN
    match i, hi with
    | 0, _ => simp only [List.getD_cons_zero]; omega
    | 1, _ => simp only [List.getD_cons_zero, List.getD_cons_succ]; omega
    | 2, _ => simp only [List.getD_cons_zero, List.getD_cons_succ]; omega
    | 3, _ => simp only [List.getD_cons_zero, List.getD_cons_succ]; omega
  have c := check5_any (1 + bt l 0 % 3) (bt l 1 % 4) (1 + bt l 2 % 6) (1 + bt l 3 % 6) (some ⟨gA, 0, none⟩) (some ⟨gB, 0, none⟩) (some ⟨gC, 0, none⟩) 4 3 2 (cfN l) cfA cfS w (κ (h.out.a.rd' (by simp))) (κ (h.out.b.rd' (by simp))) (κ (h.out.c.rd' (by simp))) (κ hw) (by show ((4 : Nat) : Int) ≤ _; omega) (by show ((3 : Nat) : Int) ≤ _; omega) (by show ((2 : Nat) : Int) ≤ _; omega)
  rw [cf_ok] at c
  exact c
theorem told13_any (w : World) (hL : Hid (Lw w)) : Calls Tryd.prog 6 #[] w (MadeBl true w) := by
  have PA : Hid (∀ W, Hid (Lw W) → Calls Tryd.prog 15 #[.string ⟨#[111, 114, 100, 101, 114, 32, 48, 32, 49, 32, 115, 101, 108, 108, 32, 49, 50, 32, 51, 32, 55, 32, 48]⟩] W (fun e w' => e = .returned (.tuple #[.agg #[.int .i64 0, .int .i64 0, .int .i64 1, .bool true, .int .i64 12, .int .i64 3, .int .i64 7, .int .i64 0, .int .i64 0, .int .i64 0, .int .i64 0, .int .i64 0], .bool true]) ∧ Below W.heap.size W w')) := κ (fun W h => by have c := sparse_any lA W h (by decide); rw [parseA] at c; exact c)
  have PB : Hid (∀ W, Hid (Lw W) → Calls Tryd.prog 15 #[.string ⟨#[102, 105, 108, 108, 32, 48, 52, 32, 50]⟩] W (fun e w' => e = .returned (.tuple #[.agg #[.int .i64 0, .int .i64 0, .int .i64 0, .bool false, .int .i64 0, .int .i64 0, .int .i64 0, .int .i64 0, .int .i64 0, .int .i64 0, .int .i64 0, .int .i64 0], .bool false]) ∧ Below W.heap.size W w')) := κ (fun W h => by have c := sparse_any lB W h (by decide); rw [parseB] at c; exact c)
  have PC : Hid (∀ W, Hid (Lw W) → Calls Tryd.prog 16 #[.agg #[.int .i64 2, .int .i64 0, .int .i64 0, .bool false, .int .i64 0, .int .i64 0, .int .i64 0, .int .i64 0, .int .i64 4, .int .i64 2, .int .i64 0, .int .i64 0]] W (fun e w' => e = .returned (.string ⟨#[102, 105, 108, 108, 32, 52, 32, 50]⟩) ∧ Below W.heap.size W w')) := κ (fun W h => by have c := sline_any mC W wfC h; rw [lineC] at c; exact c)
  have fd : ∀ (a b c d : Int) (A B C D E : Option Addr) (n1 c1 n2 c2 n3 c3 n4 c4 n5 c5 : Nat) (W : World), (Instr.field 30 (.agg #[.int .i64 a, .int .i64 b, .int .i64 c, .int .i64 d, .slice A n1 c1, .slice B n2 c2, .slice C n3 c3, .slice D n4 c4, .slice E n5 c5]) 0).run Tryd.prog W = .ok (.agg #[.int .i64 a, .int .i64 b, .int .i64 c, .int .i64 d, .slice A n1 c1, .slice B n2 c2, .slice C n3 c3]) W := fun _ _ _ _ _ _ _ _ _ _ _ _ _ _ _ _ _ _ _ _ => by kernel_rfl
  go_enter Tryd.func6, Tryd.ntmps6
  go_wp2_with fail
  refine (PA.out _ hL).mono ?_
  rintro e w1 ⟨rfl, hb1⟩
  have b1 := κ hb1
  have L1 := lwb hL hb1
  clear hb1 hL PA
  go_wp2_with fail
  have b2 := κ (b1.out.alloc b1.out.size (.cells #[.int .i64 0, .int .i64 0, .int .i64 1, .bool true, .int .i64 12, .int .i64 3, .int .i64 7, .int .i64 0, .int .i64 0, .int .i64 0, .int .i64 0, .int .i64 0] 54))
  have k2 := κ (δ w1 54 #[.int .i64 0, .int .i64 0, .int .i64 1, .bool true, .int .i64 12, .int .i64 3, .int .i64 7, .int .i64 0, .int .i64 0, .int .i64 0, .int .i64 0, .int .i64 0] w1.heap.size rfl)
  have L2 := lwb L1 ((Below.refl w1.heap.size w1).alloc (Nat.le_refl _) (.cells #[.int .i64 0, .int .i64 0, .int .i64 1, .bool true, .int .i64 12, .int .i64 3, .int .i64 7, .int .i64 0, .int .i64 0, .int .i64 0, .int .i64 0, .int .i64 0] 54))
  clear b1 L1
  generalize w1.alloc (.cells #[.int .i64 0, .int .i64 0, .int .i64 1, .bool true, .int .i64 12, .int .i64 3, .int .i64 7, .int .i64 0, .int .i64 0, .int .i64 0, .int .i64 0, .int .i64 0] 54) = w2 at b2 k2 L2 ⊢
  generalize w1.heap.size = gM at k2 ⊢
  refine (PB.out _ L2).mono ?_
  rintro e w3 ⟨rfl, hb3⟩
  have b3 := κ (Rul1.below_step b2.out hb3)
  have L3 := lwb L2 hb3
  have k3 := κ (k2.out.below' hb3)
  clear hb3 b2 L2 k2 PB
  have b4 := κ (b3.out.alloc b3.out.size (.cells #[.int .i64 0, .int .i64 0, .int .i64 0, .bool false, .int .i64 0, .int .i64 0, .int .i64 0, .int .i64 0, .int .i64 0, .int .i64 0, .int .i64 0, .int .i64 0] 54))
  have k4 := κ (k3.out.alloc (.cells #[.int .i64 0, .int .i64 0, .int .i64 0, .bool false, .int .i64 0, .int .i64 0, .int .i64 0, .int .i64 0, .int .i64 0, .int .i64 0, .int .i64 0, .int .i64 0] 54))
  have L4 := lwb L3 ((Below.refl w3.heap.size w3).alloc (Nat.le_refl _) (.cells #[.int .i64 0, .int .i64 0, .int .i64 0, .bool false, .int .i64 0, .int .i64 0, .int .i64 0, .int .i64 0, .int .i64 0, .int .i64 0, .int .i64 0, .int .i64 0] 54))
  clear b3 L3 k3
  go_upto_region 3 with fail
  generalize w3.alloc (.cells #[.int .i64 0, .int .i64 0, .int .i64 0, .bool false, .int .i64 0, .int .i64 0, .int .i64 0, .int .i64 0, .int .i64 0, .int .i64 0, .int .i64 0, .int .i64 0] 54) = w4 at b4 k4 L4 ⊢
  obtain ⟨j0, j1, j2, j3, j4, j5, j6, j7, j8, j9, j10, j11⟩ := c12_of k4.out
  go_wp2_with fail
  refine (PC.out _ L4).mono ?_
  rintro e w5 ⟨rfl, hb5⟩
  have b5 := κ (Rul1.below_step b4.out hb5)
  clear hb5 b4 k4 L4 PC j0 j1 j2 j3 j4 j5 j6 j7 j8 j9 j10 j11
  go_wp2_with fail
  refine (sreadS_any [] none 0 w5 (κ Rd.nil) (by decide)).mono ?_
  rintro e w6 ⟨gA, gB, gC, gL, rfl, hc, hl, hb6⟩
  have b6 := κ (Rul1.below_step b5.out hb6)
  have CK := κ (checkC [] gA gB gC w5 w6 (κ hc))
  clear hc hl hb6 b5
  unfold scV
  go_wp2_with fail
  refine (CK.out).mono ?_
  rintro e w7 ⟨rfl, hb7⟩
  have b7 := κ (Rul1.below_step b6.out hb7)
  clear hb7 b6 CK
  go_wp2_with fail
  go_ret
  exact ⟨rfl, b7.out⟩
end Sto
end Go.Proofs.YtmjkhejfhpgiiaaDoor
