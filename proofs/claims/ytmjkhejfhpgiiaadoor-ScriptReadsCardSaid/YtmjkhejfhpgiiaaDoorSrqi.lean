/- Texts side by side. -/
import Derived.Test.YtmjkhejfhpgiiaaDoorSrqb
import Derived.Test.YtmjkhejfhpgiiaaDoorSrqe
set_option linter.unusedVariables false
set_option linter.unusedSimpArgs false
set_option maxRecDepth 100000
set_option maxHeartbeats 16000000
namespace Go.Proofs.YtmjkhejfhpgiiaaDoor
open Kap Go.ChangeShapes Go.WideShapes Go.ChangeAt Go.RowKit Go.Lib Mem Wpl Wmr Wrt Spa Spm Shw
namespace Slp
theorem r_no {m : M} (h : ¬ rightM m = true) (w : World) : Calls Tryd.prog 24 #[mvl m] w (MadeBl false w) := by
  have := right_any m w
  rw [Bool.eq_false_iff.2 h] at this
  exact this
theorem r_yes {m : M} (h : rightM m = true) (w : World) : Calls Tryd.prog 24 #[mvl m] w (MadeBl true w) := by
  have := right_any m w
  rw [h] at this
  exact this
def OB (w : World) (g : Nat) (a s : Int) (x : Bool) (p q n t : Int) : Prop := Blk w g 52 #[.int .i64 a, .int .i64 s, .bool x, .int .i64 p, .int .i64 q, .int .i64 n, .int .i64 t]
theorem OB.below {w w' : World} {g : Nat} {a s : Int} {x : Bool} {p q n t : Int} (h : Hid (OB w g a s x p q n t)) (hb : Below w.heap.size w w') : Hid (OB w' g a s x p q n t) := Blk.below' h.out hb
theorem OB.all {w : World} {g : Nat} {a s : Int} {x : Bool} {p q n t : Int} (h : Hid (OB w g a s x p q n t)) : w.cell? ⟨g, 0, none⟩ = some (.int .i64 a) ∧ w.cell? ⟨g, 1, none⟩ = some (.int .i64 s) ∧ w.cell? ⟨g, 2, none⟩ = some (.bool x) ∧ w.cell? ⟨g, 3, none⟩ = some (.int .i64 p) ∧ w.cell? ⟨g, 4, none⟩ = some (.int .i64 q) ∧ w.cell? ⟨g, 5, none⟩ = some (.int .i64 n) ∧ w.cell? ⟨g, 6, none⟩ = some (.int .i64 t) :=
  ⟨Blk.cell h.out 0, Blk.cell h.out 1, Blk.cell h.out 2, Blk.cell h.out 3, Blk.cell h.out 4, Blk.cell h.out 5, Blk.cell h.out 6⟩
theorem txs_new (w : World) (ws : List (List UInt8)) (cs : Array Value) (te : TypeId) (h : cs.toList = stx ws) : Hid (Txs (w.alloc (.cells cs te)) (w.alloc (.cells cs te)).heap.size (some ⟨w.heap.size, 0, none⟩) ws) := rd_new h
theorem fin_below {w wj w' : World} {o : Obj} (h : Hid (Below w.heap.size w wj)) (hb : Below (wj.alloc o).heap.size (wj.alloc o) w') : Hid (Below w.heap.size w w') := κ (CrdB.below_step (h.out.alloc h.out.size o) hb)
theorem line0 (a s : Int) (x : Bool) (p q n t i y z v : Int) (w : World) (hw : WfM (⟨0, a, s, x, p, q, n, t, i, y, z, v⟩ : M)) (hr : rightM (⟨0, a, s, x, p, q, n, t, i, y, z, v⟩ : M) = true) (hL : Hid (Lw w)) : Calls Tryd.prog 16 #[mvl (⟨0, a, s, x, p, q, n, t, i, y, z, v⟩ : M)] w (MadeS (lineL (⟨0, a, s, x, p, q, n, t, i, y, z, v⟩ : M)) w) := by
  have hlen := κ (line_len hw)
  obtain ⟨_, ia, is, ip, iq, iN, it, ii, iy, iz, iv⟩ := hw
  have hl : Hid (lineL (⟨0, a, s, x, p, q, n, t, i, y, z, v⟩ : M) = join [wOrder, itoa a, itoa s, sideL x, itoa p, itoa q, itoa n, itoa t] [32]) := κ (by unfold lineL; rw [if_pos hr]; rfl)
  rw [hl.out] at hlen ⊢
  have b0 := κ (β w (.cells #[.int .i64 0, .int .i64 a, .int .i64 s, .bool x, .int .i64 p, .int .i64 q, .int .i64 n, .int .i64 t, .int .i64 i, .int .i64 y, .int .i64 z, .int .i64 v] 54))
  have k0 := κ (δ w 54 #[.int .i64 0, .int .i64 a, .int .i64 s, .bool x, .int .i64 p, .int .i64 q, .int .i64 n, .int .i64 t, .int .i64 i, .int .i64 y, .int .i64 z, .int .i64 v] w.heap.size rfl)
  have L0 := lwb hL b0.out
  have hR := κ (r_yes hr)
  clear hr hl hL
  rw [mvl_mk]
  go_enter Tryd.func16, Tryd.ntmps16
  obtain ⟨j0, j1, j2, j3, j4, j5, j6, j7, j8, j9, j10, j11⟩ := c12_of k0.out
  go_wp2_with fail
  clear j0 j1 j2 j3 j4 j5 j6 j7 j8 j9 j10 j11
  generalize (w.alloc (.cells #[.int .i64 0, .int .i64 a, .int .i64 s, .bool x, .int .i64 p, .int .i64 q, .int .i64 n, .int .i64 t, .int .i64 i, .int .i64 y, .int .i64 z, .int .i64 v] 54)) = w0 at b0 k0 L0 ⊢
  refine (hR.out _).mono ?_
  rintro e w1 ⟨rfl, hb1⟩
  have b1 := κ (CrdB.below_step b0.out hb1)
  have k1 := κ (k0.out.below' hb1)
  have L1 := lwb L0 hb1
  clear hb1 b0 k0 L0 hR
  obtain ⟨j0, j1, j2, j3, j4, j5, j6, j7, j8, j9, j10, j11⟩ := c12_of k1.out
  go_upto_region 7 with fail
  clear j0 j1 j2 j3 j4 j5 j6 j7 j8 j9 j10 j11
  have b2 := κ ((b1.out.alloc b1.out.size (.cells #[.int .i64 a, .int .i64 s, .bool x, .int .i64 p, .int .i64 q, .int .i64 n, .int .i64 t] 52)).drew)
  have O2 : Hid (OB ((w1.alloc (.cells #[.int .i64 a, .int .i64 s, .bool x, .int .i64 p, .int .i64 q, .int .i64 n, .int .i64 t] 52)).drew) w1.heap.size a s x p q n t) := κ (Blk.fresh w1 _ _)
  have L2 := lwb L1 (((Below.refl w1.heap.size w1).alloc (Nat.le_refl _) (.cells #[.int .i64 a, .int .i64 s, .bool x, .int .i64 p, .int .i64 q, .int .i64 n, .int .i64 t] 52)).drew)
  clear L1 k1 b1
  generalize (w1.alloc (.cells #[.int .i64 a, .int .i64 s, .bool x, .int .i64 p, .int .i64 q, .int .i64 n, .int .i64 t] 52)) = w2 at b2 O2 L2 ⊢
  generalize w1.heap.size = gO at O2 ⊢
  have a2 := OB.all O2
  go_region_held3 (fun w' => w'.cell? ⟨gO, 0, none⟩ = some (.int .i64 a) ∧ w'.cell? ⟨gO, 1, none⟩ = some (.int .i64 s) ∧ w'.cell? ⟨gO, 2, none⟩ = some (.bool x) ∧ w'.cell? ⟨gO, 3, none⟩ = some (.int .i64 p) ∧ w'.cell? ⟨gO, 4, none⟩ = some (.int .i64 q) ∧ w'.cell? ⟨gO, 5, none⟩ = some (.int .i64 n) ∧ w'.cell? ⟨gO, 6, none⟩ = some (.int .i64 t))
    (first | assumption | (refine OB.all ?_; assumption) | (refine OB.all (OB.below ?_ ((Below.refl _ _).alloc (Nat.le_refl _) _)); assumption))
    (first
      | (go_at_call 26; refine (digI_any _ (by assumption) _ (by assumption)).mono ?_; rintro e wj ⟨rfl, hbj⟩; have bj := κ (CrdB.below_step (Hid.out (by assumption)) hbj); have Lj := lwb (by assumption) hbj; have Oj := OB.below (by assumption) hbj; clear hbj)
      | (go_at_call 28; refine (digL_any _ (by assumption) _ (by assumption)).mono ?_; rintro e wj ⟨rfl, hbj⟩; have bj := κ (CrdB.below_step (Hid.out (by assumption)) hbj); have Lj := lwb (by assumption) hbj; have Oj := OB.below (by assumption) hbj; clear hbj)
      | (go_at_call 27; refine (side_any _ _).mono ?_; rintro e wj ⟨rfl, rfl⟩)
      | (go_at_call 25; refine (line_any _ 8 [wOrder, itoa a, itoa s, sideL x, itoa p, itoa q, itoa n, itoa t] _ (txs_new _ _ _ _ rfl) (κ rfl) (by omega) hlen).mono ?_; rintro e wj ⟨rfl, hbj⟩; have bl := fin_below (by assumption) hbj; have Oj := OB.below (OB.below (by assumption) ((Below.refl _ _).alloc (Nat.le_refl _) _)) hbj; clear hbj))
  go_wp2_with fail
  go_ret
  exact ⟨rfl, bl.out⟩
def tw2 (w : World) (g : Nat) (u v : Int) : Prop := w.cell? ⟨g, 8, none⟩ = some (.int .i64 u) ∧ w.cell? ⟨g, 9, none⟩ = some (.int .i64 v) ∧ g < w.heap.size
theorem tw2.below {w w' : World} {g : Nat} {u v : Int} (h : Hid (tw2 w g u v)) (hb : Below w.heap.size w w') : Hid (tw2 w' g u v) := κ ⟨(hb.cell h.out.2.2).trans h.out.1, (hb.cell h.out.2.2).trans h.out.2.1, Nat.lt_of_lt_of_le h.out.2.2 hb.size⟩
theorem tw2.all {w : World} {g : Nat} {u v : Int} (h : Hid (tw2 w g u v)) : w.cell? ⟨g, 8, none⟩ = some (.int .i64 u) ∧ w.cell? ⟨g, 9, none⟩ = some (.int .i64 v) := ⟨h.out.1, h.out.2.1⟩
theorem line2 (a s : Int) (x : Bool) (p q n t i y z v : Int) (w : World) (hw : WfM (⟨2, a, s, x, p, q, n, t, i, y, z, v⟩ : M)) (hr : rightM (⟨2, a, s, x, p, q, n, t, i, y, z, v⟩ : M) = true) (hL : Hid (Lw w)) : Calls Tryd.prog 16 #[mvl (⟨2, a, s, x, p, q, n, t, i, y, z, v⟩ : M)] w (MadeS (lineL (⟨2, a, s, x, p, q, n, t, i, y, z, v⟩ : M)) w) := by
  have hlen := κ (line_len hw)
  obtain ⟨_, ia, is, ip, iq, iN, it, ii, iy, iz, iv⟩ := hw
  have hl : Hid (lineL (⟨2, a, s, x, p, q, n, t, i, y, z, v⟩ : M) = join [wFill, itoa i, itoa y] [32]) := κ (by unfold lineL; rw [if_pos hr]; rfl)
  rw [hl.out] at hlen ⊢
  have b0 := κ (β w (.cells #[.int .i64 2, .int .i64 a, .int .i64 s, .bool x, .int .i64 p, .int .i64 q, .int .i64 n, .int .i64 t, .int .i64 i, .int .i64 y, .int .i64 z, .int .i64 v] 54))
  have k0 := κ (δ w 54 #[.int .i64 2, .int .i64 a, .int .i64 s, .bool x, .int .i64 p, .int .i64 q, .int .i64 n, .int .i64 t, .int .i64 i, .int .i64 y, .int .i64 z, .int .i64 v] w.heap.size rfl)
  have L0 := lwb hL b0.out
  have hR := κ (r_yes hr)
  clear hr hl hL
  rw [mvl_mk]
  go_enter Tryd.func16, Tryd.ntmps16
  obtain ⟨j0, j1, j2, j3, j4, j5, j6, j7, j8, j9, j10, j11⟩ := c12_of k0.out
  go_wp2_with fail
  clear j0 j1 j2 j3 j4 j5 j6 j7 j8 j9 j10 j11
  generalize (w.alloc (.cells #[.int .i64 2, .int .i64 a, .int .i64 s, .bool x, .int .i64 p, .int .i64 q, .int .i64 n, .int .i64 t, .int .i64 i, .int .i64 y, .int .i64 z, .int .i64 v] 54)) = w0 at b0 k0 L0 ⊢
  refine (hR.out _).mono ?_
  rintro e w1 ⟨rfl, hb1⟩
  have b1 := κ (CrdB.below_step b0.out hb1)
  have k1 := κ (k0.out.below' hb1)
  have L1 := lwb L0 hb1
  clear hb1 b0 k0 L0 hR
  obtain ⟨j0, j1, j2, j3, j4, j5, j6, j7, j8, j9, j10, j11⟩ := c12_of k1.out
  go_upto_region 11 with fail
  clear j0 j1 j2 j3 j4 j5 j6 j7 j8 j9 j10 j11
  generalize w.heap.size = gM at k1 ⊢
  have O2 : Hid (tw2 w1.drew gM i y) := κ ⟨k1.out.cell 8, k1.out.cell 9, k1.out.lt⟩
  have b2 := κ b1.out.drew
  have L2 := lwb L1 (Below.refl w1.heap.size w1).drew
  have a2 := tw2.all O2
  clear b1 L1 k1
  go_region_held3 (fun w' => w'.cell? ⟨gM, 8, none⟩ = some (.int .i64 i) ∧ w'.cell? ⟨gM, 9, none⟩ = some (.int .i64 y))
    (first | assumption | (refine tw2.all ?_; assumption) | (refine tw2.all (tw2.below ?_ ((Below.refl _ _).alloc (Nat.le_refl _) _)); assumption))
    (first
      | (go_at_call 26; refine (digI_any _ (by assumption) _ (by assumption)).mono ?_; rintro e wj ⟨rfl, hbj⟩; have bj := κ (CrdB.below_step (Hid.out (by assumption)) hbj); have Lj := lwb (by assumption) hbj; have Oj := tw2.below (by assumption) hbj; clear hbj)
      | (go_at_call 28; refine (digL_any _ (by assumption) _ (by assumption)).mono ?_; rintro e wj ⟨rfl, hbj⟩; have bj := κ (CrdB.below_step (Hid.out (by assumption)) hbj); have Lj := lwb (by assumption) hbj; have Oj := tw2.below (by assumption) hbj; clear hbj)
      | (go_at_call 27; refine (side_any _ _).mono ?_; rintro e wj ⟨rfl, rfl⟩)
      | (go_at_call 25; refine (line_any _ 3 [wFill, itoa i, itoa y] _ (txs_new _ _ _ _ rfl) (κ rfl) (by omega) hlen).mono ?_; rintro e wj ⟨rfl, hbj⟩; have bl := fin_below (by assumption) hbj; have Oj := tw2.below (tw2.below (by assumption) ((Below.refl _ _).alloc (Nat.le_refl _) _)) hbj; clear hbj))
  go_wp2_with fail
  go_ret
  exact ⟨rfl, bl.out⟩
def tw6 (w : World) (g : Nat) (u v : Int) : Prop := w.cell? ⟨g, 10, none⟩ = some (.int .i64 u) ∧ w.cell? ⟨g, 11, none⟩ = some (.int .i64 v) ∧ g < w.heap.size
theorem tw6.below {w w' : World} {g : Nat} {u v : Int} (h : Hid (tw6 w g u v)) (hb : Below w.heap.size w w') : Hid (tw6 w' g u v) := κ ⟨(hb.cell h.out.2.2).trans h.out.1, (hb.cell h.out.2.2).trans h.out.2.1, Nat.lt_of_lt_of_le h.out.2.2 hb.size⟩
theorem tw6.all {w : World} {g : Nat} {u v : Int} (h : Hid (tw6 w g u v)) : w.cell? ⟨g, 10, none⟩ = some (.int .i64 u) ∧ w.cell? ⟨g, 11, none⟩ = some (.int .i64 v) := ⟨h.out.1, h.out.2.1⟩
theorem line6 (a s : Int) (x : Bool) (p q n t i y z v : Int) (w : World) (hw : WfM (⟨6, a, s, x, p, q, n, t, i, y, z, v⟩ : M)) (hr : rightM (⟨6, a, s, x, p, q, n, t, i, y, z, v⟩ : M) = true) (hL : Hid (Lw w)) : Calls Tryd.prog 16 #[mvl (⟨6, a, s, x, p, q, n, t, i, y, z, v⟩ : M)] w (MadeS (lineL (⟨6, a, s, x, p, q, n, t, i, y, z, v⟩ : M)) w) := by
  have hlen := κ (line_len hw)
  obtain ⟨_, ia, is, ip, iq, iN, it, ii, iy, iz, iv⟩ := hw
  have hl : Hid (lineL (⟨6, a, s, x, p, q, n, t, i, y, z, v⟩ : M) = join [wLimit, itoa z, itoa v] [32]) := κ (by unfold lineL; rw [if_pos hr]; rfl)
  rw [hl.out] at hlen ⊢
  have b0 := κ (β w (.cells #[.int .i64 6, .int .i64 a, .int .i64 s, .bool x, .int .i64 p, .int .i64 q, .int .i64 n, .int .i64 t, .int .i64 i, .int .i64 y, .int .i64 z, .int .i64 v] 54))
  have k0 := κ (δ w 54 #[.int .i64 6, .int .i64 a, .int .i64 s, .bool x, .int .i64 p, .int .i64 q, .int .i64 n, .int .i64 t, .int .i64 i, .int .i64 y, .int .i64 z, .int .i64 v] w.heap.size rfl)
  have L0 := lwb hL b0.out
  have hR := κ (r_yes hr)
  clear hr hl hL
  rw [mvl_mk]
  go_enter Tryd.func16, Tryd.ntmps16
  obtain ⟨j0, j1, j2, j3, j4, j5, j6, j7, j8, j9, j10, j11⟩ := c12_of k0.out
  go_wp2_with fail
  clear j0 j1 j2 j3 j4 j5 j6 j7 j8 j9 j10 j11
  generalize (w.alloc (.cells #[.int .i64 6, .int .i64 a, .int .i64 s, .bool x, .int .i64 p, .int .i64 q, .int .i64 n, .int .i64 t, .int .i64 i, .int .i64 y, .int .i64 z, .int .i64 v] 54)) = w0 at b0 k0 L0 ⊢
  refine (hR.out _).mono ?_
  rintro e w1 ⟨rfl, hb1⟩
  have b1 := κ (CrdB.below_step b0.out hb1)
  have k1 := κ (k0.out.below' hb1)
  have L1 := lwb L0 hb1
  clear hb1 b0 k0 L0 hR
  obtain ⟨j0, j1, j2, j3, j4, j5, j6, j7, j8, j9, j10, j11⟩ := c12_of k1.out
  go_upto_region 4 with fail
  clear j0 j1 j2 j3 j4 j5 j6 j7 j8 j9 j10 j11
  generalize w.heap.size = gM at k1 ⊢
  have O2 : Hid (tw6 w1.drew gM z v) := κ ⟨k1.out.cell 10, k1.out.cell 11, k1.out.lt⟩
  have b2 := κ b1.out.drew
  have L2 := lwb L1 (Below.refl w1.heap.size w1).drew
  have a2 := tw6.all O2
  clear b1 L1 k1
  go_region_held3 (fun w' => w'.cell? ⟨gM, 10, none⟩ = some (.int .i64 z) ∧ w'.cell? ⟨gM, 11, none⟩ = some (.int .i64 v))
    (first | assumption | (refine tw6.all ?_; assumption) | (refine tw6.all (tw6.below ?_ ((Below.refl _ _).alloc (Nat.le_refl _) _)); assumption))
    (first
      | (go_at_call 26; refine (digI_any _ (by assumption) _ (by assumption)).mono ?_; rintro e wj ⟨rfl, hbj⟩; have bj := κ (CrdB.below_step (Hid.out (by assumption)) hbj); have Lj := lwb (by assumption) hbj; have Oj := tw6.below (by assumption) hbj; clear hbj)
      | (go_at_call 28; refine (digL_any _ (by assumption) _ (by assumption)).mono ?_; rintro e wj ⟨rfl, hbj⟩; have bj := κ (CrdB.below_step (Hid.out (by assumption)) hbj); have Lj := lwb (by assumption) hbj; have Oj := tw6.below (by assumption) hbj; clear hbj)
      | (go_at_call 27; refine (side_any _ _).mono ?_; rintro e wj ⟨rfl, rfl⟩)
      | (go_at_call 25; refine (line_any _ 3 [wLimit, itoa z, itoa v] _ (txs_new _ _ _ _ rfl) (κ rfl) (by omega) hlen).mono ?_; rintro e wj ⟨rfl, hbj⟩; have bl := fin_below (by assumption) hbj; have Oj := tw6.below (tw6.below (by assumption) ((Below.refl _ _).alloc (Nat.le_refl _) _)) hbj; clear hbj))
  go_wp2_with fail
  go_ret
  exact ⟨rfl, bl.out⟩
theorem line1 (a s : Int) (x : Bool) (p q n t i y z v : Int) (w : World) (hw : WfM (⟨1, a, s, x, p, q, n, t, i, y, z, v⟩ : M)) (hr : rightM (⟨1, a, s, x, p, q, n, t, i, y, z, v⟩ : M) = true) (hL : Hid (Lw w)) : Calls Tryd.prog 16 #[mvl (⟨1, a, s, x, p, q, n, t, i, y, z, v⟩ : M)] w (MadeS (lineL (⟨1, a, s, x, p, q, n, t, i, y, z, v⟩ : M)) w) := by
  have hlen := κ (line_len hw)
  obtain ⟨_, ia, is, ip, iq, iN, it, ii, iy, iz, iv⟩ := hw
  have hl : Hid (lineL (⟨1, a, s, x, p, q, n, t, i, y, z, v⟩ : M) = join [wCancel, itoa i] [32]) := κ (by unfold lineL; rw [if_pos hr]; rfl)
  rw [hl.out] at hlen ⊢
  have b0 := κ (β w (.cells #[.int .i64 1, .int .i64 a, .int .i64 s, .bool x, .int .i64 p, .int .i64 q, .int .i64 n, .int .i64 t, .int .i64 i, .int .i64 y, .int .i64 z, .int .i64 v] 54))
  have k0 := κ (δ w 54 #[.int .i64 1, .int .i64 a, .int .i64 s, .bool x, .int .i64 p, .int .i64 q, .int .i64 n, .int .i64 t, .int .i64 i, .int .i64 y, .int .i64 z, .int .i64 v] w.heap.size rfl)
  have L0 := lwb hL b0.out
  have hR := κ (r_yes hr)
  clear hr hl hL
  rw [mvl_mk]
  go_enter Tryd.func16, Tryd.ntmps16
  obtain ⟨j0, j1, j2, j3, j4, j5, j6, j7, j8, j9, j10, j11⟩ := c12_of k0.out
  go_wp2_with fail
  clear j0 j1 j2 j3 j4 j5 j6 j7 j8 j9 j10 j11
  generalize (w.alloc (.cells #[.int .i64 1, .int .i64 a, .int .i64 s, .bool x, .int .i64 p, .int .i64 q, .int .i64 n, .int .i64 t, .int .i64 i, .int .i64 y, .int .i64 z, .int .i64 v] 54)) = w0 at b0 k0 L0 ⊢
  refine (hR.out _).mono ?_
  rintro e w1 ⟨rfl, hb1⟩
  have b1 := κ (CrdB.below_step b0.out hb1)
  have k1 := κ (k0.out.below' hb1)
  have L1 := lwb L0 hb1
  clear hb1 b0 k0 L0 hR
  obtain ⟨j0, j1, j2, j3, j4, j5, j6, j7, j8, j9, j10, j11⟩ := c12_of k1.out
  go_wp2_with fail
  refine (digI_any i ii _ L1).mono ?_
  rintro e w2 ⟨rfl, hb2⟩
  have b2 := κ (CrdB.below_step b1.out hb2)
  clear hb2 L1 b1 k1 j0 j1 j2 j3 j4 j5 j6 j7 j8 j9 j10 j11
  go_wp2_with fail
  refine (line_any _ 2 [wCancel, itoa i] _ (txs_new _ _ _ _ rfl) (κ rfl) (by omega) hlen).mono ?_
  rintro e w3 ⟨rfl, hb3⟩
  have bl := fin_below b2 hb3
  clear hb3 b2
  go_wp2_with fail
  go_ret
  exact ⟨rfl, bl.out⟩
theorem line3 (a s : Int) (x : Bool) (p q n t i y z v : Int) (w : World) (hw : WfM (⟨3, a, s, x, p, q, n, t, i, y, z, v⟩ : M)) (hr : rightM (⟨3, a, s, x, p, q, n, t, i, y, z, v⟩ : M) = true) (hL : Hid (Lw w)) : Calls Tryd.prog 16 #[mvl (⟨3, a, s, x, p, q, n, t, i, y, z, v⟩ : M)] w (MadeS (lineL (⟨3, a, s, x, p, q, n, t, i, y, z, v⟩ : M)) w) := by
  have hlen := κ (line_len hw)
  obtain ⟨_, ia, is, ip, iq, iN, it, ii, iy, iz, iv⟩ := hw
  have hl : Hid (lineL (⟨3, a, s, x, p, q, n, t, i, y, z, v⟩ : M) = join [wAck, itoa i] [32]) := κ (by unfold lineL; rw [if_pos hr]; rfl)
  rw [hl.out] at hlen ⊢
  have b0 := κ (β w (.cells #[.int .i64 3, .int .i64 a, .int .i64 s, .bool x, .int .i64 p, .int .i64 q, .int .i64 n, .int .i64 t, .int .i64 i, .int .i64 y, .int .i64 z, .int .i64 v] 54))
  have k0 := κ (δ w 54 #[.int .i64 3, .int .i64 a, .int .i64 s, .bool x, .int .i64 p, .int .i64 q, .int .i64 n, .int .i64 t, .int .i64 i, .int .i64 y, .int .i64 z, .int .i64 v] w.heap.size rfl)
  have L0 := lwb hL b0.out
  have hR := κ (r_yes hr)
  clear hr hl hL
  rw [mvl_mk]
  go_enter Tryd.func16, Tryd.ntmps16
  obtain ⟨j0, j1, j2, j3, j4, j5, j6, j7, j8, j9, j10, j11⟩ := c12_of k0.out
  go_wp2_with fail
  clear j0 j1 j2 j3 j4 j5 j6 j7 j8 j9 j10 j11
  generalize (w.alloc (.cells #[.int .i64 3, .int .i64 a, .int .i64 s, .bool x, .int .i64 p, .int .i64 q, .int .i64 n, .int .i64 t, .int .i64 i, .int .i64 y, .int .i64 z, .int .i64 v] 54)) = w0 at b0 k0 L0 ⊢
  refine (hR.out _).mono ?_
  rintro e w1 ⟨rfl, hb1⟩
  have b1 := κ (CrdB.below_step b0.out hb1)
  have k1 := κ (k0.out.below' hb1)
  have L1 := lwb L0 hb1
  clear hb1 b0 k0 L0 hR
  obtain ⟨j0, j1, j2, j3, j4, j5, j6, j7, j8, j9, j10, j11⟩ := c12_of k1.out
  go_wp2_with fail
  refine (digI_any i ii _ L1).mono ?_
  rintro e w2 ⟨rfl, hb2⟩
  have b2 := κ (CrdB.below_step b1.out hb2)
  clear hb2 L1 b1 k1 j0 j1 j2 j3 j4 j5 j6 j7 j8 j9 j10 j11
  go_wp2_with fail
  refine (line_any _ 2 [wAck, itoa i] _ (txs_new _ _ _ _ rfl) (κ rfl) (by omega) hlen).mono ?_
  rintro e w3 ⟨rfl, hb3⟩
  have bl := fin_below b2 hb3
  clear hb3 b2
  go_wp2_with fail
  go_ret
  exact ⟨rfl, bl.out⟩
theorem line4 (a s : Int) (x : Bool) (p q n t i y z v : Int) (w : World) (hw : WfM (⟨4, a, s, x, p, q, n, t, i, y, z, v⟩ : M)) (hr : rightM (⟨4, a, s, x, p, q, n, t, i, y, z, v⟩ : M) = true) (hL : Hid (Lw w)) : Calls Tryd.prog 16 #[mvl (⟨4, a, s, x, p, q, n, t, i, y, z, v⟩ : M)] w (MadeS (lineL (⟨4, a, s, x, p, q, n, t, i, y, z, v⟩ : M)) w) := by
  have hlen := κ (line_len hw)
  obtain ⟨_, ia, is, ip, iq, iN, it, ii, iy, iz, iv⟩ := hw
  have hl : Hid (lineL (⟨4, a, s, x, p, q, n, t, i, y, z, v⟩ : M) = join [wKill] [32]) := κ (by unfold lineL; rw [if_pos hr]; rfl)
  rw [hl.out] at hlen ⊢
  have b0 := κ (β w (.cells #[.int .i64 4, .int .i64 a, .int .i64 s, .bool x, .int .i64 p, .int .i64 q, .int .i64 n, .int .i64 t, .int .i64 i, .int .i64 y, .int .i64 z, .int .i64 v] 54))
  have k0 := κ (δ w 54 #[.int .i64 4, .int .i64 a, .int .i64 s, .bool x, .int .i64 p, .int .i64 q, .int .i64 n, .int .i64 t, .int .i64 i, .int .i64 y, .int .i64 z, .int .i64 v] w.heap.size rfl)
  have L0 := lwb hL b0.out
  have hR := κ (r_yes hr)
  clear hr hl hL
  rw [mvl_mk]
  go_enter Tryd.func16, Tryd.ntmps16
  obtain ⟨j0, j1, j2, j3, j4, j5, j6, j7, j8, j9, j10, j11⟩ := c12_of k0.out
  go_wp2_with fail
  clear j0 j1 j2 j3 j4 j5 j6 j7 j8 j9 j10 j11
  generalize (w.alloc (.cells #[.int .i64 4, .int .i64 a, .int .i64 s, .bool x, .int .i64 p, .int .i64 q, .int .i64 n, .int .i64 t, .int .i64 i, .int .i64 y, .int .i64 z, .int .i64 v] 54)) = w0 at b0 k0 L0 ⊢
  refine (hR.out _).mono ?_
  rintro e w1 ⟨rfl, hb1⟩
  have b1 := κ (CrdB.below_step b0.out hb1)
  have k1 := κ (k0.out.below' hb1)
  have L1 := lwb L0 hb1
  clear hb1 b0 k0 L0 hR
  obtain ⟨j0, j1, j2, j3, j4, j5, j6, j7, j8, j9, j10, j11⟩ := c12_of k1.out
  go_wp2_with fail
  go_ret
  exact ⟨rfl, b1.out⟩
theorem line5 (a s : Int) (x : Bool) (p q n t i y z v : Int) (w : World) (hw : WfM (⟨5, a, s, x, p, q, n, t, i, y, z, v⟩ : M)) (hr : rightM (⟨5, a, s, x, p, q, n, t, i, y, z, v⟩ : M) = true) (hL : Hid (Lw w)) : Calls Tryd.prog 16 #[mvl (⟨5, a, s, x, p, q, n, t, i, y, z, v⟩ : M)] w (MadeS (lineL (⟨5, a, s, x, p, q, n, t, i, y, z, v⟩ : M)) w) := by
  have hlen := κ (line_len hw)
  obtain ⟨_, ia, is, ip, iq, iN, it, ii, iy, iz, iv⟩ := hw
  have hl : Hid (lineL (⟨5, a, s, x, p, q, n, t, i, y, z, v⟩ : M) = join [wRearm] [32]) := κ (by unfold lineL; rw [if_pos hr]; rfl)
  rw [hl.out] at hlen ⊢
  have b0 := κ (β w (.cells #[.int .i64 5, .int .i64 a, .int .i64 s, .bool x, .int .i64 p, .int .i64 q, .int .i64 n, .int .i64 t, .int .i64 i, .int .i64 y, .int .i64 z, .int .i64 v] 54))
  have k0 := κ (δ w 54 #[.int .i64 5, .int .i64 a, .int .i64 s, .bool x, .int .i64 p, .int .i64 q, .int .i64 n, .int .i64 t, .int .i64 i, .int .i64 y, .int .i64 z, .int .i64 v] w.heap.size rfl)
  have L0 := lwb hL b0.out
  have hR := κ (r_yes hr)
  clear hr hl hL
  rw [mvl_mk]
  go_enter Tryd.func16, Tryd.ntmps16
  obtain ⟨j0, j1, j2, j3, j4, j5, j6, j7, j8, j9, j10, j11⟩ := c12_of k0.out
  go_wp2_with fail
  clear j0 j1 j2 j3 j4 j5 j6 j7 j8 j9 j10 j11
  generalize (w.alloc (.cells #[.int .i64 5, .int .i64 a, .int .i64 s, .bool x, .int .i64 p, .int .i64 q, .int .i64 n, .int .i64 t, .int .i64 i, .int .i64 y, .int .i64 z, .int .i64 v] 54)) = w0 at b0 k0 L0 ⊢
  refine (hR.out _).mono ?_
  rintro e w1 ⟨rfl, hb1⟩
  have b1 := κ (CrdB.below_step b0.out hb1)
  have k1 := κ (k0.out.below' hb1)
  have L1 := lwb L0 hb1
  clear hb1 b0 k0 L0 hR
  obtain ⟨j0, j1, j2, j3, j4, j5, j6, j7, j8, j9, j10, j11⟩ := c12_of k1.out
  go_wp2_with fail
  go_ret
  exact ⟨rfl, b1.out⟩
theorem line_no (m : M) (w : World) (hr : ¬ rightM m = true) : Calls Tryd.prog 16 #[mvl m] w (MadeS (lineL m) w) := by
  have hR := κ (r_no hr)
  rw [line_wrong hr]
  clear hr
  obtain ⟨k, a, s, x, p, q, n, t, i, y, z, v⟩ := m
  have b0 := κ (β w (.cells #[.int .i64 k, .int .i64 a, .int .i64 s, .bool x, .int .i64 p, .int .i64 q, .int .i64 n, .int .i64 t, .int .i64 i, .int .i64 y, .int .i64 z, .int .i64 v] 54))
  have k0 := κ (δ w 54 #[.int .i64 k, .int .i64 a, .int .i64 s, .bool x, .int .i64 p, .int .i64 q, .int .i64 n, .int .i64 t, .int .i64 i, .int .i64 y, .int .i64 z, .int .i64 v] w.heap.size rfl)
  rw [mvl_mk] at hR ⊢
  go_enter Tryd.func16, Tryd.ntmps16
  obtain ⟨j0, j1, j2, j3, j4, j5, j6, j7, j8, j9, j10, j11⟩ := c12_of k0.out
  go_wp2_with fail
  clear j0 j1 j2 j3 j4 j5 j6 j7 j8 j9 j10 j11
  generalize (w.alloc (.cells #[.int .i64 k, .int .i64 a, .int .i64 s, .bool x, .int .i64 p, .int .i64 q, .int .i64 n, .int .i64 t, .int .i64 i, .int .i64 y, .int .i64 z, .int .i64 v] 54)) = w0 at b0 k0 ⊢
  refine (hR.out _).mono ?_
  rintro e w1 ⟨rfl, hb1⟩
  have b1 := κ (CrdB.below_step b0.out hb1)
  clear hb1 b0 k0 hR
  go_wp2_with fail
  go_ret
  exact ⟨rfl, b1.out⟩
theorem sline_any (m : M) (w : World) (hw : WfM m) (hL : Hid (Lw w)) : Calls Tryd.prog 16 #[mvl m] w (MadeS (lineL m) w) := by
  by_cases hr : rightM m = true
  · obtain ⟨h0, h6, _, _⟩ := rightM_of hr
    have hk : m.k = 0 ∨ m.k = 1 ∨ m.k = 2 ∨ m.k = 3 ∨ m.k = 4 ∨ m.k = 5 ∨ m.k = 6 := by omega
    obtain ⟨k, a, s, x, p, q, n, t, i, y, z, v⟩ := m
    rcases hk with hk | hk | hk | hk | hk | hk | hk
    all_goals
      have hk : k = _ := hk
      subst hk
    · exact line0 a s x p q n t i y z v w hw hr hL
    · exact line1 a s x p q n t i y z v w hw hr hL
    · exact line2 a s x p q n t i y z v w hw hr hL
    · exact line3 a s x p q n t i y z v w hw hr hL
    · exact line4 a s x p q n t i y z v w hw hr hL
    · exact line5 a s x p q n t i y z v w hw hr hL
    · exact line6 a s x p q n t i y z v w hw hr hL
  · exact line_no m w hr
end Slp
end Go.Proofs.YtmjkhejfhpgiiaaDoor
