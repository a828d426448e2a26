/- Texts side by side: each has its own first line. -/
import Derived.Deep.DeepCutAuto
import Derived.Test.YtkmkaidhpbjbnaaQa
import Derived.Test.YtkmkaidhpbjbnaaQb
import Derived.Test.YtkmkaidhpbjbnaaQd
import Derived.Test.YtkmkaidhpbjbnaaQe
/- Contracts of a Model's Epoch, shardOf and of has. Condition: the Model lies in memory. -/
namespace Go.Proofs.Ytkmkaidhpbjbnaa.Mdn
set_option maxRecDepth 100000
open Go.ChangeShapes Go.WideShapes Go.ChangeAt Go.RowKit Mem Tre Ref3 Law3 Fix3 Cfg Crd CrdB CrdC Rr4 Bkp Bks Bcl Dlk Stk Apt Bko Bku Bka Bkc Mdp Mdz Mds Lat
set_option linter.unusedVariables false
set_option linter.unusedSimpArgs false
def hasF (n : Nat) (i : Int) : Bool := decide (0 ≤ i) && decide (i < (n : Int))
theorem has_any (A : Option Addr) (n c : Nat) (i : Int) (w : World) (hn : n ≤ 1000000) (hi : inI i) :
    Calls Try.prog 33 #[.slice A n c, .int .i64 i] w (fun e w' => e = .returned (.bool (hasF n i)) ∧ w' = w) := by
  have l0 : wrap64 (n : Int) = (n : Int) := by unfold wrap64; omega
  have hF : hasF n i = (decide (0 ≤ i) && decide (i < (n : Int))) := rfl
  go_enter Try.func33, Try.ntmps33
  by_cases h0 : 0 ≤ i
  · have e : hasF n i = decide (i < (n : Int)) := by simp [hasF, h0]
    rw [e]
    go_wp2_with fail
    exact bodyPost_ret (v := .bool (decide (i < (n : Int)))) (by simp [results, Try.results33, go_sem, l0]) rfl ⟨rfl, rfl⟩
  · have e : hasF n i = false := by simp [hasF]; omega
    rw [e]
    go_wp2_with fail
    exact bodyPost_ret (v := .bool false) (by simp [results, Try.results33, go_sem, l0]) rfl ⟨rfl, rfl⟩
theorem epoch_nil (w : World) :
    Calls Try.prog 10 #[.pointer none] w (fun e w' => e = .returned (.tuple #[.int .i64 0, .bool false]) ∧ w' = w) := by
  go_enter Try.func10, Try.ntmps10
  go_wp2_with fail
  exact bodyPost_ret (v := .tuple #[.int .i64 0, .bool false]) (by simp [results, Try.results10, go_sem]) rfl ⟨rfl, rfl⟩
theorem shardOf_any (base g : Nat) (q : Mq) (i : Int) (w : World) (h : Hid (Mm base w g q)) (hi : inI i) (hn : 1 ≤ q.nb ∧ q.nb ≤ 1000) :
    Calls Try.prog 54 #[.pointer (some ⟨g, 0, none⟩), .int .i64 i] w (fun e w' => e = .returned (.int .i64 (i.tmod (q.nb : Int))) ∧ w' = w) := by
  obtain ⟨sh, wi, ra, ta, A, B, C, nl, al, sl, c, d, f, nd, ac, sy, Ab, nb, cb, xs, An, Au, n1, n2, d1, d2, cl, cu, ep, off⟩ := q
  have K0 : Hid (Blk w g 82 #[.int .i64 sh, .int .i64 wi, .int .i64 ra, .int .i64 ta, .slice A nl c, .slice B al d, .slice C sl f, .slice Ab nb cb, .slice An n1 d1, .slice Au n2 d2, .int .i64 ep, .bool off]) := h.out.blk
  simp only at hn
  have l0 : wrap64 (nb : Int) = (nb : Int) := by unfold wrap64; omega
  have l1 : ¬ (nb : Int) = 0 := by omega
  have l2 : ¬ nb = 0 := by omega
  have l3 : wrap64 (i.tmod (nb : Int)) = i.tmod (nb : Int) := by
    have a1 := Int.tmod_lt_of_pos i (b := (nb : Int)) (by omega)
    have a2 : -(nb : Int) < i.tmod (nb : Int) := by have := Int.lt_tmod_of_pos i (b := (nb : Int)) (by omega); omega
    unfold wrap64
    omega
  go_enter Try.func54, Try.ntmps54
  obtain ⟨k0, k1, k2, k3, k4, k5, k6, k7, k8, k9, k10, k11, f0, f1, f2, f3, f4, f5, f6, f7, f8, f9, f10, f11⟩ := q12_of K0.out
  go_wp2_with fail
  exact bodyPost_ret (v := .int .i64 (i.tmod (nb : Int))) (by simp [results, Try.results54, go_sem, k7, l0, l1, l2, l3]) rfl ⟨rfl, rfl⟩
end Go.Proofs.Ytkmkaidhpbjbnaa.Mdn

/- The contract of a Model's cancel. Condition: the Model lies in memory and is one that may be. -/
namespace Go.Proofs.Ytkmkaidhpbjbnaa.Mdk
set_option maxRecDepth 100000
open Go.ChangeShapes Go.WideShapes Go.ChangeAt Go.RowKit Mem Tre Ref3 Law3 Fix3 Cfg Crd CrdB CrdC Rr4 Bkp Bks Bkf Bcl Dlk Stk Apt Bko Bku Bka Bkc Bkq Mdp Mdz Mds Mdn Mdo Lat
open Rul1 hiding below_step
set_option linter.unusedVariables false
set_option linter.unusedSimpArgs false
def shN (p : Pm) (i : Int) : Nat := (i.tmod (p.bs.length : Int)).toNat
def canF (p : Pm) (i : Int) : Pm × (Int × Int × List (Int × Int)) :=
  if (cancelF (gB p.bs (shN p i)) i).2 ≠ 0 then (p, ((cancelF (gB p.bs (shN p i)) i).2, 0, []))
  else ({ p with bs := p.bs.set (shN p i) (cancelF (gB p.bs (shN p i)) i).1 }, (0, 0, [(1, i)]))
theorem can_no {p : Pm} {i c : Int} {s : Nat} {b : Bk} (hs : shN p i = s) (hb : gB p.bs s = b) (hc : (cancelF b i).2 = c) (h : c ≠ 0) : canF p i = (p, (c, 0, [])) := by
  unfold canF; rw [hs, hb, hc, if_pos h]
theorem can_yes {p : Pm} {i : Int} {s : Nat} {b : Bk} (hs : shN p i = s) (hb : gB p.bs s = b) (h : (cancelF b i).2 = 0) : canF p i = ({ p with bs := p.bs.set s (cancelF b i).1 }, (0, 0, [(1, i)])) := by
  unfold canF; rw [hs, hb, if_neg (by rw [h]; decide)]
theorem shN_of {p : Pm} {i : Int} {n k : Nat} (hn : n = p.bs.length) (h : i.tmod (n : Int) = (k : Int)) : shN p i = k := by unfold shN; rw [← hn, h]; rfl
theorem tmod_at (i : Int) (n : Nat) (hi : 0 ≤ i) (hn : 1 ≤ n) : ∃ k : Nat, i.tmod (n : Int) = (k : Int) ∧ k < n := by
  have a1 := Int.tmod_lt_of_pos i (b := (n : Int)) (by omega)
  have a2 : 0 ≤ i.tmod (n : Int) := Int.tmod_nonneg _ hi
  exact ⟨(i.tmod (n : Int)).toNat, by omega, by omega⟩
set_option maxHeartbeats 8000000 in
theorem mcancel_any (base g m : Nat) (q : Mq) (i : Int) (w : World) (h : Hid (Mm base w g q)) (hv : Hid (Vq m q)) (hm : m ≤ 900) (hi0 : 0 ≤ i) (hi1 : i ≤ 9223372036854775807) :
    Calls Try.prog 27 #[.pointer (some ⟨g, 0, none⟩), .int .i64 i] w (MadeDo base g q (canF (plO q) i).1 (canF (plO q) i).2.1 (canF (plO q) i).2.2.1 (canF (plO q) i).2.2.2 w) := by
  obtain ⟨sh, wi, ra, ta, A, B, C, nl, al, sl, c, d, f, nd, ac, sy, Ab, nb, cb, xs, An, Au, n1, n2, d1, d2, cl, cu, ep, off⟩ := q
  obtain ⟨v1, v2, va1, v3, v4, v5, v6, v7, v8, v9, v10⟩ := hv.out
  obtain ⟨l1, l2, l3, l4, l5, l6⟩ := (⟨h.out.l1, h.out.l2, h.out.l3, h.out.l4, h.out.l5, h.out.l6⟩ : nl = nd.length ∧ al = ac.length ∧ sl = sy.length ∧ nb = xs.length ∧ n1 = cl.length ∧ n2 = cu.length)
  have L1 := Lib.hid l1
  have L2 := Lib.hid l2
  have L3 := Lib.hid l3
  have L4 := Lib.hid l4
  have L5 := Lib.hid l5
  have L6 := Lib.hid l6
  have V4 := Lib.hid v4
  have V5 := Lib.hid v5
  have V7 := Lib.hid v7
  have V9 := Lib.hid v9
  have V10 := Lib.hid v10
  simp only at v1 v2 va1 v3 v6 v8
  obtain ⟨gb, hgb⟩ := own_at h.out.row (by show 0 < nb; simp only at v7; omega)
  simp only at hgb
  subst hgb
  have hnb : nb ≤ 1000 ∧ 1 ≤ nb := by simp only at v7; omega
  clear l1 l2 l3 l4 l5 l6 v4 v5 v7 v9 v10
  have U0 : Hid (Below w.heap.size w (w.alloc (.cells #[.int .i64 0, .int .i64 0] 43))) := (Below.refl _ _).alloc (Nat.le_refl _) _
  have Z0 : Hid (Blk (w.alloc (.cells #[.int .i64 0, .int .i64 0] 43)) w.heap.size 43 #[.int .i64 0, .int .i64 0]) := Blk.fresh _ _ _
  have M0 : Hid (Mm base (w.alloc (.cells #[.int .i64 0, .int .i64 0] 43)) g ⟨sh, wi, ra, ta, A, B, C, nl, al, sl, c, d, f, nd, ac, sy, some ⟨gb, 0, none⟩, nb, cb, xs, An, Au, n1, n2, d1, d2, cl, cu, ep, off⟩) := Mm_below h.out U0.out
  have MZ : Hid (Mz w.heap.size g ⟨sh, wi, ra, ta, A, B, C, nl, al, sl, c, d, f, nd, ac, sy, some ⟨gb, 0, none⟩, nb, cb, xs, An, Au, n1, n2, d1, d2, cl, cu, ep, off⟩) := Mz_of h.out (Nat.le_refl _)
  go_enter Try.func27, Try.ntmps27
  go_upto_region 1 with fail
  generalize hgZ : w.heap.size = gZ at Z0 MZ ⊢
  have HGZ := Lib.hid hgZ
  have HGZ' : Hid (w.heap.size ≤ gZ) := by show _ ≤ _; omega
  clear hgZ
  generalize (w.alloc (.cells #[.int .i64 0, .int .i64 0] 43)) = w0 at Z0 U0 M0 ⊢
  have K0 : Hid (Blk w0 g 82 #[.int .i64 sh, .int .i64 wi, .int .i64 ra, .int .i64 ta, .slice A nl c, .slice B al d, .slice C sl f, .slice (some ⟨gb, 0, none⟩) nb cb, .slice An n1 d1, .slice Au n2 d2, .int .i64 ep, .bool off]) := M0.out.blk
  obtain ⟨k0, k1, k2, k3, k4, k5, k6, k7, k8, k9, k10, k11, f0, f1, f2, f3, f4, f5, f6, f7, f8, f9, f10, f11⟩ := q12_of K0.out
  have HSO := shardOf_any base g ⟨sh, wi, ra, ta, A, B, C, nl, al, sl, c, d, f, nd, ac, sy, some ⟨gb, 0, none⟩, nb, cb, xs, An, Au, n1, n2, d1, d2, cl, cu, ep, off⟩ i w0 M0 ⟨by omega, hi1⟩ (by show 1 ≤ nb ∧ nb ≤ 1000; omega)
  obtain ⟨sN, hsN, hsNb⟩ := tmod_at i nb hi0 hnb.2
  simp only at HSO
  rw [hsN] at HSO
  have HSN : Hid (shN (plO ⟨sh, wi, ra, ta, A, B, C, nl, al, sl, c, d, f, nd, ac, sy, some ⟨gb, 0, none⟩, nb, cb, xs, An, Au, n1, n2, d1, d2, cl, cu, ep, off⟩) i = sN) := shN_of (n := nb) (by show nb = (xs.map Bx.b).length; rw [List.length_map]; exact L4.out) hsN
  clear hsN
  have hsx : Hid (sN < xs.length) := by show _ < _; rw [← L4.out]; exact hsNb
  have RM2 := own_room M0.out.row
  have c0 := RM2.2.2.2.2.2 (sN * 4) _ (by have := bxs_get xs sN 0 hsx.out (by decide); exact this)
  have c1 := RM2.2.2.2.2.2 (sN * 4 + 1) _ (by have := bxs_get xs sN 1 hsx.out (by decide); exact this)
  have c2 := RM2.2.2.2.2.2 (sN * 4 + 2) _ (by have := bxs_get xs sN 2 hsx.out (by decide); exact this)
  have c3 := RM2.2.2.2.2.2 (sN * 4 + 3) _ (by have := bxs_get xs sN 3 hsx.out (by decide); exact this)
  clear RM2
  have BM0 := Lib.hid (M0.out.bm sN hsx.out)
  have VB := Lib.hid (V9.out sN hsx.out)
  have HGB : Hid (gB (plO ⟨sh, wi, ra, ta, A, B, C, nl, al, sl, c, d, f, nd, ac, sy, some ⟨gb, 0, none⟩, nb, cb, xs, An, Au, n1, n2, d1, d2, cl, cu, ep, off⟩).bs sN = (gX xs sN).b) := by
    show (xs.map Bx.b).getD sN bk0 = _
    have h1 := hsx.out
    simp [gX, h1]
  obtain ⟨X, hX⟩ : ∃ X, X = gX xs sN := ⟨_, rfl⟩
  rw [← hX] at HGB
  simp only at BM0 VB
  rw [← hX] at c0 c1 c2 c3 BM0 VB
  have HX := Lib.hid hX
  clear hX
  obtain ⟨XA, XC, xc, xd, xrl, xb⟩ := X
  obtain ⟨bsh, hbsh⟩ : ∃ v, v = xb.sh := ⟨_, rfl⟩
  obtain ⟨bca, hbca⟩ : ∃ v, v = xb.ca := ⟨_, rfl⟩
  obtain ⟨nr2, hnr2⟩ : ∃ v, v = xb.rows.length := ⟨_, rfl⟩
  obtain ⟨no2, hno2⟩ : ∃ v, v = xb.op.length := ⟨_, rfl⟩
  simp only [bxV, List.getElem?_cons_zero, List.getElem?_cons_succ] at c0 c1 c2 c3
  have HSHB : Hid (bsh = xb.sh ∧ bca = xb.ca) := ⟨hbsh, hbca⟩
  have HNR2 := Lib.hid hnr2
  have HNO2 := Lib.hid hno2
  simp only at VB BM0 HGB
  have FEW := Lib.hid (VB.out.1.few (by omega))
  rw [← hbsh] at c0
  rw [← hbca] at c1
  rw [← hnr2] at c2
  rw [← hno2] at c3
  clear hbsh hbca hnr2 hno2
  have tsn : decide ((sN : Int) < (nb : Int)) = true := by simp; omega
  have CX := cancel_any bsh bca XA XC nr2 no2 xc xd xrl xb i w0 HSHB HNR2 HNO2 BM0 FEW
  obtain ⟨NB, hNB⟩ : ∃ b, b = (cancelF xb i).1 := ⟨_, rfl⟩
  obtain ⟨cc, hcc⟩ : ∃ c, c = (cancelF xb i).2 := ⟨_, rfl⟩
  obtain ⟨nsh, hnsh⟩ : ∃ v, v = NB.sh := ⟨_, rfl⟩
  obtain ⟨nca, hnca⟩ : ∃ v, v = NB.ca := ⟨_, rfl⟩
  obtain ⟨nr7, hnr7⟩ : ∃ v, v = NB.rows.length := ⟨_, rfl⟩
  obtain ⟨no7, hno7⟩ : ∃ v, v = NB.op.length := ⟨_, rfl⟩
  unfold MadeB2 at CX
  rw [← hNB, ← hcc] at CX
  have hbk : ∀ A7 C7 c7 d7, bkA A7 C7 c7 d7 NB = .agg #[.int .i64 nsh, .int .i64 nca, .slice A7 nr7 c7, .slice C7 no7 d7] := by
    intro A7 C7 c7 d7
    unfold bkA
    rw [hnsh, hnca, hnr7, hno7]
  simp only [hbk] at CX
  have HNB := Lib.hid hNB
  have HCC := Lib.hid hcc
  have HN7 : Hid (nsh = NB.sh ∧ nca = NB.ca ∧ nr7 = NB.rows.length ∧ no7 = NB.op.length) := ⟨hnsh, hnca, hnr7, hno7⟩
  clear hNB hcc hnsh hnca hnr7 hno7 hbk
  go_upto_region 2 with (refine HSO.mono ?_; rintro e w1 ⟨rfl, hw1⟩; rw [hw1]; clear hw1 w1)
  go_wp2_with fail
  refine CX.mono ?_
  rintro e w2 ⟨A7, C7, c7, d7, rl7, rfl, hm7, hf7, hb7⟩
  have HB2 : Hid (Below w0.heap.size w0 w2) := hb7
  have N2 := Lib.hid hm7
  have F7 : Hid (Fb w0.heap.size A7 C7 rl7) := hf7
  have U3 : Below w2.heap.size w2 (w2.alloc (.cells #[.int .i64 nsh, .int .i64 nca, .slice A7 nr7 c7, .slice C7 no7 d7] 58)) := (Below.refl _ _).alloc (Nat.le_refl _) _
  have V3 : Hid (Blk (w2.alloc (.cells #[.int .i64 nsh, .int .i64 nca, .slice A7 nr7 c7, .slice C7 no7 d7] 58)) w2.heap.size 58 #[.int .i64 nsh, .int .i64 nca, .slice A7 nr7 c7, .slice C7 no7 d7]) := Blk.fresh _ _ _
  have HB7 : Hid (Below w0.heap.size w0 (w2.alloc (.cells #[.int .i64 nsh, .int .i64 nca, .slice A7 nr7 c7, .slice C7 no7 d7] 58))) := CrdB.below_step hb7 U3
  have N7 : Hid (Bm (w2.alloc (.cells #[.int .i64 nsh, .int .i64 nca, .slice A7 nr7 c7, .slice C7 no7 d7] 58)) A7 C7 rl7 NB) := hm7.below U3
  have HVL : Hid (w0.heap.size ≤ w2.heap.size) := hb7.size
  clear hm7 hf7 hb7 U3 CX HSO
  go_upto_region 3 with fail
  clear k0 k1 k2 k3 k4 k5 k6 k7 k8 k9 k10 k11 f0 f1 f2 f3 f4 f5 f6 f7 f8 f9 f10 f11 c0 c1 c2 c3 K0 N2 HB2
  obtain ⟨gV, hgV⟩ : ∃ k, k = w2.heap.size := ⟨_, rfl⟩
  have V7 : Hid (Blk (w2.alloc (.cells #[.int .i64 nsh, .int .i64 nca, .slice A7 nr7 c7, .slice C7 no7 d7] 58)) gV 58 #[.int .i64 nsh, .int .i64 nca, .slice A7 nr7 c7, .slice C7 no7 d7]) := by rw [hgV]; exact V3.out
  have HVL : Hid (w0.heap.size ≤ gV) := by rw [hgV]; exact HVL.out
  simp only [← hgV]
  clear hgV V3
  generalize w2.alloc (.cells #[.int .i64 nsh, .int .i64 nca, .slice A7 nr7 c7, .slice C7 no7 d7] 58) = w3 at HB7 N7 V7 ⊢
  by_cases hcc0 : cc = 0
  case neg =>
    have t1 : (cc != 0) = true := by simp [hcc0]
    go_upto_region 4 with fail
    have HP0 : Hid (canF (plO ⟨sh, wi, ra, ta, A, B, C, nl, al, sl, c, d, f, nd, ac, sy, some ⟨gb, 0, none⟩, nb, cb, xs, An, Au, n1, n2, d1, d2, cl, cu, ep, off⟩) i = ((plO ⟨sh, wi, ra, ta, A, B, C, nl, al, sl, c, d, f, nd, ac, sy, some ⟨gb, 0, none⟩, nb, cb, xs, An, Au, n1, n2, d1, d2, cl, cu, ep, off⟩), (cc, 0, []))) := can_no HSN.out HGB.out HCC.out.symm hcc0
    go_wp2_with fail
    refine (refused_any cc _).mono ?_
    rintro e wR ⟨rfl, hbR⟩
    have HBR := Lib.hid (CrdB.below_step HB7.out hbR)
    have MR : Hid (Mm base wR g ⟨sh, wi, ra, ta, A, B, C, nl, al, sl, c, d, f, nd, ac, sy, some ⟨gb, 0, none⟩, nb, cb, xs, An, Au, n1, n2, d1, d2, cl, cu, ep, off⟩) := Mm_below M0.out HBR.out
    have ZR : Hid (Blk wR gZ 43 #[.int .i64 0, .int .i64 0]) := Blk.below' Z0.out HBR.out
    have UR : Hid (Kp w wR g (some ⟨gb, 0, none⟩)) := Kp_of_below (CrdB.below_step U0.out HBR.out)
    clear hbR
    obtain ⟨z0, z1, z2, z3⟩ := q2b ZR.out
    have zx : (wR.setCell ⟨gZ, 0, none⟩ (.int .i64 cc)).cell? ⟨gZ, 1, none⟩ = some (.int .i64 0) := (blk_st ZR.out 0 (.int .i64 cc)).cell 1
    have F3 : Blk (st2 wR gZ (.int .i64 cc) (.int .i64 0)) gZ 43 #[.int .i64 cc, .int .i64 0] := st2_blk ZR.out
    have hfin : MadeDo base g ⟨sh, wi, ra, ta, A, B, C, nl, al, sl, c, d, f, nd, ac, sy, some ⟨gb, 0, none⟩, nb, cb, xs, An, Au, n1, n2, d1, d2, cl, cu, ep, off⟩ (plO ⟨sh, wi, ra, ta, A, B, C, nl, al, sl, c, d, f, nd, ac, sy, some ⟨gb, 0, none⟩, nb, cb, xs, An, Au, n1, n2, d1, d2, cl, cu, ep, off⟩) cc 0 [] w (.returned (.tuple #[.agg #[.int .i64 cc, .int .i64 0], .slice none 0 0])) (st2 wR gZ (.int .i64 cc) (.int .i64 0)) := by
      unfold st2
      refine madeDo_no (q := ⟨sh, wi, ra, ta, A, B, C, nl, al, sl, c, d, f, nd, ac, sy, some ⟨gb, 0, none⟩, nb, cb, xs, An, Au, n1, n2, d1, d2, cl, cu, ep, off⟩) (Mm_setz (Mm_setz MR.out MZ.out ZR.out (by decide) 0 _) MZ.out (blk_st ZR.out 0 _) (by decide) 1 _) rfl rfl ?_ (fun z _ h => Mz_same h)
      exact Kp_past (Kp_past UR.out HGZ'.out 0 _) HGZ'.out 1 _
    have HF := Lib.hid hfin
    clear hfin
    go_wp2_with fail
    obtain ⟨e0, e1, _, _⟩ := q2b F3
    clear F3
    unfold st2 at e0 e1 HF
    exact bodyPost_ret (v := .tuple #[.agg #[.int .i64 cc, .int .i64 0], .slice none 0 0]) (by simp [results, Try.results27, go_sem, e0, e1]) rfl (by first | exact HF.out | (rw [HP0.out]; exact HF.out))
  case pos =>
    have t1 : (cc != 0) = false := by simp [hcc0]
    have HCY := Lib.hid (can_yes HSN.out HGB.out (by rw [← HCC.out]; exact hcc0))
    have HFB : Hid (w0.heap.size ≤ w0.heap.size) := Nat.le_refl _
    clear hcc0
    go_upto_region 5 with fail
    have HBd : Hid (Below w0.heap.size w0 w3.drew) := Below.drew HB7.out
    have Md := Lib.hid (Mm_below M0.out HBd.out)
    have V7d : Hid (Blk w3.drew gV 58 #[.int .i64 nsh, .int .i64 nca, .slice A7 nr7 c7, .slice C7 no7 d7]) := V7.out
    have LT0 := Lib.hid (Mm_lt M0.out)
    have hgb0 : Hid (gb < w0.heap.size) := LT0.out.2 ⟨gb, 0, none⟩ rfl
    have h0f : Hid (w0.heap.size ≤ w0.heap.size) := HFB.out
    have RMhh := own_room Md.out.row
    have hh0 := RMhh.2.2.2.2.2 (sN * 4) _ (by have := bxs_get xs sN 0 hsx.out (by decide); rw [← HX.out] at this; exact this)
    have hh1 := RMhh.2.2.2.2.2 (sN * 4 + 1) _ (by have := bxs_get xs sN 1 hsx.out (by decide); rw [← HX.out] at this; exact this)
    have hh2 := RMhh.2.2.2.2.2 (sN * 4 + 2) _ (by have := bxs_get xs sN 2 hsx.out (by decide); rw [← HX.out] at this; exact this)
    have hh3 := RMhh.2.2.2.2.2 (sN * 4 + 3) _ (by have := bxs_get xs sN 3 hsx.out (by decide); rw [← HX.out] at this; exact this)
    simp only [bxV, List.getElem?_cons_zero, List.getElem?_cons_succ] at hh0 hh1 hh2 hh3
    rw [← HSHB.out.1] at hh0
    rw [← HSHB.out.2] at hh1
    rw [← HNR2.out] at hh2
    rw [← HNO2.out] at hh3
    clear RMhh
    have RMf := own_room Md.out.row
    have hcb : nb ≤ cb := RMf.2.2.1
    have hf0 := (RMf.2.2.2.2.1 (sN * 4) (show sN * 4 < cb * 4 by omega)).2
    have hf1 := (RMf.2.2.2.2.1 (sN * 4 + 1) (show sN * 4 + 1 < cb * 4 by omega)).2
    have hf2 := (RMf.2.2.2.2.1 (sN * 4 + 2) (show sN * 4 + 2 < cb * 4 by omega)).2
    have hf3 := (RMf.2.2.2.2.1 (sN * 4 + 3) (show sN * 4 + 3 < cb * 4 by omega)).2
    clear RMf hcb
    have hd1 : (w3.drew.setCell ⟨gb, sN * 4, none⟩ (.int .i64 nsh)).cell? ⟨gb, sN * 4 + 1, none⟩ = some (.int .i64 bca) := ((World.cell?_setCell_other _ _ _ _ (by intro e; injection e with e1 e2; omega)).trans hh1)
    have he1 : (w3.drew.setCell ⟨gb, sN * 4, none⟩ (.int .i64 nsh)).frozen? ⟨gb, sN * 4 + 1, none⟩ = false := by rw [World.frozen?_setCell]; exact hf1
    have hd2 : ((w3.drew.setCell ⟨gb, sN * 4, none⟩ (.int .i64 nsh)).setCell ⟨gb, sN * 4 + 1, none⟩ (.int .i64 nca)).cell? ⟨gb, sN * 4 + 2, none⟩ = some (.slice XA nr2 xc) := ((World.cell?_setCell_other _ _ _ _ (by intro e; injection e with e1 e2; omega)).trans ((World.cell?_setCell_other _ _ _ _ (by intro e; injection e with e1 e2; omega)).trans hh2))
    have he2 : ((w3.drew.setCell ⟨gb, sN * 4, none⟩ (.int .i64 nsh)).setCell ⟨gb, sN * 4 + 1, none⟩ (.int .i64 nca)).frozen? ⟨gb, sN * 4 + 2, none⟩ = false := by rw [World.frozen?_setCell, World.frozen?_setCell]; exact hf2
    have hd3 : (((w3.drew.setCell ⟨gb, sN * 4, none⟩ (.int .i64 nsh)).setCell ⟨gb, sN * 4 + 1, none⟩ (.int .i64 nca)).setCell ⟨gb, sN * 4 + 2, none⟩ (.slice A7 nr7 c7)).cell? ⟨gb, sN * 4 + 3, none⟩ = some (.slice XC no2 xd) := ((World.cell?_setCell_other _ _ _ _ (by intro e; injection e with e1 e2; omega)).trans ((World.cell?_setCell_other _ _ _ _ (by intro e; injection e with e1 e2; omega)).trans ((World.cell?_setCell_other _ _ _ _ (by intro e; injection e with e1 e2; omega)).trans hh3)))
    have he3 : (((w3.drew.setCell ⟨gb, sN * 4, none⟩ (.int .i64 nsh)).setCell ⟨gb, sN * 4 + 1, none⟩ (.int .i64 nca)).setCell ⟨gb, sN * 4 + 2, none⟩ (.slice A7 nr7 c7)).frozen? ⟨gb, sN * 4 + 3, none⟩ = false := by rw [World.frozen?_setCell, World.frozen?_setCell, World.frozen?_setCell]; exact hf3
    have HT : Hid (w3.drew.cell? ⟨g, 7, none⟩ = some (.slice (some ⟨gb, 0, none⟩) nb cb) ∧ w3.drew.cell? ⟨gV, 0, none⟩ = some (.int .i64 nsh) ∧ w3.drew.cell? ⟨gV, 1, none⟩ = some (.int .i64 nca) ∧ w3.drew.cell? ⟨gV, 2, none⟩ = some (.slice A7 nr7 c7) ∧ w3.drew.cell? ⟨gV, 3, none⟩ = some (.slice C7 no7 d7)) := ⟨Md.out.blk.cell 7, V7d.out.cell 0, V7d.out.cell 1, V7d.out.cell 2, V7d.out.cell 3⟩
    have M9 : Hid (Mm base ((((w3.drew.setCell ⟨gb, sN * 4, none⟩ (.int .i64 nsh)).setCell ⟨gb, sN * 4 + 1, none⟩ (.int .i64 nca)).setCell ⟨gb, sN * 4 + 2, none⟩ (.slice A7 nr7 c7)).setCell ⟨gb, sN * 4 + 3, none⟩ (.slice C7 no7 d7)) g ⟨sh, wi, ra, ta, A, B, C, nl, al, sl, c, d, f, nd, ac, sy, some ⟨gb, 0, none⟩, nb, cb, xs.set sN ⟨A7, C7, c7, d7, rl7, NB⟩, An, Au, n1, n2, d1, d2, cl, cu, ep, off⟩) := by
      have h9 := Mm_book Md.out rfl (i := sN) hsx.out (x := ⟨A7, C7, c7, d7, rl7, NB⟩) (show Bm w3.drew A7 C7 rl7 NB from ⟨N7.out.r, N7.out.e, N7.out.n, N7.out.o⟩) (FarX_new (base := w0.heap.size) (by have := LT0.out.1; have := h0f.out; omega) (fun b hb => by have := LT0.out.2 b hb; have := h0f.out; omega) F7.out)
      simp only [← HN7.out.1, ← HN7.out.2.1, ← HN7.out.2.2.1, ← HN7.out.2.2.2] at h9
      exact h9
    have hZb : Hid (gZ ≠ gb) := fun e => blk_own_ne Z0.out M0.out.row (by decide) (by rw [e]; rfl)
    have Z9 : Hid (Blk ((((w3.drew.setCell ⟨gb, sN * 4, none⟩ (.int .i64 nsh)).setCell ⟨gb, sN * 4 + 1, none⟩ (.int .i64 nca)).setCell ⟨gb, sN * 4 + 2, none⟩ (.slice A7 nr7 c7)).setCell ⟨gb, sN * 4 + 3, none⟩ (.slice C7 no7 d7)) gZ 43 #[.int .i64 0, .int .i64 0]) := (far_st (far_st (far_st (far_st (show Blk w3.drew gZ 43 #[.int .i64 0, .int .i64 0] from Blk.below' Z0.out HBd.out) hZb.out _) hZb.out _) hZb.out _) hZb.out _)
    have KP9 : Hid (Kp w ((((w3.drew.setCell ⟨gb, sN * 4, none⟩ (.int .i64 nsh)).setCell ⟨gb, sN * 4 + 1, none⟩ (.int .i64 nca)).setCell ⟨gb, sN * 4 + 2, none⟩ (.slice A7 nr7 c7)).setCell ⟨gb, sN * 4 + 3, none⟩ (.slice C7 no7 d7)) g (some ⟨gb, 0, none⟩)) := Kp_setb (Kp_setb (Kp_setb (Kp_setb (Kp_of_below (CrdB.below_step U0.out HBd.out)) _ _) _ _) _ _) _ _
    have HMZ9 : Hid (∀ z, z < w.heap.size → Mz z g ⟨sh, wi, ra, ta, A, B, C, nl, al, sl, c, d, f, nd, ac, sy, some ⟨gb, 0, none⟩, nb, cb, xs, An, Au, n1, n2, d1, d2, cl, cu, ep, off⟩ → Mz z g ⟨sh, wi, ra, ta, A, B, C, nl, al, sl, c, d, f, nd, ac, sy, some ⟨gb, 0, none⟩, nb, cb, xs.set sN ⟨A7, C7, c7, d7, rl7, NB⟩, An, Au, n1, n2, d1, d2, cl, cu, ep, off⟩) := by
      intro z hz hmz
      have hw0 := U0.out.size
      exact Mz_book hmz (i := sN) hsx.out (x := ⟨A7, C7, c7, d7, rl7, NB⟩) (FzB_new (base := w0.heap.size) (by have := h0f.out; omega) F7.out)
    have MZ9 : Hid (Mz gZ g ⟨sh, wi, ra, ta, A, B, C, nl, al, sl, c, d, f, nd, ac, sy, some ⟨gb, 0, none⟩, nb, cb, xs.set sN ⟨A7, C7, c7, d7, rl7, NB⟩, An, Au, n1, n2, d1, d2, cl, cu, ep, off⟩) := Mz_book MZ.out (i := sN) hsx.out (x := ⟨A7, C7, c7, d7, rl7, NB⟩) (FzB_new (base := w0.heap.size) (by have := Z0.out.lt; have := h0f.out; omega) F7.out)
    go_upto_region 5 with fail
    refine wp_region_noPanic ?_
    refine wp_region_L (T := (fun w' => w'.cell? ⟨g, 7, none⟩ = some (.slice (some ⟨gb, 0, none⟩) nb cb) ∧ w'.cell? ⟨gV, 0, none⟩ = some (.int .i64 nsh) ∧ w'.cell? ⟨gV, 1, none⟩ = some (.int .i64 nca) ∧ w'.cell? ⟨gV, 2, none⟩ = some (.slice A7 nr7 c7) ∧ w'.cell? ⟨gV, 3, none⟩ = some (.slice C7 no7 d7))) (st := [7]) (by kernel_rfl) ?_
    generalize w3.drew = w8 at HBd Md V7d hh0 hh1 hh2 hh3 hf0 hf1 hf2 hf3 hd1 hd2 hd3 he1 he2 he3 HT M9 Z9 KP9  ⊢
    refine wpL_word (i := 0) (v := ?_) rfl (by kernel_rfl) (fun _ _ _ h => h) (by kernel_rfl) _ _ _ _ (by kernel_rfl) (by kernel_rfl) (Or.inl ⟨by rfl, ?_⟩) (fun _ => HT.out) ?_
    rotate_left
    · intro w' _
      go_simp
      try with_reducible rfl
    (try simp only [Act.put, List.getElem_toArray, List.getElem_cons_succ, List.getElem_cons_zero, List.setIfInBounds_toArray, List.set_cons_zero, List.set_cons_succ])
    refine wpL_word (i := 1) (v := ?_) rfl (by kernel_rfl) (fun _ _ _ h => h) (by kernel_rfl) _ _ _ _ (by kernel_rfl) (by kernel_rfl) (Or.inl ⟨by rfl, ?_⟩) (fun _ => HT.out) ?_
    rotate_left
    · intro w' _
      go_simp
      try with_reducible rfl
    (try simp only [Act.put, List.getElem_toArray, List.getElem_cons_succ, List.getElem_cons_zero, List.setIfInBounds_toArray, List.set_cons_zero, List.set_cons_succ])
    refine wpL_word (i := 2) (v := ?_) rfl (by kernel_rfl) (fun _ _ _ h => h) (by kernel_rfl) _ _ _ _ (by kernel_rfl) (by kernel_rfl) (Or.inl ⟨by rfl, ?_⟩) (fun _ => HT.out) ?_
    rotate_left
    · intro w' _
      go_simp
      try with_reducible rfl
    (try simp only [Act.put, List.getElem_toArray, List.getElem_cons_succ, List.getElem_cons_zero, List.setIfInBounds_toArray, List.set_cons_zero, List.set_cons_succ])
    refine wpL_load (i := 3) (v := ?_) rfl (by kernel_rfl) (fun _ _ _ h => h) (by kernel_rfl) (by kernel_rfl) _ _ _ _ (by kernel_rfl) (by kernel_rfl) (Or.inl ⟨by rfl, ?_⟩) (by kernel_rfl) HT.out ?_
    rotate_left
    · intro w' hS
      (try dsimp only at hS)
      obtain ⟨x1, x2, x3, x4, x5⟩ := hS
      go_simp
      try with_reducible rfl
    (try simp only [Act.put, List.getElem_toArray, List.getElem_cons_succ, List.getElem_cons_zero, List.setIfInBounds_toArray, List.set_cons_zero, List.set_cons_succ])
    refine wpL_word (i := 4) (v := ?_) rfl (by kernel_rfl) (fun _ _ _ h => h) (by kernel_rfl) _ _ _ _ (by kernel_rfl) (by kernel_rfl) (Or.inl ⟨by rfl, ?_⟩) (fun _ => HT.out) ?_
    rotate_left
    · intro w' _
      go_simp
      try with_reducible rfl
    (try simp only [Act.put, List.getElem_toArray, List.getElem_cons_succ, List.getElem_cons_zero, List.setIfInBounds_toArray, List.set_cons_zero, List.set_cons_succ])
    refine wpL_load (i := 5) (v := ?_) rfl (by kernel_rfl) (fun _ _ _ h => h) (by kernel_rfl) (by kernel_rfl) _ _ _ _ (by kernel_rfl) (by kernel_rfl) (Or.inl ⟨by rfl, ?_⟩) (by kernel_rfl) HT.out ?_
    rotate_left
    · intro w' hS
      (try dsimp only at hS)
      obtain ⟨x1, x2, x3, x4, x5⟩ := hS
      go_simp
      try with_reducible rfl
    (try simp only [Act.put, List.getElem_toArray, List.getElem_cons_succ, List.getElem_cons_zero, List.setIfInBounds_toArray, List.set_cons_zero, List.set_cons_succ])
    refine wpL_word (i := 6) (v := ?_) rfl (by kernel_rfl) (fun _ _ _ h => h) (by kernel_rfl) _ _ _ _ (by kernel_rfl) (by kernel_rfl) (Or.inl ⟨by rfl, ?_⟩) (fun _ => HT.out) ?_
    rotate_left
    · intro w' _
      go_simp
      try with_reducible rfl
    (try simp only [Act.put, List.getElem_toArray, List.getElem_cons_succ, List.getElem_cons_zero, List.setIfInBounds_toArray, List.set_cons_zero, List.set_cons_succ])
    refine wpL_late (n := 7) (by kernel_rfl) rfl (by kernel_rfl) (fun K' hK => ?_)
    go_simp
    refine hK.out _ _ ?_
    clear hK K'
    (try simp only [Act.put, List.getElem_toArray, List.getElem_cons_succ, List.getElem_cons_zero, List.setIfInBounds_toArray, List.set_cons_zero, List.set_cons_succ])
    refine wpL_done (by kernel_rfl) ?_ _
    refine NoPanic.normal ?_
    clear hh0 hh1 hh2 hh3 hf0 hf1 hf2 hf3 hd1 hd2 hd3 he1 he2 he3 HT V7d Md HBd
    go_upto_region 6 with fail
    generalize ((((w8.setCell ⟨gb, sN * 4, none⟩ (.int .i64 nsh)).setCell ⟨gb, sN * 4 + 1, none⟩ (.int .i64 nca)).setCell ⟨gb, sN * 4 + 2, none⟩ (.slice A7 nr7 c7)).setCell ⟨gb, sN * 4 + 3, none⟩ (.slice C7 no7 d7)) = w9 at M9 Z9 KP9 ⊢
    have U11 : Hid (Below w9.heap.size w9 (w9.alloc (.cells #[.int .i64 1, .int .i64 i] 76))) := (Below.refl _ _).alloc (Nat.le_refl _) _
    have Z11 : Hid (Blk (w9.alloc (.cells #[.int .i64 1, .int .i64 i] 76)) gZ 43 #[.int .i64 0, .int .i64 0]) := Blk.below' Z9.out U11.out
    have M11 : Hid (Mm base (w9.alloc (.cells #[.int .i64 1, .int .i64 i] 76)) g ⟨sh, wi, ra, ta, A, B, C, nl, al, sl, c, d, f, nd, ac, sy, some ⟨gb, 0, none⟩, nb, cb, xs.set sN ⟨A7, C7, c7, d7, rl7, NB⟩, An, Au, n1, n2, d1, d2, cl, cu, ep, off⟩) := Mm_below M9.out U11.out
    have hO : Hid (Nds (w9.alloc (.cells #[.int .i64 1, .int .i64 i] 76)) (w9.alloc (.cells #[.int .i64 1, .int .i64 i] 76)).heap.size (some ⟨w9.heap.size, 0, none⟩) [(1, i)]) := rd_new rfl
    have KP11 : Hid (Kp w (w9.alloc (.cells #[.int .i64 1, .int .i64 i] 76)) g (some ⟨gb, 0, none⟩)) := Kp_step KP9.out U11.out
    have hZO : Hid (w9.heap.size ≠ gZ) := by show _ ≠ _; have := Z9.out.lt; omega
    have F3 : Blk (st2 (w9.alloc (.cells #[.int .i64 1, .int .i64 i] 76)) gZ (.int .i64 0) (.int .i64 0)) gZ 43 #[.int .i64 0, .int .i64 0] := st2_blk Z11.out
    have HEQ : canF (plO ⟨sh, wi, ra, ta, A, B, C, nl, al, sl, c, d, f, nd, ac, sy, some ⟨gb, 0, none⟩, nb, cb, xs, An, Au, n1, n2, d1, d2, cl, cu, ep, off⟩) i = (plO ⟨sh, wi, ra, ta, A, B, C, nl, al, sl, c, d, f, nd, ac, sy, some ⟨gb, 0, none⟩, nb, cb, xs.set sN ⟨A7, C7, c7, d7, rl7, NB⟩, An, Au, n1, n2, d1, d2, cl, cu, ep, off⟩, (0, 0, [(1, i)])) := by
      rw [HCY.out]
      unfold plO
      simp only [List.map_set, ← HNB.out]
    have hfin : MadeDo base g ⟨sh, wi, ra, ta, A, B, C, nl, al, sl, c, d, f, nd, ac, sy, some ⟨gb, 0, none⟩, nb, cb, xs, An, Au, n1, n2, d1, d2, cl, cu, ep, off⟩ (plO ⟨sh, wi, ra, ta, A, B, C, nl, al, sl, c, d, f, nd, ac, sy, some ⟨gb, 0, none⟩, nb, cb, xs.set sN ⟨A7, C7, c7, d7, rl7, NB⟩, An, Au, n1, n2, d1, d2, cl, cu, ep, off⟩) 0 0 [(1, i)] w (.returned (.tuple #[.agg #[.int .i64 0, .int .i64 0], .slice (some ⟨w9.heap.size, 0, none⟩) 1 1])) (st2 (w9.alloc (.cells #[.int .i64 1, .int .i64 i] 76)) gZ (.int .i64 0) (.int .i64 0)) := by
      unfold st2
      refine ⟨⟨sh, wi, ra, ta, A, B, C, nl, al, sl, c, d, f, nd, ac, sy, some ⟨gb, 0, none⟩, nb, cb, xs.set sN ⟨A7, C7, c7, d7, rl7, NB⟩, An, Au, n1, n2, d1, d2, cl, cu, ep, off⟩, some ⟨w9.heap.size, 0, none⟩, 1, 1, rfl, rfl, ?_, ?_, Mm_setz (Mm_setz M11.out MZ9.out Z11.out (by decide) 0 _) MZ9.out (blk_st Z11.out 0 _) (by decide) 1 _, rfl, rfl, Kp_past (Kp_past KP11.out HGZ'.out 0 _) HGZ'.out 1 _, HMZ9.out⟩
      · exact Rd.keep' (Rd.keep' hO.out (Nat.lt_succ_self _) (fun a ha => by have e := Option.some.inj ha; rw [← e]; exact hZO.out) _) (Nat.lt_succ_self _) (fun a ha => by have e := Option.some.inj ha; rw [← e]; exact hZO.out) _
      · intro a ha
        have e := Option.some.inj ha
        rw [← e]
        exact KP9.out.size
    have HF := Lib.hid hfin
    have HEQ := Lib.hid HEQ
    clear hfin
    obtain ⟨z0, z1, z2, z3⟩ := q2b Z9.out
    have zx : (w9.setCell ⟨gZ, 0, none⟩ (.int .i64 0)).cell? ⟨gZ, 1, none⟩ = some (.int .i64 0) := (blk_st Z9.out 0 (.int .i64 0)).cell 1
    obtain ⟨s0, s1, s2, s3⟩ := q2b Z11.out
    go_wp2_with fail
    obtain ⟨e0, e1, _, _⟩ := q2b F3
    clear F3
    unfold st2 at e0 e1 HF
    exact bodyPost_ret (v := .tuple #[.agg #[.int .i64 0, .int .i64 0], .slice (some ⟨w9.heap.size, 0, none⟩) 1 1]) (by simp [results, Try.results27, go_sem, e0, e1]) rfl (by first | exact HF.out | (rw [HEQ.out]; exact HF.out))
end Go.Proofs.Ytkmkaidhpbjbnaa.Mdk

/- The contracts of credit.Begin, Release and Limit, with where the State that they make lies: in memory of the call's own. Condition: the State is one that may be. -/
namespace Go.Proofs.Ytkmkaidhpbjbnaa.Cfr
set_option maxRecDepth 100000
open Go.ChangeShapes Go.WideShapes Go.ChangeAt Go.RowKit Mem Tre Ref3 Law3 Fix3 Crd CrdB CrdC Cpl Own Res Rel Lim
set_option linter.unusedVariables false

def MadeRelF (l : List (Int × Int)) (u : List Int) (b : Bool) (w : World) (e : Ending) (w' : World) : Prop :=
  ∃ A c A' c', e = .returned (.tuple #[.agg #[.slice A l.length c, .slice A' u.length c'], .bool b]) ∧ Nds w' w'.heap.size A l ∧ Ris w' w'.heap.size A' u ∧ Below w.heap.size w w' ∧ (∀ a, A = some a → w.heap.size ≤ a.block) ∧ (∀ a, A' = some a → w.heap.size ≤ a.block)
theorem madeRelF_mk {l : List (Int × Int)} {u u' : List Int} {b b' : Bool} {A A' : Option Addr} {c c' : Nat} {w w' : World} (fa : ∀ a, A = some a → w.heap.size ≤ a.block) (fb : ∀ a, A' = some a → w.heap.size ≤ a.block) (hu : u = u') (hp : b = b') (h1 : Nds w' w'.heap.size A l) (h2 : Ris w' w'.heap.size A' u') (hb : Below w.heap.size w w') :
    MadeRelF l u b w (.returned (.tuple #[.agg #[.slice A l.length c, .slice A' u'.length c'], .bool b'])) w' := by
  subst hu; subst hp; exact ⟨A, c, A', c', rfl, h1, h2, hb, fa, fb⟩
def MadeLimF (l : List (Int × Int)) (u : List Int) (b : Int) (w : World) (e : Ending) (w' : World) : Prop :=
  ∃ A c A' c', e = .returned (.tuple #[.agg #[.slice A l.length c, .slice A' u.length c'], .int .i64 b]) ∧ Nds w' w'.heap.size A l ∧ Ris w' w'.heap.size A' u ∧ Below w.heap.size w w' ∧ (∀ a, A = some a → w.heap.size ≤ a.block) ∧ (∀ a, A' = some a → w.heap.size ≤ a.block)
theorem madeLimF_mk {l l' : List (Int × Int)} {u : List Int} {b b' : Int} {A A' : Option Addr} {c c' : Nat} {w w' : World} (fa : ∀ a, A = some a → w.heap.size ≤ a.block) (fb : ∀ a, A' = some a → w.heap.size ≤ a.block) (hu : l = l') (hp : b = b') (h1 : Nds w' w'.heap.size A l') (h2 : Ris w' w'.heap.size A' u) (hb : Below w.heap.size w w') :
    MadeLimF l u b w (.returned (.tuple #[.agg #[.slice A l'.length c, .slice A' u.length c'], .int .i64 b'])) w' := by
  subst hu; subst hp; exact ⟨A, c, A', c', rfl, h1, h2, hb, fa, fb⟩
def MadeStF (l : List (Int × Int)) (u : List Int) (w : World) (e : Ending) (w' : World) : Prop :=
  ∃ A c A' c', e = .returned (.agg #[.slice A l.length c, .slice A' u.length c']) ∧ Nds w' w'.heap.size A l ∧ Ris w' w'.heap.size A' u ∧ Below w.heap.size w w' ∧ (∀ a, A = some a → w.heap.size ≤ a.block) ∧ (∀ a, A' = some a → w.heap.size ≤ a.block)
theorem madeStF_mk {l : List (Int × Int)} {u : List Int} {A A' : Option Addr} {n n' c c' : Nat} {w w' : World} (fa : ∀ a, A = some a → w.heap.size ≤ a.block) (fb : ∀ a, A' = some a → w.heap.size ≤ a.block) (hn : n = l.length) (hn' : n' = u.length) (h1 : Nds w' w'.heap.size A l) (h2 : Ris w' w'.heap.size A' u) (hb : Below w.heap.size w w') :
    MadeStF l u w (.returned (.agg #[.slice A n c, .slice A' n' c'])) w' := by
  subst hn; subst hn'; exact ⟨A, c, A', c', rfl, h1, h2, hb, fa, fb⟩

set_option maxHeartbeats 1000000 in
theorem release_fresh (A A' : Option Addr) (c c' : Nat) (l : List (Int × Int)) (u : List Int) (n x : Int) (w : World) (hl : Hid (Nds w w.heap.size A l)) (hu : Hid (Ris w w.heap.size A' u)) (hg : GoodSt l u) (hn : inI n) (hx0 : -9223372036854775808 ≤ x) (hx1 : x ≤ 9223372036854775807) :
    Calls Try.prog 83 #[.agg #[.slice A l.length c, .slice A' u.length c'], .int .i64 n, .int .i64 x] w (MadeRelF l (relU l u n x) (relF l u n x) w) := by
  have hr := Lib.hid hg.right
  have hw := Lib.hid hg.wf
  have hwu := Lib.hid hg.wfi
  have g1 := hg.few
  have g2 : (l.length : Int) ≤ 32 := by omega
  have g3 : (u.length : Int) ≤ 32 := by rw [hg.len]; omega
  have HG := Lib.hid hg
  obtain ⟨P, hP⟩ : ∃ P, P = pathF l 3 n := ⟨_, rfl⟩
  have HP := Lib.hid hP
  have p1 : P.length ≤ 3 := by rw [hP]; exact path_le3 _ _ _
  clear hP hg
  go_enter Try.func83, Try.ntmps83
  go_wp2_with fail
  refine (start_own A A' c c' l u w hl hu g2 g3).mono ?_
  rintro e w1 ⟨A1, c1, A2, c2, rfl, hpre⟩
  have f0 : w1.cell? ⟨w.heap.size, 0, none⟩ = some (.slice A l.length c) := hpre.k3.cell 0
  have f1 : w1.cell? ⟨w.heap.size, 1, none⟩ = some (.slice A' u.length c') := hpre.k3.cell 1
  have z0 : w1.frozen? ⟨w.heap.size, 0, none⟩ = false := hpre.k3.thaw 0
  have z1 : w1.frozen? ⟨w.heap.size, 1, none⟩ = false := hpre.k3.thaw 1
  have how := Lib.hid hpre.store
  have FA : Hid (∀ a, A1 = some a → w.heap.size ≤ a.block) := fun a h => by have := Rsf.own_fresh hpre.o1 a h; omega
  have FB : Hid (∀ a, A2 = some a → w.heap.size ≤ a.block) := fun a h => by have := Rsf.own_fresh hpre.o2 a h; omega
  clear hpre hl hu
  go_wp2_with fail
  generalize (w1.setCell ⟨w.heap.size, 0, none⟩ (.slice A1 l.length c1)).setCell ⟨w.heap.size, 1, none⟩ (.slice A2 u.length c2) = W2 at how ⊢
  clear f0 f1 z0 z1
  refine (pathOf_any A1 A2 c1 c2 l u n W2 (Rd.of_own how.out.o1) (Rd.of_own how.out.o2) hw hwu (by omega) (by omega) hn hr.out).mono ?_
  rintro e W3 ⟨A3, c3, rfl, hr3, hf3, hb3⟩
  have HF3 := Lib.hid hf3
  have hob : Hid (W2.ownsRow (w.heap.size + 2) 2 1 (.slice A2 u.length c2) u.length (ints u)) := how.out.o2
  have hsz2 : w.heap.size + 2 ≤ W2.heap.size := how.out.k6.lt
  rw [← HP.out] at hr3 ⊢
  have HR := Lib.hid hr3
  have how3 := Lib.hid (how.out.below hb3)
  clear how hr3 hb3 hf3
  have f0 : W3.cell? ⟨w.heap.size, 0, none⟩ = some (.slice A1 l.length c1) := how3.out.k3.cell 0
  have f1 : W3.cell? ⟨w.heap.size, 1, none⟩ = some (.slice A2 u.length c2) := how3.out.k3.cell 1
  have r0 : W3.cell? ⟨w.heap.size + 1, 0, none⟩ = some (.slice none 0 0) := how3.out.k6.cell 0
  have r1 : W3.cell? ⟨w.heap.size + 1, 1, none⟩ = some (.slice none 0 0) := how3.out.k6.cell 1
  have y0 : W3.frozen? ⟨w.heap.size + 1, 0, none⟩ = false := how3.out.k6.thaw 0
  have y1 : W3.frozen? ⟨w.heap.size + 1, 1, none⟩ = false := how3.out.k6.thaw 1
  have fin := fun (hu' : relU l u n x = u) (hb' : relF l u n x = false) => (fin_st how3.out.o1 how3.out.o2 how3.out.k6 (by omega) (by omega) how3.out.bl (.slice A1 l.length c1) (.slice A2 u.length c2))
  obtain ⟨t1, t2, t3, t4, t5⟩ := fin_st how3.out.o1 how3.out.o2 how3.out.k6 (by omega) (by omega) how3.out.bl (.slice A1 l.length c1) (.slice A2 u.length c2)
  have T1 := Lib.hid t1
  have T2 := Lib.hid t2
  clear fin t1 t2
  by_cases hp0 : P.length = 0
  · have q0 : ((P.length : Int) == 0) = true := beq_iff_eq.2 (by omega)
    have hres : Hid (relF l u n x = false) := relF_0 (by rw [← HP.out]; exact hp0)
    have hresu : Hid (relU l u n x = u) := by show _ = _; rw [relU, hres.out]; rfl
    clear hp0
    go_wp2_with fail
    exact bodyPost_ret (v := .tuple #[.agg #[.slice A1 l.length c1, .slice A2 u.length c2], .bool false]) (by simp [results, Try.results83, go_sem, t4, t5]) rfl (madeRelF_mk FA.out FB.out hresu.out hres.out T1.out T2.out t3)
  have q0 : ((P.length : Int) == 0) = false := beq_eq_false_iff_ne.2 (by omega)
  by_cases hx : x < 0
  · have hres : Hid (relF l u n x = false) := relF_m hx
    have hresu : Hid (relU l u n x = u) := by show _ = _; rw [relU, hres.out]; rfl
    clear hp0
    go_wp2_with fail
    exact bodyPost_ret (v := .tuple #[.agg #[.slice A1 l.length c1, .slice A2 u.length c2], .bool false]) (by simp [results, Try.results83, go_sem, t4, t5]) rfl (madeRelF_mk FA.out FB.out hresu.out hres.out T1.out T2.out t3)
  have hxf : decide (x < 0) = false := by simp; omega
  have happ : Hid (Apart u.length P) := by rw [HP.out]; exact apart_path HG.out.okt HG.out.len n
  have hp1 : 0 < P.length := by omega
  clear hp0
  go_wp2_with fail
  have ho2b := fun k hk => (World.ownsRow.lt hob.out k hk).2
  obtain ⟨g2, rfl, hg2a, hg2b, _, hc2, hs2⟩ := own_at how3.out.o2 (by rw [HG.out.len]; have := HG.out.one; omega)
  obtain ⟨h1, rfl, hg1a, hg1b, _, hc1, hs1⟩ := own_at2 how3.out.o1 (by have := HG.out.one; omega)
  have hg2w : g2 < W2.heap.size := ho2b g2 rfl
  have HC2 := Lib.hid hc2
  clear ho2b hc1 hc2 hs1 hs2
  go_loopg [28] P.length (fun g s28 w' => ∃ k : Nat, k + g = P.length ∧ s28 = .int .i64 k ∧ Hid (∀ i, i < k → x ≤ gI u (gI P i).toNat) ∧ W3 = w')
  case atStart => exact ⟨0, by omega, rfl, fun i hi => absurd hi (Nat.not_lt_zero i), rfl⟩
  case round =>
    obtain ⟨k, hk, rfl, hall, rfl⟩ := hrel
    by_cases hlt : (k : Int) < (P.length : Int)
    · obtain ⟨g, rfl⟩ : ∃ g, gk = g + 1 := ⟨gk - 1, by omega⟩
      have hm := happ.out.1 k (by omega)
      obtain ⟨m, hmm⟩ : ∃ m, m = gI P k := ⟨_, rfl⟩
      have HM := Lib.hid hmm
      rw [← hmm] at hm
      obtain ⟨hm0, hm1⟩ := hm
      obtain ⟨b, o, rfl, hb, hcc⟩ := Ris.at (i := k) HR.out (by omega)
      have d0 := hcc k (by omega)
      rw [← hmm] at d0
      have d1 := (HC2.out m.toNat (by omega)).1
      have hu1 := HG.out.uok m.toNat (by omega)
      obtain ⟨hu1a, hu1b⟩ := hu1
      clear hcc hmm
      by_cases hfit : gI u m.toNat < x
      · have hres : Hid (relF l u n x = false) := relF_no (i := k) (by rw [← HP.out]; omega) (by rw [← HP.out, ← HM.out]; exact hfit)
        have hresu : Hid (relU l u n x = u) := by show _ = _; rw [relU, hres.out]; rfl
        go_wp2_with fail
        exact bodyPost_ret (v := .tuple #[.agg #[.slice (some ⟨h1, 0, none⟩) l.length c1, .slice (some ⟨g2, 0, none⟩) u.length c2], .bool false]) (by simp [results, Try.results83, go_sem, t4, t5]) rfl (madeRelF_mk FA.out FB.out hresu.out hres.out T1.out T2.out t3)
      · have hall' : Hid (∀ i, i < k + 1 → x ≤ gI u (gI P i).toNat) := fun i hi => by
          by_cases e : i = k
          · subst e; rw [← HM.out]; omega
          · exact hall.out i (by omega)
        go_wp2_with fail
        go_roundg g
        case measure => omega
        case rel => exact ⟨k + 1, by omega, by go_num, hall', rfl⟩
    · have hc0 : Hid (relF l u n x = true) := relF_t (by rw [← HP.out]; exact hp1) (by omega) (fun i hi => by rw [← HP.out] at hi ⊢; exact hall.out i (by omega))
      have hcu : Hid (relU l u n x = addF u P (-x)) := by
        show _ = _
        rw [relU, hc0.out, if_pos rfl, ← HP.out]
      have hokx : Hid (∀ i, i < P.length → x ≤ gI u (gI P i).toNat) := fun i hi => hall.out i (by omega)
      clear f0 f1 r0 r1 y0 y1 T1 T2 t3 t4 t5
      go_wp2_with fail
      go_loopg [43] P.length (fun g s67 w' => ∃ k : Nat, k + g = P.length ∧ s67 = .int .i64 k ∧ Hid (Owned w w' (some ⟨h1, 0, none⟩) (some ⟨g2, 0, none⟩) c1 c2 l (addF u (P.take k) (-x))) ∧ Hid (Ris w' w'.heap.size A3 P))
      case atStart => exact ⟨0, by omega, rfl, by rw [List.take_zero, addF_nil]; exact how3, HR⟩
      case round =>
        obtain ⟨k, hk, rfl, how, HR⟩ := hrel
        have f0 : wr.cell? ⟨w.heap.size, 0, none⟩ = some (.slice (some ⟨h1, 0, none⟩) l.length c1) := how.out.k3.cell 0
        have f1 : wr.cell? ⟨w.heap.size, 1, none⟩ = some (.slice (some ⟨g2, 0, none⟩) u.length c2) := by
          have := how.out.k3.cell 1
          rw [addF_len] at this
          exact this
        by_cases hlt : (k : Int) < (P.length : Int)
        · obtain ⟨g, rfl⟩ : ∃ g, gk = g + 1 := ⟨gk - 1, by omega⟩
          have hm := happ.out.1 k (by omega)
          have hox := hokx.out k (by omega)
          have hat := addF_at (x := -x) happ.out (show k < P.length by omega)
          have hstep := addF_step (x := -x) happ.out (show k < P.length by omega)
          obtain ⟨m, hmm⟩ : ∃ m, m = gI P k := ⟨_, rfl⟩
          rw [← hmm] at hm hox hat hstep
          obtain ⟨hm0, hm1⟩ := hm
          obtain ⟨b, o, rfl, hb, hcc⟩ := Ris.at (i := k) HR.out (by omega)
          have d0 := hcc k (by omega)
          rw [← hmm] at d0
          have hml : m.toNat < l.length := by rw [← HG.out.len]; omega
          have hml' : m < u.length := by omega
          obtain ⟨g2', hg2', hg2c, hg2d, _, hc2, hs2⟩ := own_at how.out.o2 (by rw [addF_len]; omega)
          obtain rfl : g2 = g2' := by injection hg2' with e; injection e
          have hcm := hc2 m.toNat (by rw [addF_len]; omega)
          rw [hat] at hcm
          obtain ⟨d1, d2⟩ := hcm
          have hsm := hs2 m.toNat (gI u m.toNat - x) (by rw [addF_len]; omega)
          rw [Int.sub_eq_add_neg, hstep] at hsm
          have hu1 := HG.out.uok m.toNat (by omega)
          have hl1 := HG.out.okt m.toNat hml
          obtain ⟨hu1a, hu1b⟩ := hu1
          obtain ⟨_, _, hl1a, hl1b, _⟩ := hl1
          have how' : Hid (Owned w (wr.setCell ⟨g2, m.toNat, none⟩ (.int .i64 (gI u m.toNat - x))) (some ⟨h1, 0, none⟩) (some ⟨g2, 0, none⟩) c1 c2 l (addF u (P.take (k + 1)) (-x))) := by
            refine ⟨own_other how.out.o1 how.out.o2 (by decide) _ _, ?_, ?_, blk_far how.out.k6 (by simp; omega) _, how.out.bl.setCell (by simp; omega) _⟩
            · rw [addF_len] at hsm ⊢
              exact hsm
            · have := blk_far how.out.k3 (p := ⟨g2, m.toNat, none⟩) (by simp; omega) (.int .i64 (gI u m.toNat - x))
              rw [addF_len] at this ⊢
              exact this
          have HR' : Hid (Ris (wr.setCell ⟨g2, m.toNat, none⟩ (.int .i64 (gI u m.toNat - x))) (wr.setCell ⟨g2, m.toNat, none⟩ (.int .i64 (gI u m.toNat - x))).heap.size (some ⟨b, o, none⟩) P) := by
            refine HR.out.keep' (g := g2) (by omega) ?_ _
            intro a ha
            have := HF3.out a ha
            omega
          clear hcc hmm hat hstep hc2 hs2 hsm
          go_wp2_with fail
          go_roundg g
          case measure => omega
          case rel => exact ⟨k + 1, by omega, by go_num, how', HR'⟩
        · have hfin : Hid (Owned w wr (some ⟨h1, 0, none⟩) (some ⟨g2, 0, none⟩) c1 c2 l (addF u P (-x))) := by
            have : k = P.length := by omega
            subst this
            rw [addF_full] at how
            exact how
          have hlen : Hid ((addF u P (-x)).length = u.length) := addF_len _ _ _
          obtain ⟨t1, t2, t3, t4, t5⟩ := fin_st hfin.out.o1 hfin.out.o2 hfin.out.k6 (by omega) (by omega) hfin.out.bl (.slice (some ⟨h1, 0, none⟩) l.length c1) (.slice (some ⟨g2, 0, none⟩) u.length c2)
          have T1 := Lib.hid t1
          have T2 := Lib.hid t2
          have r0 : wr.cell? ⟨w.heap.size + 1, 0, none⟩ = some (.slice none 0 0) := hfin.out.k6.cell 0
          have r1 : wr.cell? ⟨w.heap.size + 1, 1, none⟩ = some (.slice none 0 0) := hfin.out.k6.cell 1
          have y0 : wr.frozen? ⟨w.heap.size + 1, 0, none⟩ = false := hfin.out.k6.thaw 0
          have y1 : wr.frozen? ⟨w.heap.size + 1, 1, none⟩ = false := hfin.out.k6.thaw 1
          have hend := Lib.hid (madeRelF_mk (c := c1) (c' := c2) FA.out FB.out hcu.out hc0.out T1.out T2.out t3)
          rw [hlen.out] at hend
          clear t1 t2
          go_wp2_with fail
          exact bodyPost_ret (v := .tuple #[.agg #[.slice (some ⟨h1, 0, none⟩) l.length c1, .slice (some ⟨g2, 0, none⟩) u.length c2], .bool true]) (by simp [results, Try.results83, go_sem, t4, t5]) rfl hend.out
set_option maxHeartbeats 1000000 in
theorem limit_fresh (A A' : Option Addr) (c c' : Nat) (l : List (Int × Int)) (u : List Int) (n x : Int) (w : World) (hl : Hid (Nds w w.heap.size A l)) (hu : Hid (Ris w w.heap.size A' u)) (hg : GoodSt l u) (hn : inI n) (hx0 : -9223372036854775808 ≤ x) (hx1 : x ≤ 9223372036854775807) :
    Calls Try.prog 60 #[.agg #[.slice A l.length c, .slice A' u.length c'], .int .i64 n, .int .i64 x] w (MadeLimF (limL l n x) u (limF l n x) w) := by
  have hr := Lib.hid hg.right
  have hw := Lib.hid hg.wf
  have hwu := Lib.hid hg.wfi
  have g1 := hg.few
  have g2 : (l.length : Int) ≤ 32 := by omega
  have g3 : (u.length : Int) ≤ 32 := by rw [hg.len]; omega
  have HG := Lib.hid hg
  obtain ⟨P, hP⟩ : ∃ P, P = pathF l 3 n := ⟨_, rfl⟩
  have HP := Lib.hid hP
  have p1 : P.length ≤ 3 := by rw [hP]; exact path_le3 _ _ _
  clear hP hg
  go_enter Try.func60, Try.ntmps60
  go_wp2_with fail
  refine (start_own A A' c c' l u w hl hu g2 g3).mono ?_
  rintro e w1 ⟨A1, c1, A2, c2, rfl, hpre⟩
  have f0 : w1.cell? ⟨w.heap.size, 0, none⟩ = some (.slice A l.length c) := hpre.k3.cell 0
  have f1 : w1.cell? ⟨w.heap.size, 1, none⟩ = some (.slice A' u.length c') := hpre.k3.cell 1
  have z0 : w1.frozen? ⟨w.heap.size, 0, none⟩ = false := hpre.k3.thaw 0
  have z1 : w1.frozen? ⟨w.heap.size, 1, none⟩ = false := hpre.k3.thaw 1
  have how := Lib.hid hpre.store
  have FA : Hid (∀ a, A1 = some a → w.heap.size ≤ a.block) := fun a h => by have := Rsf.own_fresh hpre.o1 a h; omega
  have FB : Hid (∀ a, A2 = some a → w.heap.size ≤ a.block) := fun a h => by have := Rsf.own_fresh hpre.o2 a h; omega
  clear hpre hl hu
  go_wp2_with fail
  generalize (w1.setCell ⟨w.heap.size, 0, none⟩ (.slice A1 l.length c1)).setCell ⟨w.heap.size, 1, none⟩ (.slice A2 u.length c2) = W2 at how ⊢
  clear f0 f1 z0 z1
  refine (pathOf_any A1 A2 c1 c2 l u n W2 (Rd.of_own how.out.o1) (Rd.of_own how.out.o2) hw hwu (by omega) (by omega) hn hr.out).mono ?_
  rintro e W3 ⟨A3, c3, rfl, hr3, hf3, hb3⟩
  have HF3 := Lib.hid hf3
  have hob : Hid (W2.ownsRow (w.heap.size + 2) 2 1 (.slice A2 u.length c2) u.length (ints u)) := how.out.o2
  have hsz2 : w.heap.size + 2 ≤ W2.heap.size := how.out.k6.lt
  rw [← HP.out] at hr3 ⊢
  have HR := Lib.hid hr3
  have how3 := Lib.hid (how.out.below hb3)
  clear how hr3 hb3 hf3
  have f0 : W3.cell? ⟨w.heap.size, 0, none⟩ = some (.slice A1 l.length c1) := how3.out.k3.cell 0
  have f1 : W3.cell? ⟨w.heap.size, 1, none⟩ = some (.slice A2 u.length c2) := how3.out.k3.cell 1
  have r0 : W3.cell? ⟨w.heap.size + 1, 0, none⟩ = some (.slice none 0 0) := how3.out.k6.cell 0
  have r1 : W3.cell? ⟨w.heap.size + 1, 1, none⟩ = some (.slice none 0 0) := how3.out.k6.cell 1
  have y0 : W3.frozen? ⟨w.heap.size + 1, 0, none⟩ = false := how3.out.k6.thaw 0
  have y1 : W3.frozen? ⟨w.heap.size + 1, 1, none⟩ = false := how3.out.k6.thaw 1
  by_cases hp0 : P.length = 0
  · have q0 : ((P.length : Int) == 0) = true := beq_iff_eq.2 (by omega)
    have hout : inR l.length n = false := (path_none n).1 (by rw [← HP.out]; exact hp0)
    have hres : Hid (limF l n x = 18) := by show _ = _; rw [limF, hout]; rfl
    have hresu : Hid (limL l n x = l) := by show _ = _; rw [limL, hres.out]; rfl
    obtain ⟨t1, t2, t3, t4, t5⟩ := fin_st how3.out.o1 how3.out.o2 how3.out.k6 (by omega) (by omega) how3.out.bl (.slice A1 l.length c1) (.slice A2 u.length c2)
    have T1 := Lib.hid t1
    have T2 := Lib.hid t2
    clear t1 t2 hp0 hout
    go_wp2_with fail
    exact bodyPost_ret (v := .tuple #[.agg #[.slice A1 l.length c1, .slice A2 u.length c2], .int .i64 18]) (by simp [results, Try.results60, go_sem, t4, t5]) rfl (madeLimF_mk FA.out FB.out hresu.out hres.out T1.out T2.out t3)
  have q0 : ((P.length : Int) == 0) = false := beq_eq_false_iff_ne.2 (by omega)
  have hin : Hid (inR l.length n = true) := by
    show _ = _
    cases hh : inR l.length n with
    | true => rfl
    | false => exact absurd (by rw [HP.out]; exact (path_none n).2 hh) hp0
  obtain ⟨hn0, hn1⟩ := inR_of hin.out
  clear hp0
  by_cases hx : x < 0 ∨ 4611686018427387904 < x
  · have hres : Hid (limF l n x = 1) := by show _ = _; rw [limF, if_pos hin.out, if_pos hx]
    have hresu : Hid (limL l n x = l) := by show _ = _; rw [limL, hres.out]; rfl
    obtain ⟨t1, t2, t3, t4, t5⟩ := fin_st how3.out.o1 how3.out.o2 how3.out.k6 (by omega) (by omega) how3.out.bl (.slice A1 l.length c1) (.slice A2 u.length c2)
    have T1 := Lib.hid t1
    have T2 := Lib.hid t2
    clear t1 t2
    by_cases hx0 : x < 0
    · clear hx
      go_wp2_with fail
      exact bodyPost_ret (v := .tuple #[.agg #[.slice A1 l.length c1, .slice A2 u.length c2], .int .i64 1]) (by simp [results, Try.results60, go_sem, t4, t5]) rfl (madeLimF_mk FA.out FB.out hresu.out hres.out T1.out T2.out t3)
    · have hx2 : 4611686018427387904 < x := by omega
      clear hx
      go_wp2_with fail
      exact bodyPost_ret (v := .tuple #[.agg #[.slice A1 l.length c1, .slice A2 u.length c2], .int .i64 1]) (by simp [results, Try.results60, go_sem, t4, t5]) rfl (madeLimF_mk FA.out FB.out hresu.out hres.out T1.out T2.out t3)
  have hres : Hid (limF l n x = 0) := by show _ = _; rw [limF, if_pos hin.out, if_neg hx]
  have hresu : Hid (limL l n x = l.set n.toNat (nP l n.toNat, x)) := by show _ = _; rw [limL, hres.out]; rfl
  have hx0 : 0 ≤ x := by omega
  have hx2 : x ≤ 4611686018427387904 := by omega
  have hnl : n.toNat < l.length := by omega
  clear hx
  obtain ⟨g1', rfl, hg1a, hg1b, _, hc1, hs1⟩ := own_at2 how3.out.o1 (by have := HG.out.one; omega)
  obtain ⟨d1, d2, d3⟩ := hc1 n.toNat hnl
  have hsm := hs1 n.toNat x hnl
  have o1' : (W3.setCell ⟨g1', n.toNat * 2 + 1, none⟩ (.int .i64 x)).ownsRow (w.heap.size + 2) 99 2 (.slice (some ⟨g1', 0, none⟩) (l.set n.toNat (nP l n.toNat, x)).length c1) (l.set n.toNat (nP l n.toNat, x)).length (nds (l.set n.toNat (nP l n.toNat, x))) := by
    rw [List.length_set]; exact hsm
  have o2' := own_other how3.out.o2 how3.out.o1 (by decide) (n.toNat * 2 + 1) (.int .i64 x)
  have k6' := blk_far how3.out.k6 (p := ⟨g1', n.toNat * 2 + 1, none⟩) (by simp; omega) (.int .i64 x)
  have k3' := blk_far how3.out.k3 (p := ⟨g1', n.toNat * 2 + 1, none⟩) (by simp; omega) (.int .i64 x)
  have bl' := how3.out.bl.setCell (p := ⟨g1', n.toNat * 2 + 1, none⟩) (by simp; omega) (.int .i64 x)
  obtain ⟨t1, t2, t3, t4, t5⟩ := fin_st o1' o2' k6' (by omega) (by omega) bl' (.slice (some ⟨g1', 0, none⟩) l.length c1) (.slice A2 u.length c2)
  have v0 : (W3.setCell ⟨g1', n.toNat * 2 + 1, none⟩ (.int .i64 x)).cell? ⟨w.heap.size, 0, none⟩ = some (.slice (some ⟨g1', 0, none⟩) l.length c1) := k3'.cell 0
  have v1 : (W3.setCell ⟨g1', n.toNat * 2 + 1, none⟩ (.int .i64 x)).cell? ⟨w.heap.size, 1, none⟩ = some (.slice A2 u.length c2) := k3'.cell 1
  have s0 : (W3.setCell ⟨g1', n.toNat * 2 + 1, none⟩ (.int .i64 x)).cell? ⟨w.heap.size + 1, 0, none⟩ = some (.slice none 0 0) := k6'.cell 0
  have s1 : (W3.setCell ⟨g1', n.toNat * 2 + 1, none⟩ (.int .i64 x)).cell? ⟨w.heap.size + 1, 1, none⟩ = some (.slice none 0 0) := k6'.cell 1
  have T1 := Lib.hid t1
  have T2 := Lib.hid t2
  have hend := Lib.hid (madeLimF_mk (c := c1) (c' := c2) FA.out FB.out hresu.out hres.out T1.out T2.out t3)
  rw [List.length_set] at hend
  clear t1 t2 o1' o2' k6' k3' hsm hc1 hs1
  go_wp2_with fail
  exact bodyPost_ret (v := .tuple #[.agg #[.slice (some ⟨g1', 0, none⟩) l.length c1, .slice A2 u.length c2], .int .i64 0]) (by simp [results, Try.results60, go_sem, t4, t5]) rfl hend.out
set_option maxHeartbeats 1000000 in
theorem begin_fresh (A : Option Addr) (c : Nat) (l : List (Int × Int)) (w : World) (hl : Hid (Nds w w.heap.size A l)) (hmax : (l.length : Int) ≤ 1000000) :
    Calls Try.prog 18 #[.slice A l.length c] w (MadeStF l (zeros l.length) w) := by
  obtain ⟨i0, hi, hz0, hz1, hz2⟩ := info_parts i64_info
  have hmk := fun (W : World) => run_make (P := Try.prog) W 60 2 i0 (.int .i64 0) Try.underlying60 hi hz0 .i64 .i64 (l.length : Int) (l.length : Int) (by omega) (by omega) (by rw [hz2]; omega) (by omega)
  simp only [Int.toNat_natCast, hz1, Nat.mul_one] at hmk
  have H1 : Hid (∀ W, Below w.heap.size w W → Nds W W.heap.size A l) := fun W hb => Rd.below' hl.out hb hb.size
  have b0 : Below w.heap.size w (w.alloc (.cells #[.slice none 0 0, .slice none 0 0] 62)).drew := ((Below.refl _ _).alloc (Nat.le_refl _) _).drew
  have K0 : Hid (Blk (w.alloc (.cells #[.slice none 0 0, .slice none 0 0] 62)).drew w.heap.size 62 #[.slice none 0 0, .slice none 0 0]) := Blk.fresh w _ _
  have b0' : Below w.heap.size w ((w.alloc (.cells #[.slice none 0 0, .slice none 0 0] 62)).alloc (.cells (madeCells #[.int .i64 0] l.length) 2)).drew := (((Below.refl _ _).alloc (Nat.le_refl _) _).alloc (by simp) _).drew
  have K0' : Hid (Blk ((w.alloc (.cells #[.slice none 0 0, .slice none 0 0] 62)).alloc (.cells (madeCells #[.int .i64 0] l.length) 2)).drew w.heap.size 62 #[.slice none 0 0, .slice none 0 0]) := (Blk.fresh w _ _).alloc _
  have Z0' : Hid (Blk ((w.alloc (.cells #[.slice none 0 0, .slice none 0 0] 62)).alloc (.cells (madeCells #[.int .i64 0] l.length) 2)).drew (w.heap.size + 1) 2 (madeCells #[.int .i64 0] l.length)) := by
    have := Blk.fresh (w.alloc (.cells #[.slice none 0 0, .slice none 0 0] 62)) 2 (madeCells #[.int .i64 0] l.length)
    rw [World.size_alloc] at this
    exact this
  go_enter Try.func18, Try.ntmps18
  go_wp2_with fail
  go_region_held3 (fun w' => True) (trivial)
    (first
      | (go_at_call 35; refine (cloneN_any _ _ l _ (H1.out _ (by assumption)) hmax).mono ?_; rintro e w1 ⟨A1, c1, rfl, ho1, hb1⟩; have b1 := below_step (by assumption) hb1; have k1 : Hid (Blk w1 w.heap.size 62 #[.slice none 0 0, .slice none 0 0]) := Blk.below' (Hid.out (by assumption)) hb1; have r1 : w1.cell? ⟨w.heap.size, 0, none⟩ = some (.slice none 0 0) := k1.out.cell 0; have s1 : w1.cell? ⟨w.heap.size, 1, none⟩ = some (.slice none 0 0) := k1.out.cell 1; have y1 : w1.frozen? ⟨w.heap.size, 0, none⟩ = false := k1.out.thaw 0; have z1 : w1.frozen? ⟨w.heap.size, 1, none⟩ = false := k1.out.thaw 1; have n1 : w.heap.size < w1.heap.size := k1.out.lt))
  · have FA : ∀ a, A1 = some a → w.heap.size ≤ a.block := fun a h => by have h1 := Rsf.own_fresh ho1 a h; simp [World.drew] at h1; omega
    have FB : ∀ a, (some ⟨w1.heap.size, 0, none⟩ : Option Addr) = some a → w.heap.size ≤ a.block := fun a h => by injection h with h; rw [← h]; first | (show w.heap.size ≤ w1.heap.size; exact b1.size) | (show w.heap.size ≤ w.heap.size + 1; omega)
    have o1 : ((w1.setCell ⟨w.heap.size, 0, none⟩ (.slice A1 l.length c1)).setCell ⟨w.heap.size, 1, none⟩ (.slice (some ⟨w1.heap.size, 0, none⟩) l.length l.length)).ownsRow (w.heap.size + 1) 99 2 (.slice A1 l.length c1) l.length (nds l) :=
      ownsRow_setCell_below (ownsRow_setCell_below (own_mono (base' := w.heap.size + 1) ho1 (by simp [World.drew])) (by simp) _) (by simp) _
    have kf := Blk.alloc (blk_set (blk_set k1.out 0 (.slice A1 l.length c1)) 1 (.slice (some ⟨w1.heap.size, 0, none⟩) l.length l.length)) (.cells (madeCells #[.int .i64 0] l.length) 2)
    have g0 := kf.cell 0
    have g1 := kf.cell 1
    simp at g0 g1
    have zf := Blk.fresh ((w1.setCell ⟨w.heap.size, 0, none⟩ (.slice A1 l.length c1)).setCell ⟨w.heap.size, 1, none⟩ (.slice (some ⟨w1.heap.size, 0, none⟩) l.length l.length)) 2 (madeCells #[.int .i64 0] l.length)
    have hsz : ((w1.setCell ⟨w.heap.size, 0, none⟩ (.slice A1 l.length c1)).setCell ⟨w.heap.size, 1, none⟩ (.slice (some ⟨w1.heap.size, 0, none⟩) l.length l.length)).heap.size = w1.heap.size := by simp [World.setCell]
    rw [hsz] at zf
    have bF := ((b1.setCell (p := ⟨w.heap.size, 0, none⟩) (by simp) (.slice A1 l.length c1)).setCell (p := ⟨w.heap.size, 1, none⟩) (by simp) (.slice (some ⟨w1.heap.size, 0, none⟩) l.length l.length)).alloc (by rw [hsz]; omega) (.cells (madeCells #[.int .i64 0] l.length) 2)
    have O1 := Lib.hid (Rd.of_own (World.ownsRow.alloc o1 (.cells (madeCells #[.int .i64 0] l.length) 2)))
    have ZF := Lib.hid zf
    clear o1 zf ho1 hsz hmk
    go_wp2_with fail
    exact bodyPost_ret (v := .agg #[.slice A1 l.length c1, .slice (some ⟨w1.heap.size, 0, none⟩) l.length l.length]) (by simp [results, Try.results18, go_sem, g0, g1]) rfl (madeStF_mk FA FB rfl (zeros_len _).symm O1.out (ZF.out.rd' (made_zeros _)) bF)
  · have FA : ∀ a, A1 = some a → w.heap.size ≤ a.block := fun a h => by have h1 := Rsf.own_fresh ho1 a h; simp [World.drew] at h1; omega
    have FB : ∀ a, (some ⟨w.heap.size + 1, 0, none⟩ : Option Addr) = some a → w.heap.size ≤ a.block := fun a h => by injection h with h; rw [← h]; first | (show w.heap.size ≤ w1.heap.size; exact b1.size) | (show w.heap.size ≤ w.heap.size + 1; omega)
    have o1 : ((w1.setCell ⟨w.heap.size, 0, none⟩ (.slice A1 l.length c1)).setCell ⟨w.heap.size, 1, none⟩ (.slice (some ⟨w.heap.size + 1, 0, none⟩) l.length l.length)).ownsRow (w.heap.size + 1) 99 2 (.slice A1 l.length c1) l.length (nds l) :=
      ownsRow_setCell_below (ownsRow_setCell_below (own_mono (base' := w.heap.size + 1) ho1 (by simp [World.drew])) (by simp) _) (by simp) _
    have kf := blk_set (blk_set k1.out 0 (.slice A1 l.length c1)) 1 (.slice (some ⟨w.heap.size + 1, 0, none⟩) l.length l.length)
    have g0 := kf.cell 0
    have g1 := kf.cell 1
    simp at g0 g1
    have zf := blk_far (blk_far (Blk.below' Z0'.out hb1) (p := ⟨w.heap.size, 0, none⟩) (by simp) (.slice A1 l.length c1)) (p := ⟨w.heap.size, 1, none⟩) (by simp) (.slice (some ⟨w.heap.size + 1, 0, none⟩) l.length l.length)
    have bF := (b1.setCell (p := ⟨w.heap.size, 0, none⟩) (by simp) (.slice A1 l.length c1)).setCell (p := ⟨w.heap.size, 1, none⟩) (by simp) (.slice (some ⟨w.heap.size + 1, 0, none⟩) l.length l.length)
    have O1 := Lib.hid (Rd.of_own o1)
    have ZF := Lib.hid zf
    clear o1 zf ho1 hmk
    go_wp2_with fail
    exact bodyPost_ret (v := .agg #[.slice A1 l.length c1, .slice (some ⟨w.heap.size + 1, 0, none⟩) l.length l.length]) (by simp [results, Try.results18, go_sem, g0, g1]) rfl (madeStF_mk FA FB rfl (zeros_len _).symm O1.out (ZF.out.rd' (made_zeros _)) bF)

end Go.Proofs.Ytkmkaidhpbjbnaa.Cfr

/- The contract of a Model's release. Condition: the Model lies in memory, its State is one that may be, the account is one of its own and the worth is a number. -/
namespace Go.Proofs.Ytkmkaidhpbjbnaa.Mdr
set_option maxRecDepth 100000
open Go.ChangeShapes Go.WideShapes Go.ChangeAt Go.RowKit Mem Tre Ref3 Law3 Fix3 Cfg Crd CrdB CrdC Rr4 Res Rsf Bkp Bks Bcl Dlk Stk Apt Bko Bku Bka Bkc Rel Cfr Mdp Mdz Mds Mdo Lat
open Rul1 hiding below_step
set_option linter.unusedVariables false
set_option linter.unusedSimpArgs false
def MadeRl (base g : Nat) (q : Mq) (a : Nat) (x : Int) (w : World) (e : Ending) (w' : World) : Prop :=
  e = .returned (.tuple #[]) ∧ ∃ A5 A6 d5 d6 nU, Mm base w' g { q with An := A5, Au := A6, n2 := nU, d1 := d5, d2 := d6, cu := Cpl.relU q.cl q.cu (gI q.ac a) x } ∧ (∀ b, A5 = some b → w.heap.size ≤ b.block) ∧ (∀ b, A6 = some b → w.heap.size ≤ b.block) ∧ Kp w w' g q.Ab
set_option maxHeartbeats 16000000 in
theorem mrelease_any (base g aN : Nat) (q : Mq) (os op oq on ot y : Int) (ox : Bool) (w : World) (h : Hid (Mm base w g q)) (hg : GoodSt q.cl q.cu) (hwa : WfI q.ac) (ha : aN < q.al) (hal : q.al ≤ 100) (hx : -9223372036854775808 ≤ op * y ∧ op * y ≤ 9223372036854775807) :
    Calls Try.prog 58 #[.pointer (some ⟨g, 0, none⟩), .agg #[.int .i64 (aN : Int), .int .i64 os, .bool ox, .int .i64 op, .int .i64 oq, .int .i64 on, .int .i64 ot], .int .i64 y] w (MadeRl base g q aN (op * y) w) := by
  obtain ⟨sh, wi, ra, ta, A, B, C, nl, al, sl, c, d, f, nd, ac, sy, Ab, nb, cb, xs, An, Au, n1, n2, d1, d2, cl, cu, ep, off⟩ := q
  simp only at hg hwa ha hal
  have L2 : Hid (al = ac.length) := h.out.l2
  have L5 : Hid (n1 = cl.length) := h.out.l5
  have L6 : Hid (n2 = cu.length) := h.out.l6
  obtain ⟨b5, o5, hb5, hb5l, hac⟩ := Ris.at (i := 0) h.out.ris (by show 0 < ac.length; have := L2.out; omega)
  simp only at hb5
  subst hb5
  have HB5 := Lib.hid hb5l
  have ABT := hac aN (by show aN < ac.length; rw [← L2.out]; exact ha)
  have HABT : Hid (∀ W, Below w.heap.size w W → W.cell? ⟨b5, o5 + aN, none⟩ = some (.int .i64 (gI ac aN))) := fun W hb => (hb.cell (p := ⟨b5, o5 + aN, none⟩) hb5l).trans ABT
  have hin : inI (gI ac aN) := hwa aN (by rw [← L2.out]; exact ha)
  have RS := fun W hn hu => release_fresh An Au d1 d2 cl cu (gI ac aN) (op * y) W hn hu hg hin hx.1 hx.2
  obtain ⟨UU, hUU⟩ : ∃ u, u = Cpl.relU cl cu (gI ac aN) (op * y) := ⟨_, rfl⟩
  obtain ⟨bb, hbb⟩ : ∃ b, b = Cpl.relF cl cu (gI ac aN) (op * y) := ⟨_, rfl⟩
  obtain ⟨nU, hnU⟩ : ∃ k, k = UU.length := ⟨_, rfl⟩
  unfold MadeRelF at RS
  rw [← hUU, ← hbb, ← L5.out, ← L6.out] at RS
  simp only [← hnU] at RS
  have HUU := Lib.hid hUU
  have HNU := Lib.hid hnU
  obtain ⟨av, hav⟩ : ∃ v, v = gI ac aN := ⟨_, rfl⟩
  rw [← hav] at RS HABT hin
  have HAV := Lib.hid hav
  have taN : decide ((aN : Int) < (al : Int)) = true := by simp; omega
  have tml : IntKind.i64.wrap (op * y) = op * y := by rw [IntKind.wrap_i64]; omega
  clear hUU hbb hnU hav hin ABT hac hb5l hwa hg
  have U0 : Hid (Below w.heap.size w (w.alloc (.cells #[.int .i64 (aN : Int), .int .i64 os, .bool ox, .int .i64 op, .int .i64 oq, .int .i64 on, .int .i64 ot] 48))) := (Below.refl _ _).alloc (Nat.le_refl _) _
  have O0 : Hid (Blk (w.alloc (.cells #[.int .i64 (aN : Int), .int .i64 os, .bool ox, .int .i64 op, .int .i64 oq, .int .i64 on, .int .i64 ot] 48)) w.heap.size 48 #[.int .i64 (aN : Int), .int .i64 os, .bool ox, .int .i64 op, .int .i64 oq, .int .i64 on, .int .i64 ot]) := Blk.fresh w _ _
  have M0 : Hid (Mm base (w.alloc (.cells #[.int .i64 (aN : Int), .int .i64 os, .bool ox, .int .i64 op, .int .i64 oq, .int .i64 on, .int .i64 ot] 48)) g ⟨sh, wi, ra, ta, A, some ⟨b5, o5, none⟩, C, nl, al, sl, c, d, f, nd, ac, sy, Ab, nb, cb, xs, An, Au, n1, n2, d1, d2, cl, cu, ep, off⟩) := Mm_below h.out U0.out
  have hgl : Hid (g < w.heap.size) := (Mm_lt h.out).1
  have hfar : Hid (∀ b, Ab = some b → b.block < w.heap.size) := (Mm_lt h.out).2
  go_enter Try.func58, Try.ntmps58
  go_upto_region 1 with fail
  generalize hgO : w.heap.size = gO at O0 ⊢
  have HGO := Lib.hid hgO
  clear hgO
  generalize (w.alloc (.cells #[.int .i64 (aN : Int), .int .i64 os, .bool ox, .int .i64 op, .int .i64 oq, .int .i64 on, .int .i64 ot] 48)) = w0 at U0 O0 M0 ⊢
  have HT : Hid (w0.drew.cell? ⟨g, 8, none⟩ = some (.slice An n1 d1) ∧ w0.drew.cell? ⟨g, 9, none⟩ = some (.slice Au n2 d2) ∧ w0.drew.cell? ⟨g, 5, none⟩ = some (.slice (some ⟨b5, o5, none⟩) al d) ∧ w0.drew.cell? ⟨gO, 0, none⟩ = some (.int .i64 (aN : Int)) ∧ w0.drew.cell? ⟨gO, 3, none⟩ = some (.int .i64 op) ∧ w0.drew.cell? ⟨b5, o5 + aN, none⟩ = some (.int .i64 av)) := ⟨M0.out.blk.cell 8, M0.out.blk.cell 9, M0.out.blk.cell 5, O0.out.cell 0, O0.out.cell 3, HABT.out _ (Below.drew U0.out)⟩
  refine wp_region_noPanic ?_
  refine wp_region_L (T := (fun w' => w'.cell? ⟨g, 8, none⟩ = some (.slice An n1 d1) ∧ w'.cell? ⟨g, 9, none⟩ = some (.slice Au n2 d2) ∧ w'.cell? ⟨g, 5, none⟩ = some (.slice (some ⟨b5, o5, none⟩) al d) ∧ w'.cell? ⟨gO, 0, none⟩ = some (.int .i64 (aN : Int)) ∧ w'.cell? ⟨gO, 3, none⟩ = some (.int .i64 op) ∧ w'.cell? ⟨b5, o5 + aN, none⟩ = some (.int .i64 av))) (st := [24]) (by kernel_rfl) ?_
  refine wpL_word (i := 0) (v := ?_) rfl (by kernel_rfl) (fun _ _ _ h => h) (by kernel_rfl) _ _ _ _ (by kernel_rfl) (by kernel_rfl) (Or.inl ⟨by rfl, ?_⟩) (fun _ => HT.out) ?_
  rotate_left
  · intro w' _
    go_simp
    try with_reducible rfl
  (try simp only [Act.put, List.getElem_toArray, List.getElem_cons_succ, List.getElem_cons_zero, List.setIfInBounds_toArray, List.set_cons_zero, List.set_cons_succ])
  refine wpL_word (i := 1) (v := ?_) rfl (by kernel_rfl) (fun _ _ _ h => h) (by kernel_rfl) _ _ _ _ (by kernel_rfl) (by kernel_rfl) (Or.inl ⟨by rfl, ?_⟩) (fun _ => HT.out) ?_
  rotate_left
  · intro w' _
    go_simp
    try with_reducible rfl
  (try simp only [Act.put, List.getElem_toArray, List.getElem_cons_succ, List.getElem_cons_zero, List.setIfInBounds_toArray, List.set_cons_zero, List.set_cons_succ])
  refine wpL_word (i := 2) (v := ?_) rfl (by kernel_rfl) (fun _ _ _ h => h) (by kernel_rfl) _ _ _ _ (by kernel_rfl) (by kernel_rfl) (Or.inl ⟨by rfl, ?_⟩) (fun _ => HT.out) ?_
  rotate_left
  · intro w' _
    go_simp
    try with_reducible rfl
  (try simp only [Act.put, List.getElem_toArray, List.getElem_cons_succ, List.getElem_cons_zero, List.setIfInBounds_toArray, List.set_cons_zero, List.set_cons_succ])
  refine wpL_word (i := 3) (v := ?_) rfl (by kernel_rfl) (fun _ _ _ h => h) (by kernel_rfl) _ _ _ _ (by kernel_rfl) (by kernel_rfl) (Or.inl ⟨by rfl, ?_⟩) (fun _ => HT.out) ?_
  rotate_left
  · intro w' _
    go_simp
    try with_reducible rfl
  (try simp only [Act.put, List.getElem_toArray, List.getElem_cons_succ, List.getElem_cons_zero, List.setIfInBounds_toArray, List.set_cons_zero, List.set_cons_succ])
  refine wpL_load (i := 4) (v := ?_) rfl (by kernel_rfl) (fun _ _ _ h => h) (by kernel_rfl) (by kernel_rfl) _ _ _ _ (by kernel_rfl) (by kernel_rfl) (Or.inl ⟨by rfl, ?_⟩) (by kernel_rfl) HT.out ?_
  rotate_left
  · intro w' hS
    (try dsimp only at hS)
    obtain ⟨x1, x2, x3, x4, x5, x6⟩ := hS
    go_simp
    try with_reducible rfl
  (try simp only [Act.put, List.getElem_toArray, List.getElem_cons_succ, List.getElem_cons_zero, List.setIfInBounds_toArray, List.set_cons_zero, List.set_cons_succ])
  refine wpL_word (i := 5) (v := ?_) rfl (by kernel_rfl) (fun _ _ _ h => h) (by kernel_rfl) _ _ _ _ (by kernel_rfl) (by kernel_rfl) (Or.inl ⟨by rfl, ?_⟩) (fun _ => HT.out) ?_
  rotate_left
  · intro w' _
    go_simp
    try with_reducible rfl
  (try simp only [Act.put, List.getElem_toArray, List.getElem_cons_succ, List.getElem_cons_zero, List.setIfInBounds_toArray, List.set_cons_zero, List.set_cons_succ])
  refine wpL_word (i := 6) (v := ?_) rfl (by kernel_rfl) (fun _ _ _ h => h) (by kernel_rfl) _ _ _ _ (by kernel_rfl) (by kernel_rfl) (Or.inl ⟨by rfl, ?_⟩) (fun _ => HT.out) ?_
  rotate_left
  · intro w' _
    go_simp
    try with_reducible rfl
  (try simp only [Act.put, List.getElem_toArray, List.getElem_cons_succ, List.getElem_cons_zero, List.setIfInBounds_toArray, List.set_cons_zero, List.set_cons_succ])
  refine wpL_word (i := 7) (v := ?_) rfl (by kernel_rfl) (fun _ _ _ h => h) (by kernel_rfl) _ _ _ _ (by kernel_rfl) (by kernel_rfl) (Or.inl ⟨by rfl, ?_⟩) (fun _ => HT.out) ?_
  rotate_left
  · intro w' _
    go_simp
    try with_reducible rfl
  (try simp only [Act.put, List.getElem_toArray, List.getElem_cons_succ, List.getElem_cons_zero, List.setIfInBounds_toArray, List.set_cons_zero, List.set_cons_succ])
  refine wpL_word (i := 8) (v := ?_) rfl (by kernel_rfl) (fun _ _ _ h => h) (by kernel_rfl) _ _ _ _ (by kernel_rfl) (by kernel_rfl) (Or.inl ⟨by rfl, ?_⟩) (fun _ => HT.out) ?_
  rotate_left
  · intro w' _
    go_simp
    try with_reducible rfl
  (try simp only [Act.put, List.getElem_toArray, List.getElem_cons_succ, List.getElem_cons_zero, List.setIfInBounds_toArray, List.set_cons_zero, List.set_cons_succ])
  refine wpL_load (i := 9) (v := ?_) rfl (by kernel_rfl) (fun _ _ _ h => h) (by kernel_rfl) (by kernel_rfl) _ _ _ _ (by kernel_rfl) (by kernel_rfl) (Or.inl ⟨by rfl, ?_⟩) (by kernel_rfl) HT.out ?_
  rotate_left
  · intro w' hS
    (try dsimp only at hS)
    obtain ⟨x1, x2, x3, x4, x5, x6⟩ := hS
    go_simp
    try with_reducible rfl
  (try simp only [Act.put, List.getElem_toArray, List.getElem_cons_succ, List.getElem_cons_zero, List.setIfInBounds_toArray, List.set_cons_zero, List.set_cons_succ])
  refine wpL_word (i := 10) (v := ?_) rfl (by kernel_rfl) (fun _ _ _ h => h) (by kernel_rfl) _ _ _ _ (by kernel_rfl) (by kernel_rfl) (Or.inl ⟨by rfl, ?_⟩) (fun _ => HT.out) ?_
  rotate_left
  · intro w' _
    go_simp
    try with_reducible rfl
  (try simp only [Act.put, List.getElem_toArray, List.getElem_cons_succ, List.getElem_cons_zero, List.setIfInBounds_toArray, List.set_cons_zero, List.set_cons_succ])
  refine wpL_load (i := 11) (v := ?_) rfl (by kernel_rfl) (fun _ _ _ h => h) (by kernel_rfl) (by kernel_rfl) _ _ _ _ (by kernel_rfl) (by kernel_rfl) (Or.inl ⟨by rfl, ?_⟩) (by kernel_rfl) HT.out ?_
  rotate_left
  · intro w' hS
    (try dsimp only at hS)
    obtain ⟨x1, x2, x3, x4, x5, x6⟩ := hS
    go_simp
    try with_reducible rfl
  (try simp only [Act.put, List.getElem_toArray, List.getElem_cons_succ, List.getElem_cons_zero, List.setIfInBounds_toArray, List.set_cons_zero, List.set_cons_succ])
  refine wpL_word (i := 12) (v := ?_) rfl (by kernel_rfl) (fun _ _ _ h => h) (by kernel_rfl) _ _ _ _ (by kernel_rfl) (by kernel_rfl) (Or.inl ⟨by rfl, ?_⟩) (fun _ => HT.out) ?_
  rotate_left
  · intro w' _
    go_simp
    try with_reducible rfl
  (try simp only [Act.put, List.getElem_toArray, List.getElem_cons_succ, List.getElem_cons_zero, List.setIfInBounds_toArray, List.set_cons_zero, List.set_cons_succ])
  refine wpL_load (i := 13) (v := ?_) rfl (by kernel_rfl) (fun _ _ _ h => h) (by kernel_rfl) (by kernel_rfl) _ _ _ _ (by kernel_rfl) (by kernel_rfl) (Or.inl ⟨by rfl, ?_⟩) (by kernel_rfl) HT.out ?_
  rotate_left
  · intro w' hS
    (try dsimp only at hS)
    obtain ⟨x1, x2, x3, x4, x5, x6⟩ := hS
    go_simp
    try with_reducible rfl
  (try simp only [Act.put, List.getElem_toArray, List.getElem_cons_succ, List.getElem_cons_zero, List.setIfInBounds_toArray, List.set_cons_zero, List.set_cons_succ])
  refine wpL_word (i := 14) (v := ?_) rfl (by kernel_rfl) (fun _ _ _ h => h) (by kernel_rfl) _ _ _ _ (by kernel_rfl) (by kernel_rfl) (Or.inl ⟨by rfl, ?_⟩) (fun _ => HT.out) ?_
  rotate_left
  · intro w' _
    go_simp
    try with_reducible rfl
  (try simp only [Act.put, List.getElem_toArray, List.getElem_cons_succ, List.getElem_cons_zero, List.setIfInBounds_toArray, List.set_cons_zero, List.set_cons_succ])
  refine wpL_load (i := 15) (v := ?_) rfl (by kernel_rfl) (fun _ _ _ h => h) (by kernel_rfl) (by kernel_rfl) _ _ _ _ (by kernel_rfl) (by kernel_rfl) (Or.inl ⟨by rfl, ?_⟩) (by kernel_rfl) HT.out ?_
  rotate_left
  · intro w' hS
    (try dsimp only at hS)
    obtain ⟨x1, x2, x3, x4, x5, x6⟩ := hS
    go_simp
    try with_reducible rfl
  (try simp only [Act.put, List.getElem_toArray, List.getElem_cons_succ, List.getElem_cons_zero, List.setIfInBounds_toArray, List.set_cons_zero, List.set_cons_succ])
  refine wpL_word (i := 16) (v := ?_) rfl (by kernel_rfl) (fun _ _ _ h => h) (by kernel_rfl) _ _ _ _ (by kernel_rfl) (by kernel_rfl) (Or.inl ⟨by rfl, ?_⟩) (fun _ => HT.out) ?_
  rotate_left
  · intro w' _
    go_simp
    try with_reducible rfl
  (try simp only [Act.put, List.getElem_toArray, List.getElem_cons_succ, List.getElem_cons_zero, List.setIfInBounds_toArray, List.set_cons_zero, List.set_cons_succ])
  refine wpL_word (i := 17) (v := ?_) rfl (by kernel_rfl) (fun _ _ _ h => h) (by kernel_rfl) _ _ _ _ (by kernel_rfl) (by kernel_rfl) (Or.inl ⟨by rfl, ?_⟩) (fun _ => HT.out) ?_
  rotate_left
  · intro w' _
    go_simp
    try with_reducible rfl
  (try simp only [Act.put, List.getElem_toArray, List.getElem_cons_succ, List.getElem_cons_zero, List.setIfInBounds_toArray, List.set_cons_zero, List.set_cons_succ])
  refine wpL_next (n := 18) (by kernel_rfl) rfl (fun K' hK => ?_)
  go_simp
  refine (RS _ (Lib.hid (Rd.below' M0.out.cn (Below.drew (Below.refl _ _)) (Nat.le_refl _))) (Lib.hid (Rd.below' M0.out.cr (Below.drew (Below.refl _ _)) (Nat.le_refl _)))).mono ?_
  rintro e w1 ⟨A5, d5, A6, d6, rfl, hn5, hu5, hb1, fa5, fb5⟩
  have HB1 : Hid (Below w0.heap.size w0 w1) := CrdB.below_step (Below.drew (Below.refl _ _)) hb1
  have U1 := Lib.hid (CrdB.below_step U0.out HB1.out)
  have M1 := Lib.hid (Mm_below M0.out HB1.out)
  have O1 := Lib.hid (Blk.below' O0.out HB1.out)
  have N5 := Lib.hid hn5
  have R5 := Lib.hid hu5
  have S0 : Hid (w.heap.size ≤ w0.drew.heap.size) := U0.out.size
  have F5 : Hid (Far g Ab A5 (nds cl)) := Far_new hgl.out hfar.out (fun a ha => Nat.le_trans S0.out (fa5 a ha))
  have F6 : Hid (Far g Ab A6 (ints UU)) := Far_new hgl.out hfar.out (fun a ha => Nat.le_trans S0.out (fb5 a ha))
  have G5 : Hid (∀ a, A5 = some a → w.heap.size ≤ a.block) := fun a ha => Nat.le_trans S0.out (fa5 a ha)
  have G6 : Hid (∀ a, A6 = some a → w.heap.size ≤ a.block) := fun a ha => Nat.le_trans S0.out (fb5 a ha)
  have HT2 : Hid (w1.cell? ⟨g, 8, none⟩ = some (.slice An n1 d1) ∧ w1.cell? ⟨g, 9, none⟩ = some (.slice Au n2 d2) ∧ w1.cell? ⟨g, 5, none⟩ = some (.slice (some ⟨b5, o5, none⟩) al d) ∧ w1.cell? ⟨gO, 0, none⟩ = some (.int .i64 (aN : Int)) ∧ w1.cell? ⟨gO, 3, none⟩ = some (.int .i64 op) ∧ w1.cell? ⟨b5, o5 + aN, none⟩ = some (.int .i64 av)) := ⟨M1.out.blk.cell 8, M1.out.blk.cell 9, M1.out.blk.cell 5, O1.out.cell 0, O1.out.cell 3, HABT.out _ U1.out⟩
  clear hn5 hu5 hb1 fa5 fb5 RS
  go_wp2_with fail
  refine hK.out _ _ HT2.out ?_
  clear hK K'
  (try simp only [Act.put, List.getElem_toArray, List.getElem_cons_succ, List.getElem_cons_zero, List.setIfInBounds_toArray, List.set_cons_zero, List.set_cons_succ])
  refine wpL_word (i := 19) (v := ?_) rfl (by kernel_rfl) (fun _ _ _ h => h) (by kernel_rfl) _ _ _ _ (by kernel_rfl) (by kernel_rfl) (Or.inl ⟨by rfl, ?_⟩) (fun _ => HT2.out) ?_
  rotate_left
  · intro w' _
    go_simp
    try with_reducible rfl
  (try simp only [Act.put, List.getElem_toArray, List.getElem_cons_succ, List.getElem_cons_zero, List.setIfInBounds_toArray, List.set_cons_zero, List.set_cons_succ])
  refine wpL_word (i := 20) (v := ?_) rfl (by kernel_rfl) (fun _ _ _ h => h) (by kernel_rfl) _ _ _ _ (by kernel_rfl) (by kernel_rfl) (Or.inl ⟨by rfl, ?_⟩) (fun _ => HT2.out) ?_
  rotate_left
  · intro w' _
    go_simp
    try with_reducible rfl
  (try simp only [Act.put, List.getElem_toArray, List.getElem_cons_succ, List.getElem_cons_zero, List.setIfInBounds_toArray, List.set_cons_zero, List.set_cons_succ])
  refine wpL_word (i := 21) (v := ?_) rfl (by kernel_rfl) (fun _ _ _ h => h) (by kernel_rfl) _ _ _ _ (by kernel_rfl) (by kernel_rfl) (Or.inl ⟨by rfl, ?_⟩) (fun _ => HT2.out) ?_
  rotate_left
  · intro w' _
    go_simp
    try with_reducible rfl
  (try simp only [Act.put, List.getElem_toArray, List.getElem_cons_succ, List.getElem_cons_zero, List.setIfInBounds_toArray, List.set_cons_zero, List.set_cons_succ])
  refine wpL_word (i := 22) (v := ?_) rfl (by kernel_rfl) (fun _ _ _ h => h) (by kernel_rfl) _ _ _ _ (by kernel_rfl) (by kernel_rfl) (Or.inl ⟨by rfl, ?_⟩) (fun _ => HT2.out) ?_
  rotate_left
  · intro w' _
    go_simp
    try with_reducible rfl
  (try simp only [Act.put, List.getElem_toArray, List.getElem_cons_succ, List.getElem_cons_zero, List.setIfInBounds_toArray, List.set_cons_zero, List.set_cons_succ])
  refine wpL_word (i := 23) (v := ?_) rfl (by kernel_rfl) (fun _ _ _ h => h) (by kernel_rfl) _ _ _ _ (by kernel_rfl) (by kernel_rfl) (Or.inl ⟨by rfl, ?_⟩) (fun _ => HT2.out) ?_
  rotate_left
  · intro w' _
    go_simp
    try with_reducible rfl
  (try simp only [Act.put, List.getElem_toArray, List.getElem_cons_succ, List.getElem_cons_zero, List.setIfInBounds_toArray, List.set_cons_zero, List.set_cons_succ])
  have K1 : Hid (Blk w1 g 82 #[.int .i64 sh, .int .i64 wi, .int .i64 ra, .int .i64 ta, .slice A nl c, .slice (some ⟨b5, o5, none⟩) al d, .slice C sl f, .slice Ab nb cb, .slice An n1 d1, .slice Au n2 d2, .int .i64 ep, .bool off]) := M1.out.blk
  have M2 : Hid (Mm base ((w1.setCell ⟨g, 8, none⟩ (.slice A5 n1 d5)).setCell ⟨g, 9, none⟩ (.slice A6 nU d6)) g ⟨sh, wi, ra, ta, A, some ⟨b5, o5, none⟩, C, nl, al, sl, c, d, f, nd, ac, sy, Ab, nb, cb, xs, A5, A6, n1, nU, d5, d6, cl, UU, ep, off⟩) := Mm_cr M1.out N5.out R5.out F5.out F6.out L5.out HNU.out
  have hfin : MadeRl base g ⟨sh, wi, ra, ta, A, some ⟨b5, o5, none⟩, C, nl, al, sl, c, d, f, nd, ac, sy, Ab, nb, cb, xs, An, Au, n1, n2, d1, d2, cl, cu, ep, off⟩ aN (op * y) w (.returned (.tuple #[])) ((w1.setCell ⟨g, 8, none⟩ (.slice A5 n1 d5)).setCell ⟨g, 9, none⟩ (.slice A6 nU d6)) :=
    ⟨rfl, A5, A6, d5, d6, nU, by have h2 := M2.out; rw [HUU.out] at h2; exact h2, G5.out, G6.out, Kp_setg (Kp_setg (Kp_of_below U1.out) 8 _) 9 _⟩
  have HF := Lib.hid hfin
  clear hfin M2
  obtain ⟨k0, k1, k2, k3, k4, k5, k6, k7, k8, k9, k10, k11, f0, f1, f2, f3, f4, f5, f6, f7, f8, f9, f10, f11⟩ := q12_of K1.out
  refine wpL_late (n := 24) (by kernel_rfl) rfl (by kernel_rfl) (fun K' hK => ?_)
  go_simp
  refine hK.out _ _ ?_
  clear hK K'
  (try simp only [Act.put, List.getElem_toArray, List.getElem_cons_succ, List.getElem_cons_zero, List.setIfInBounds_toArray, List.set_cons_zero, List.set_cons_succ])
  refine wpL_done (by kernel_rfl) ?_ _
  refine NoPanic.normal ?_
  go_wp2_with fail
  exact bodyPost_end (v := .tuple #[]) (by simp [results, Try.results58, go_sem]) rfl HF.out
end Go.Proofs.Ytkmkaidhpbjbnaa.Mdr

/- Contracts of book's Find, Worth, Look, and of the number of the next order. Condition: the book lies in memory and is not long. -/
namespace Go.Proofs.Ytkmkaidhpbjbnaa.Bkg
set_option maxRecDepth 100000
open Go.ChangeShapes Go.WideShapes Go.ChangeAt Go.RowKit Mem Tre Ref3 Law3 CrdB CrdC Bkp Bks Bkf Stk
set_option linter.unusedVariables false
set_option linter.unusedSimpArgs false
def findE (l : List En) (k : Int) : En := if posE l k < l.length then gE l (posE l k) else en0
def findB (l : List En) (k : Int) : Bool := decide (posE l k < l.length)
set_option maxHeartbeats 2000000 in
theorem find_any (sh ca : Int) (A C : Option Addr) (nr no c d : Nat) (op : List En) (k : Int) (w : World) (HNO : Hid (no = op.length)) (h : Hid (Rd w w.heap.size C (ens op))) (hmax : (no : Int) ≤ 1000000) :
    Calls Try.prog 56 #[.agg #[.int .i64 sh, .int .i64 ca, .slice A nr c, .slice C no d], .int .i64 k] w (fun r w' => r = .returned (.tuple #[enA (findE op k), .bool (findB op k)]) ∧ Below w.heap.size w w') := by
  have b0 : Hid (Below w.heap.size w ((w.alloc (.cells #[.int .i64 sh, .int .i64 ca, .slice A nr c, .slice C no d] 58)).alloc (.cells #[.int .i64 0, .int .i64 0, .int .i64 0, .bool false, .int .i64 0, .int .i64 0, .int .i64 0, .int .i64 0, .int .i64 0, .int .i64 0, .int .i64 0] 128))) := ((Below.refl _ _).alloc (Nat.le_refl _) _).alloc (by simp) _
  have K0 : Hid (Blk ((w.alloc (.cells #[.int .i64 sh, .int .i64 ca, .slice A nr c, .slice C no d] 58)).alloc (.cells #[.int .i64 0, .int .i64 0, .int .i64 0, .bool false, .int .i64 0, .int .i64 0, .int .i64 0, .int .i64 0, .int .i64 0, .int .i64 0, .int .i64 0] 128)) w.heap.size 58 #[.int .i64 sh, .int .i64 ca, .slice A nr c, .slice C no d]) := (Blk.fresh w _ _).alloc _
  have R0 : Hid (Blk ((w.alloc (.cells #[.int .i64 sh, .int .i64 ca, .slice A nr c, .slice C no d] 58)).alloc (.cells #[.int .i64 0, .int .i64 0, .int .i64 0, .bool false, .int .i64 0, .int .i64 0, .int .i64 0, .int .i64 0, .int .i64 0, .int .i64 0, .int .i64 0] 128)) (w.heap.size + 1) 128 #[.int .i64 0, .int .i64 0, .int .i64 0, .bool false, .int .i64 0, .int .i64 0, .int .i64 0, .int .i64 0, .int .i64 0, .int .i64 0, .int .i64 0]) := blk_hd (by simp)
  go_enter Try.func56, Try.ntmps56
  go_wp2_with fail
  refine (place_any sh ca A C nr no c d op k _ HNO (Rd.below' h.out b0.out b0.out.size) hmax).mono ?_
  rintro r w1 ⟨rfl, hb1⟩
  have HB := Lib.hid (below_step b0.out hb1)
  have K1 : Hid (Blk w1 w.heap.size 58 #[.int .i64 sh, .int .i64 ca, .slice A nr c, .slice C no d]) := Blk.below' K0.out hb1
  have R1 : Hid (Blk w1 (w.heap.size + 1) 128 #[.int .i64 0, .int .i64 0, .int .i64 0, .bool false, .int .i64 0, .int .i64 0, .int .i64 0, .int .i64 0, .int .i64 0, .int .i64 0, .int .i64 0]) := Blk.below' R0.out hb1
  have H1 : Hid (Rd w1 w1.heap.size C (ens op)) := Rd.below' h.out HB.out HB.out.size
  clear hb1 b0 K0 R0 h
  have hgg : w.heap.size ≠ w.heap.size + 1 := by omega
  have hge : Hid (w.heap.size ≤ w.heap.size + 1) := by show _ ≤ _; omega
  generalize w.heap.size + 1 = gR at R1 hgg hge ⊢
  obtain ⟨gM, hgM⟩ : ∃ g, g = w.heap.size := ⟨_, rfl⟩
  have K2 : Hid (Blk w1 gM 58 #[.int .i64 sh, .int .i64 ca, .slice A nr c, .slice C no d]) := by rw [hgM]; exact K1.out
  have hgg2 : gM ≠ gR := by omega
  simp only [← hgM]
  clear hgM K1 hgg
  obtain ⟨k0, k1, k2, k3⟩ := q4_of K2.out
  obtain ⟨z0, z1, z2, z3, z4, z5, z6, z7, z8, z9, z10, f0, f1, f2, f3, f4, f5, f6, f7, f8, f9, f10⟩ := z11_of R1.out
  by_cases hp : posE op k < op.length
  · have hP : Hid (placeF op k = (posE op k : Int)) := placeF_t hp
    obtain ⟨b, o, hA, hb, hcc⟩ := Ens.at H1.out (by omega)
    have hcs := hcc (posE op k) hp
    subst hA
    have hF : Hid (findE op k = gE op (posE op k) ∧ findB op k = true) := ⟨by unfold findE; rw [if_pos hp], by unfold findB; simp [hp]⟩
    have hlt : Hid (posE op k < no) := by show _ < _; rw [HNO.out]; exact hp
    rw [hP.out]
    generalize posE op k = i at hcs hF hlt ⊢
    have hlt' : i < no := hlt.out
    have hne : ((i : Int) == -1) = false := by rw [beq_eq_false_iff_ne]; omega
    clear hcc hp hP H1
    generalize gE op i = E at hcs hF
    obtain ⟨id, ⟨a, s, x, p, q, n, t⟩, lf, st, ep⟩ := E
    obtain ⟨c0, c1, c2, c3, c4, c5, c6, c7, c8, c9, c10⟩ := hcs
    simp only [] at c0 c1 c2 c3 c4 c5 c6 c7 c8 c9 c10
    have f3 : Blk (st11 w1 gR (.int .i64 id) (.int .i64 a) (.int .i64 s) (.bool x) (.int .i64 p) (.int .i64 q) (.int .i64 n) (.int .i64 t) (.int .i64 lf) (.int .i64 st) (.int .i64 ep)) gR 128 #[.int .i64 id, .int .i64 a, .int .i64 s, .bool x, .int .i64 p, .int .i64 q, .int .i64 n, .int .i64 t, .int .i64 lf, .int .i64 st, .int .i64 ep] := st11_blk R1.out
    have hfin : Below w.heap.size w (st11 w1 gR (.int .i64 id) (.int .i64 a) (.int .i64 s) (.bool x) (.int .i64 p) (.int .i64 q) (.int .i64 n) (.int .i64 t) (.int .i64 lf) (.int .i64 st) (.int .i64 ep)) := st11_below HB.out hge.out
    go_wp2_with fail
    obtain ⟨d0, d1, d2, d3, d4, d5, d6, d7, d8, d9, d10⟩ := q11_of f3
    clear f3 R1 K2
    unfold st11 at d0 d1 d2 d3 d4 d5 d6 d7 d8 d9 d10 hfin
    exact bodyPost_ret (v := .tuple #[.agg #[.int .i64 id, .int .i64 a, .int .i64 s, .bool x, .int .i64 p, .int .i64 q, .int .i64 n, .int .i64 t, .int .i64 lf, .int .i64 st, .int .i64 ep], .bool true]) (by simp [results, Try.results56, go_sem, d0, d1, d2, d3, d4, d5, d6, d7, d8, d9, d10]) rfl ⟨by rw [hF.out.1, hF.out.2]; rfl, hfin⟩
  · have hP : Hid (placeF op k = -1) := placeF_f hp
    have hF : Hid (findE op k = en0 ∧ findB op k = false) := ⟨by unfold findE; rw [if_neg hp], by unfold findB; simp [hp]⟩
    rw [hP.out]
    clear hp hP H1
    have f3 : Blk (st11 w1 gR (.int .i64 0) (.int .i64 0) (.int .i64 0) (.bool false) (.int .i64 0) (.int .i64 0) (.int .i64 0) (.int .i64 0) (.int .i64 0) (.int .i64 0) (.int .i64 0)) gR 128 #[.int .i64 0, .int .i64 0, .int .i64 0, .bool false, .int .i64 0, .int .i64 0, .int .i64 0, .int .i64 0, .int .i64 0, .int .i64 0, .int .i64 0] := st11_blk R1.out
    have hfin : Below w.heap.size w (st11 w1 gR (.int .i64 0) (.int .i64 0) (.int .i64 0) (.bool false) (.int .i64 0) (.int .i64 0) (.int .i64 0) (.int .i64 0) (.int .i64 0) (.int .i64 0) (.int .i64 0)) := st11_below HB.out hge.out
    go_wp2_with fail
    obtain ⟨d0, d1, d2, d3, d4, d5, d6, d7, d8, d9, d10⟩ := q11_of f3
    clear f3 R1 K2
    unfold st11 at d0 d1 d2 d3 d4 d5 d6 d7 d8 d9 d10 hfin
    exact bodyPost_ret (v := .tuple #[.agg #[.int .i64 0, .int .i64 0, .int .i64 0, .bool false, .int .i64 0, .int .i64 0, .int .i64 0, .int .i64 0, .int .i64 0, .int .i64 0, .int .i64 0], .bool false]) (by simp [results, Try.results56, go_sem, d0, d1, d2, d3, d4, d5, d6, d7, d8, d9, d10]) rfl ⟨by rw [hF.out.1, hF.out.2]; rfl, hfin⟩
end Go.Proofs.Ytkmkaidhpbjbnaa.Bkg
