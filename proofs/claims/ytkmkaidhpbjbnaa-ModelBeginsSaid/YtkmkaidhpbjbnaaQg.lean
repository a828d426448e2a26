/- Texts side by side: each has its own first line. -/
import Derived.Laws.StructEq
import Derived.Test.YtkmkaidhpbjbnaaQa
import Derived.Test.YtkmkaidhpbjbnaaQc
import Derived.Test.YtkmkaidhpbjbnaaQd
import Derived.Test.YtkmkaidhpbjbnaaQe
import Derived.Test.YtkmkaidhpbjbnaaQf
/- The contracts of a Model's fill and ack. Condition: the Model lies in memory and is one that may be; what is open is worth a number. -/
namespace Go.Proofs.Ytkmkaidhpbjbnaa.Mdj
set_option maxRecDepth 100000
open Go.ChangeShapes Go.WideShapes Go.ChangeAt Go.RowKit Mem Tre Ref3 Law3 Fix3 Cfg Crd CrdB CrdC Rr4 Bkp Bks Bkf Bkg Bcl Dlk Stk Apt Bko Bku Bka Bkc Bkq Res Mdp Mdz Mds Mdn Mdo Mdk Mdr Lat
open Rul1 hiding below_step
set_option linter.unusedVariables false
set_option linter.unusedSimpArgs false
/-- what is open of an account, and is worth a number -/
def EnK (al : Nat) (e : En) : Prop := 0 ≤ e.o.a ∧ e.o.a < (al : Int) ∧ 1 ≤ e.o.p ∧ 1 ≤ e.lf ∧ e.o.p * e.lf ≤ 9223372036854775807
def Vo (q : Mq) : Prop := ∀ k, k < q.xs.length → ∀ e ∈ (gX q.xs k).b.op, EnK q.al e
def relP (p : Pm) (a x : Int) : Pm := { p with cu := Cpl.relU p.cl p.cu (gI p.ac a.toNat) x }
def filF (p : Pm) (i y : Int) : Pm × (Int × Int × List (Int × Int)) :=
  if (fillF (gB p.bs (shN p i)) i y).2 ≠ 0 then (p, ((fillF (gB p.bs (shN p i)) i y).2, 0, []))
  else (relP { p with bs := p.bs.set (shN p i) (fillF (gB p.bs (shN p i)) i y).1 } (findE (gB p.bs (shN p i)).op i).o.a ((findE (gB p.bs (shN p i)).op i).o.p * y), (0, 0, []))
theorem fil_no {p : Pm} {i y c : Int} {s : Nat} {b : Bk} (hs : shN p i = s) (hb : gB p.bs s = b) (hc : (fillF b i y).2 = c) (h : c ≠ 0) : filF p i y = (p, (c, 0, [])) := by
  unfold filF; rw [hs, hb, hc, if_pos h]
theorem fil_yes {p : Pm} {i y : Int} {s : Nat} {b : Bk} (hs : shN p i = s) (hb : gB p.bs s = b) (h : (fillF b i y).2 = 0) : filF p i y = (relP { p with bs := p.bs.set s (fillF b i y).1 } (findE b.op i).o.a ((findE b.op i).o.p * y), (0, 0, [])) := by
  unfold filF; rw [hs, hb, if_neg (by rw [h]; decide)]
def akF (p : Pm) (i : Int) : Pm × (Int × Int × List (Int × Int)) :=
  if (ackF (gB p.bs (shN p i)) i).2 ≠ 0 then (p, ((ackF (gB p.bs (shN p i)) i).2, 0, []))
  else (relP { p with bs := p.bs.set (shN p i) (ackF (gB p.bs (shN p i)) i).1 } (findE (gB p.bs (shN p i)).op i).o.a ((findE (gB p.bs (shN p i)).op i).o.p * (findE (gB p.bs (shN p i)).op i).lf), (0, 0, []))
theorem ak_no {p : Pm} {i c : Int} {s : Nat} {b : Bk} (hs : shN p i = s) (hb : gB p.bs s = b) (hc : (ackF b i).2 = c) (h : c ≠ 0) : akF p i = (p, (c, 0, [])) := by
  unfold akF; rw [hs, hb, hc, if_pos h]
theorem ak_yes {p : Pm} {i : Int} {s : Nat} {b : Bk} (hs : shN p i = s) (hb : gB p.bs s = b) (h : (ackF b i).2 = 0) : akF p i = (relP { p with bs := p.bs.set s (ackF b i).1 } (findE b.op i).o.a ((findE b.op i).o.p * (findE b.op i).lf), (0, 0, [])) := by
  unfold akF; rw [hs, hb, if_neg (by rw [h]; decide)]
theorem fill_ok {b : Bk} {i y : Int} (h : (fillF b i y).2 = 0) : posE b.op i < b.op.length ∧ 1 ≤ y ∧ y ≤ (findE b.op i).lf := by
  unfold fillF at h
  split at h
  · simp at h
  · rename_i h1
    split at h
    · rename_i h2
      split at h
      · simp at h
      · rename_i h3
        have e : findE b.op i = gE b.op (posE b.op i) := by unfold findE; rw [if_pos h2]
        exact ⟨h2, by omega, by rw [e]; omega⟩
    · simp at h
theorem ack_ok {b : Bk} {i : Int} (h : (ackF b i).2 = 0) : posE b.op i < b.op.length := by
  unfold ackF at h
  split at h
  · rename_i h2; exact h2
  · simp at h
theorem find_mem {l : List En} {i : Int} (h : posE l i < l.length) : findE l i ∈ l := by
  unfold findE; rw [if_pos h]; exact gE_mem h
theorem mul_fits {p y l : Int} (hp : 1 ≤ p) (h1 : 1 ≤ y) (h2 : y ≤ l) (h3 : p * l ≤ 9223372036854775807) : -9223372036854775808 ≤ p * y ∧ p * y ≤ 9223372036854775807 := by
  have a1 : p * y ≤ p * l := Int.mul_le_mul_of_nonneg_left h2 (by omega)
  have a2 : 0 ≤ p * y := Int.mul_nonneg (by omega) (by omega)
  omega
theorem blk_kp {w w' : World} {g gb z : Nat} {te : TypeId} {cs : Array Value} (h : Blk w z te cs) (k : Kp w w' g (some ⟨gb, 0, none⟩)) (h1 : z ≠ g) (h2 : z ≠ gb) : Blk w' z te cs :=
  (k.block z h.lt h1 (fun b hb => by have e := Option.some.inj hb; rw [← e]; exact h2)).trans h
set_option maxHeartbeats 16000000 in
theorem mfill_any (base g m : Nat) (q : Mq) (i y : Int) (w : World) (h : Hid (Mm base w g q)) (hv : Hid (Vq m q)) (hm : m ≤ 900) (hi0 : 0 ≤ i) (hi1 : i ≤ 9223372036854775807) (hyy : y ≤ 9223372036854775807) (hE : Hid (Vo q)) :
    Calls Try.prog 28 #[.pointer (some ⟨g, 0, none⟩), .int .i64 i, .int .i64 y] w (MadeDo base g q (filF (plO q) i y).1 (filF (plO q) i y).2.1 (filF (plO q) i y).2.2.1 (filF (plO q) i y).2.2.2 w) := by
  obtain ⟨sh, wi, ra, ta, A, B, C, nl, al, sl, c, d, f, nd, ac, sy, Ab, nb, cb, xs, An, Au, n1, n2, d1, d2, cl, cu, ep, off⟩ := q
  obtain ⟨v1, v2, va1, v3, v4, v5, v6, v7, v8, v9, v10⟩ := hv.out
  obtain ⟨l1, l2, l3, l4, l5, l6⟩ := (⟨h.out.l1, h.out.l2, h.out.l3, h.out.l4, h.out.l5, h.out.l6⟩ : nl = nd.length ∧ al = ac.length ∧ sl = sy.length ∧ nb = xs.length ∧ n1 = cl.length ∧ n2 = cu.length)
  have L1 := Lib.hid l1
  have L2 := Lib.hid l2
  have L3 := Lib.hid l3
  have L4 := Lib.hid l4
  have L5 := Lib.hid l5
  have L6 := Lib.hid l6
  have V4 := Lib.hid v4
  have V5 := Lib.hid v5
  have V7 := Lib.hid v7
  have V9 := Lib.hid v9
  have V10 := Lib.hid v10
  simp only at v1 v2 va1 v3 v6 v8
  obtain ⟨gb, hgb⟩ := own_at h.out.row (by show 0 < nb; simp only at v7; omega)
  simp only at hgb
  subst hgb
  have hnb : nb ≤ 1000 ∧ 1 ≤ nb := by simp only at v7; omega
  clear l1 l2 l3 l4 l5 l6 v4 v5 v7 v9 v10
  have U0 : Hid (Below w.heap.size w (w.alloc (.cells #[.int .i64 0, .int .i64 0] 43))) := (Below.refl _ _).alloc (Nat.le_refl _) _
  have Z0 : Hid (Blk (w.alloc (.cells #[.int .i64 0, .int .i64 0] 43)) w.heap.size 43 #[.int .i64 0, .int .i64 0]) := Blk.fresh _ _ _
  have M0 : Hid (Mm base (w.alloc (.cells #[.int .i64 0, .int .i64 0] 43)) g ⟨sh, wi, ra, ta, A, B, C, nl, al, sl, c, d, f, nd, ac, sy, some ⟨gb, 0, none⟩, nb, cb, xs, An, Au, n1, n2, d1, d2, cl, cu, ep, off⟩) := Mm_below h.out U0.out
  have MZ : Hid (Mz w.heap.size g ⟨sh, wi, ra, ta, A, B, C, nl, al, sl, c, d, f, nd, ac, sy, some ⟨gb, 0, none⟩, nb, cb, xs, An, Au, n1, n2, d1, d2, cl, cu, ep, off⟩) := Mz_of h.out (Nat.le_refl _)
  go_enter Try.func28, Try.ntmps28
  go_upto_region 1 with fail
  generalize hgZ : w.heap.size = gZ at Z0 MZ ⊢
  have HGZ := Lib.hid hgZ
  have HGZ' : Hid (w.heap.size ≤ gZ) := by show _ ≤ _; omega
  clear hgZ
  generalize (w.alloc (.cells #[.int .i64 0, .int .i64 0] 43)) = w0 at Z0 U0 M0 ⊢
  have K0 : Hid (Blk w0 g 82 #[.int .i64 sh, .int .i64 wi, .int .i64 ra, .int .i64 ta, .slice A nl c, .slice B al d, .slice C sl f, .slice (some ⟨gb, 0, none⟩) nb cb, .slice An n1 d1, .slice Au n2 d2, .int .i64 ep, .bool off]) := M0.out.blk
  obtain ⟨k0, k1, k2, k3, k4, k5, k6, k7, k8, k9, k10, k11, f0, f1, f2, f3, f4, f5, f6, f7, f8, f9, f10, f11⟩ := q12_of K0.out
  have HSO := shardOf_any base g ⟨sh, wi, ra, ta, A, B, C, nl, al, sl, c, d, f, nd, ac, sy, some ⟨gb, 0, none⟩, nb, cb, xs, An, Au, n1, n2, d1, d2, cl, cu, ep, off⟩ i w0 M0 ⟨by omega, hi1⟩ (by show 1 ≤ nb ∧ nb ≤ 1000; omega)
  obtain ⟨sN, hsN, hsNb⟩ := tmod_at i nb hi0 hnb.2
  simp only at HSO
  rw [hsN] at HSO
  have HSN : Hid (shN (plO ⟨sh, wi, ra, ta, A, B, C, nl, al, sl, c, d, f, nd, ac, sy, some ⟨gb, 0, none⟩, nb, cb, xs, An, Au, n1, n2, d1, d2, cl, cu, ep, off⟩) i = sN) := shN_of (n := nb) (by show nb = (xs.map Bx.b).length; rw [List.length_map]; exact L4.out) hsN
  clear hsN
  have hsx : Hid (sN < xs.length) := by show _ < _; rw [← L4.out]; exact hsNb
  have RM2 := own_room M0.out.row
  have c0 := RM2.2.2.2.2.2 (sN * 4) _ (by have := bxs_get xs sN 0 hsx.out (by decide); exact this)
  have c1 := RM2.2.2.2.2.2 (sN * 4 + 1) _ (by have := bxs_get xs sN 1 hsx.out (by decide); exact this)
  have c2 := RM2.2.2.2.2.2 (sN * 4 + 2) _ (by have := bxs_get xs sN 2 hsx.out (by decide); exact this)
  have c3 := RM2.2.2.2.2.2 (sN * 4 + 3) _ (by have := bxs_get xs sN 3 hsx.out (by decide); exact this)
  clear RM2
  have BM0 := Lib.hid (M0.out.bm sN hsx.out)
  have VB := Lib.hid (V9.out sN hsx.out)
  have HGB : Hid (gB (plO ⟨sh, wi, ra, ta, A, B, C, nl, al, sl, c, d, f, nd, ac, sy, some ⟨gb, 0, none⟩, nb, cb, xs, An, Au, n1, n2, d1, d2, cl, cu, ep, off⟩).bs sN = (gX xs sN).b) := by
    show (xs.map Bx.b).getD sN bk0 = _
    have h1 := hsx.out
    simp [gX, h1]
  obtain ⟨X, hX⟩ : ∃ X, X = gX xs sN := ⟨_, rfl⟩
  rw [← hX] at HGB
  simp only at BM0 VB
  rw [← hX] at c0 c1 c2 c3 BM0 VB
  have HX := Lib.hid hX
  clear hX
  obtain ⟨XA, XC, xc, xd, xrl, xb⟩ := X
  obtain ⟨bsh, hbsh⟩ : ∃ v, v = xb.sh := ⟨_, rfl⟩
  obtain ⟨bca, hbca⟩ : ∃ v, v = xb.ca := ⟨_, rfl⟩
  obtain ⟨nr2, hnr2⟩ : ∃ v, v = xb.rows.length := ⟨_, rfl⟩
  obtain ⟨no2, hno2⟩ : ∃ v, v = xb.op.length := ⟨_, rfl⟩
  simp only [bxV, List.getElem?_cons_zero, List.getElem?_cons_succ] at c0 c1 c2 c3
  have HSHB : Hid (bsh = xb.sh ∧ bca = xb.ca) := ⟨hbsh, hbca⟩
  have HNR2 := Lib.hid hnr2
  have HNO2 := Lib.hid hno2
  simp only at VB BM0 HGB
  have FEW := Lib.hid (VB.out.1.few (by omega))
  rw [← hbsh] at c0
  rw [← hbca] at c1
  rw [← hnr2] at c2
  rw [← hno2] at c3
  clear hbsh hbca hnr2 hno2
  have tsn : decide ((sN : Int) < (nb : Int)) = true := by simp; omega
  have EK : Hid (∀ e ∈ xb.op, EnK al e) := by
    have h1 := hE.out sN hsx.out
    simp only at h1
    rw [← HX.out] at h1
    exact h1
  have FXX := find_any bsh bca XA XC nr2 no2 xc xd xb.op i w0 HNO2 (Lib.hid BM0.out.o) (by have := FEW.out.ol; have := HNO2.out; omega)
  obtain ⟨E, hEE⟩ : ∃ E, E = findE xb.op i := ⟨_, rfl⟩
  obtain ⟨fbB, hfb⟩ : ∃ f, f = findB xb.op i := ⟨_, rfl⟩
  rw [← hEE, ← hfb] at FXX
  have HEE := Lib.hid hEE
  clear hEE hfb
  obtain ⟨eid, ⟨ea, es, ex, eP, eQ, eN, eT⟩, eL, eS, eE⟩ := E
  simp only [enA] at FXX
  go_upto_region 2 with (refine HSO.mono ?_; rintro e w1 ⟨rfl, hw1⟩; rw [hw1]; clear hw1 w1)
  go_wp2_with fail
  refine FXX.mono ?_
  rintro e w1 ⟨rfl, hb1⟩
  have U3 : Below w1.heap.size w1 (w1.alloc (.cells #[.int .i64 eid, .int .i64 ea, .int .i64 es, .bool ex, .int .i64 eP, .int .i64 eQ, .int .i64 eN, .int .i64 eT, .int .i64 eL, .int .i64 eS, .int .i64 eE] 128)) := (Below.refl _ _).alloc (Nat.le_refl _) _
  have V3 : Hid (Blk (w1.alloc (.cells #[.int .i64 eid, .int .i64 ea, .int .i64 es, .bool ex, .int .i64 eP, .int .i64 eQ, .int .i64 eN, .int .i64 eT, .int .i64 eL, .int .i64 eS, .int .i64 eE] 128)) w1.heap.size 128 #[.int .i64 eid, .int .i64 ea, .int .i64 es, .bool ex, .int .i64 eP, .int .i64 eQ, .int .i64 eN, .int .i64 eT, .int .i64 eL, .int .i64 eS, .int .i64 eE]) := Blk.fresh _ _ _
  have HBE : Hid (Below w0.heap.size w0 (w1.alloc (.cells #[.int .i64 eid, .int .i64 ea, .int .i64 es, .bool ex, .int .i64 eP, .int .i64 eQ, .int .i64 eN, .int .i64 eT, .int .i64 eL, .int .i64 eS, .int .i64 eE] 128))) := CrdB.below_step hb1 U3
  have HVL : Hid (w0.heap.size ≤ w1.heap.size) := hb1.size
  clear hb1 U3 FXX HSO
  go_upto_region 3 with fail
  clear k0 k1 k2 k3 k4 k5 k6 k7 k8 k9 k10 k11 f0 f1 f2 f3 f4 f5 f6 f7 f8 f9 f10 f11 c0 c1 c2 c3 K0
  obtain ⟨gE, hgE⟩ : ∃ k, k = w1.heap.size := ⟨_, rfl⟩
  have E3 : Hid (Blk (w1.alloc (.cells #[.int .i64 eid, .int .i64 ea, .int .i64 es, .bool ex, .int .i64 eP, .int .i64 eQ, .int .i64 eN, .int .i64 eT, .int .i64 eL, .int .i64 eS, .int .i64 eE] 128)) gE 128 #[.int .i64 eid, .int .i64 ea, .int .i64 es, .bool ex, .int .i64 eP, .int .i64 eQ, .int .i64 eN, .int .i64 eT, .int .i64 eL, .int .i64 eS, .int .i64 eE]) := by rw [hgE]; exact V3.out
  have HgE : Hid (w0.heap.size ≤ gE) := by rw [hgE]; exact HVL.out
  simp only [← hgE]
  clear hgE V3 HVL
  generalize w1.alloc (.cells #[.int .i64 eid, .int .i64 ea, .int .i64 es, .bool ex, .int .i64 eP, .int .i64 eQ, .int .i64 eN, .int .i64 eT, .int .i64 eL, .int .i64 eS, .int .i64 eE] 128) = wE at HBE E3 ⊢
  have ME := Lib.hid (Mm_below M0.out HBE.out)
  have KE : Hid (Blk wE g 82 #[.int .i64 sh, .int .i64 wi, .int .i64 ra, .int .i64 ta, .slice A nl c, .slice B al d, .slice C sl f, .slice (some ⟨gb, 0, none⟩) nb cb, .slice An n1 d1, .slice Au n2 d2, .int .i64 ep, .bool off]) := ME.out.blk
  obtain ⟨k0, k1, k2, k3, k4, k5, k6, k7, k8, k9, k10, k11, f0, f1, f2, f3, f4, f5, f6, f7, f8, f9, f10, f11⟩ := q12_of KE.out
  have RMdd := own_room ME.out.row
  have dd0 := RMdd.2.2.2.2.2 (sN * 4) _ (by have := bxs_get xs sN 0 hsx.out (by decide); rw [← HX.out] at this; exact this)
  have dd1 := RMdd.2.2.2.2.2 (sN * 4 + 1) _ (by have := bxs_get xs sN 1 hsx.out (by decide); rw [← HX.out] at this; exact this)
  have dd2 := RMdd.2.2.2.2.2 (sN * 4 + 2) _ (by have := bxs_get xs sN 2 hsx.out (by decide); rw [← HX.out] at this; exact this)
  have dd3 := RMdd.2.2.2.2.2 (sN * 4 + 3) _ (by have := bxs_get xs sN 3 hsx.out (by decide); rw [← HX.out] at this; exact this)
  simp only [bxV, List.getElem?_cons_zero, List.getElem?_cons_succ] at dd0 dd1 dd2 dd3
  rw [← HSHB.out.1] at dd0
  rw [← HSHB.out.2] at dd1
  rw [← HNR2.out] at dd2
  rw [← HNO2.out] at dd3
  clear RMdd
  have CX := fill_any bsh bca XA XC nr2 no2 xc xd xrl xb i y wE HSHB HNR2 HNO2 (Lib.hid (BM0.out.below HBE.out)) FEW (Lib.hid VB.out.1.lf) hyy
  obtain ⟨NB, hNB⟩ : ∃ b, b = (fillF xb i y).1 := ⟨_, rfl⟩
  obtain ⟨cc, hcc⟩ : ∃ c, c = (fillF xb i y).2 := ⟨_, rfl⟩
  obtain ⟨nsh, hnsh⟩ : ∃ v, v = NB.sh := ⟨_, rfl⟩
  obtain ⟨nca, hnca⟩ : ∃ v, v = NB.ca := ⟨_, rfl⟩
  obtain ⟨nr7, hnr7⟩ : ∃ v, v = NB.rows.length := ⟨_, rfl⟩
  obtain ⟨no7, hno7⟩ : ∃ v, v = NB.op.length := ⟨_, rfl⟩
  unfold MadeB2 at CX
  rw [← hNB, ← hcc] at CX
  have hbk : ∀ A7 C7 c7 d7, bkA A7 C7 c7 d7 NB = .agg #[.int .i64 nsh, .int .i64 nca, .slice A7 nr7 c7, .slice C7 no7 d7] := by
    intro A7 C7 c7 d7
    unfold bkA
    rw [hnsh, hnca, hnr7, hno7]
  simp only [hbk] at CX
  have HNB := Lib.hid hNB
  have HCC := Lib.hid hcc
  have HN7 : Hid (nsh = NB.sh ∧ nca = NB.ca ∧ nr7 = NB.rows.length ∧ no7 = NB.op.length) := ⟨hnsh, hnca, hnr7, hno7⟩
  clear hNB hcc hnsh hnca hnr7 hno7 hbk
  go_wp2_with fail
  refine CX.mono ?_
  rintro e w2 ⟨A7, C7, c7, d7, rl7, rfl, hm7, hf7, hb7⟩
  have N2 := Lib.hid hm7
  have F7 : Hid (Fb wE.heap.size A7 C7 rl7) := hf7
  have U3 : Below w2.heap.size w2 (w2.alloc (.cells #[.int .i64 nsh, .int .i64 nca, .slice A7 nr7 c7, .slice C7 no7 d7] 58)) := (Below.refl _ _).alloc (Nat.le_refl _) _
  have V3 : Hid (Blk (w2.alloc (.cells #[.int .i64 nsh, .int .i64 nca, .slice A7 nr7 c7, .slice C7 no7 d7] 58)) w2.heap.size 58 #[.int .i64 nsh, .int .i64 nca, .slice A7 nr7 c7, .slice C7 no7 d7]) := Blk.fresh _ _ _
  have HBE2 : Hid (Below wE.heap.size wE (w2.alloc (.cells #[.int .i64 nsh, .int .i64 nca, .slice A7 nr7 c7, .slice C7 no7 d7] 58))) := CrdB.below_step hb7 U3
  have HB7 : Hid (Below w0.heap.size w0 (w2.alloc (.cells #[.int .i64 nsh, .int .i64 nca, .slice A7 nr7 c7, .slice C7 no7 d7] 58))) := CrdB.below_step HBE.out HBE2.out
  have N7 : Hid (Bm (w2.alloc (.cells #[.int .i64 nsh, .int .i64 nca, .slice A7 nr7 c7, .slice C7 no7 d7] 58)) A7 C7 rl7 NB) := hm7.below U3
  have E7 : Hid (Blk (w2.alloc (.cells #[.int .i64 nsh, .int .i64 nca, .slice A7 nr7 c7, .slice C7 no7 d7] 58)) gE 128 #[.int .i64 eid, .int .i64 ea, .int .i64 es, .bool ex, .int .i64 eP, .int .i64 eQ, .int .i64 eN, .int .i64 eT, .int .i64 eL, .int .i64 eS, .int .i64 eE]) := Blk.below' E3.out HBE2.out
  have HVL : Hid (wE.heap.size ≤ w2.heap.size) := hb7.size
  clear hm7 hf7 hb7 U3 CX
  go_upto_region 4 with fail
  clear k0 k1 k2 k3 k4 k5 k6 k7 k8 k9 k10 k11 f0 f1 f2 f3 f4 f5 f6 f7 f8 f9 f10 f11 dd0 dd1 dd2 dd3 KE N2 HBE2 E3
  obtain ⟨gV, hgV⟩ : ∃ k, k = w2.heap.size := ⟨_, rfl⟩
  have V7 : Hid (Blk (w2.alloc (.cells #[.int .i64 nsh, .int .i64 nca, .slice A7 nr7 c7, .slice C7 no7 d7] 58)) gV 58 #[.int .i64 nsh, .int .i64 nca, .slice A7 nr7 c7, .slice C7 no7 d7]) := by rw [hgV]; exact V3.out
  have HVL : Hid (wE.heap.size ≤ gV) := by rw [hgV]; exact HVL.out
  simp only [← hgV]
  clear hgV V3
  generalize w2.alloc (.cells #[.int .i64 nsh, .int .i64 nca, .slice A7 nr7 c7, .slice C7 no7 d7] 58) = w3 at HB7 N7 V7 E7 ⊢
  by_cases hcc0 : cc = 0
  case neg =>
    have t1 : (cc != 0) = true := by simp [hcc0]
    go_upto_region 5 with fail
    have HP0 : Hid (filF (plO ⟨sh, wi, ra, ta, A, B, C, nl, al, sl, c, d, f, nd, ac, sy, some ⟨gb, 0, none⟩, nb, cb, xs, An, Au, n1, n2, d1, d2, cl, cu, ep, off⟩) i y = ((plO ⟨sh, wi, ra, ta, A, B, C, nl, al, sl, c, d, f, nd, ac, sy, some ⟨gb, 0, none⟩, nb, cb, xs, An, Au, n1, n2, d1, d2, cl, cu, ep, off⟩), (cc, 0, []))) := fil_no HSN.out HGB.out HCC.out.symm hcc0
    go_wp2_with fail
    refine (refused_any cc _).mono ?_
    rintro e wR ⟨rfl, hbR⟩
    have HBR := Lib.hid (CrdB.below_step HB7.out hbR)
    have MR : Hid (Mm base wR g ⟨sh, wi, ra, ta, A, B, C, nl, al, sl, c, d, f, nd, ac, sy, some ⟨gb, 0, none⟩, nb, cb, xs, An, Au, n1, n2, d1, d2, cl, cu, ep, off⟩) := Mm_below M0.out HBR.out
    have ZR : Hid (Blk wR gZ 43 #[.int .i64 0, .int .i64 0]) := Blk.below' Z0.out HBR.out
    have UR : Hid (Kp w wR g (some ⟨gb, 0, none⟩)) := Kp_of_below (CrdB.below_step U0.out HBR.out)
    clear hbR
    obtain ⟨z0, z1, z2, z3⟩ := q2b ZR.out
    have zx : (wR.setCell ⟨gZ, 0, none⟩ (.int .i64 cc)).cell? ⟨gZ, 1, none⟩ = some (.int .i64 0) := (blk_st ZR.out 0 (.int .i64 cc)).cell 1
    have F3 : Blk (st2 wR gZ (.int .i64 cc) (.int .i64 0)) gZ 43 #[.int .i64 cc, .int .i64 0] := st2_blk ZR.out
    have hfin : MadeDo base g ⟨sh, wi, ra, ta, A, B, C, nl, al, sl, c, d, f, nd, ac, sy, some ⟨gb, 0, none⟩, nb, cb, xs, An, Au, n1, n2, d1, d2, cl, cu, ep, off⟩ (plO ⟨sh, wi, ra, ta, A, B, C, nl, al, sl, c, d, f, nd, ac, sy, some ⟨gb, 0, none⟩, nb, cb, xs, An, Au, n1, n2, d1, d2, cl, cu, ep, off⟩) cc 0 [] w (.returned (.tuple #[.agg #[.int .i64 cc, .int .i64 0], .slice none 0 0])) (st2 wR gZ (.int .i64 cc) (.int .i64 0)) := by
      unfold st2
      refine madeDo_no (q := ⟨sh, wi, ra, ta, A, B, C, nl, al, sl, c, d, f, nd, ac, sy, some ⟨gb, 0, none⟩, nb, cb, xs, An, Au, n1, n2, d1, d2, cl, cu, ep, off⟩) (Mm_setz (Mm_setz MR.out MZ.out ZR.out (by decide) 0 _) MZ.out (blk_st ZR.out 0 _) (by decide) 1 _) rfl rfl ?_ (fun z _ h => Mz_same h)
      exact Kp_past (Kp_past UR.out HGZ'.out 0 _) HGZ'.out 1 _
    have HF := Lib.hid hfin
    clear hfin
    go_wp2_with fail
    obtain ⟨e0, e1, _, _⟩ := q2b F3
    clear F3
    unfold st2 at e0 e1 HF
    exact bodyPost_ret (v := .tuple #[.agg #[.int .i64 cc, .int .i64 0], .slice none 0 0]) (by simp [results, Try.results28, go_sem, e0, e1]) rfl (by first | exact HF.out | (rw [HP0.out]; exact HF.out))
  case pos =>
    have t1 : (cc != 0) = false := by simp [hcc0]
    have HC0 : (fillF xb i y).2 = 0 := by rw [← HCC.out]; exact hcc0
    have HCY := Lib.hid (fil_yes HSN.out HGB.out HC0)
    have HFB : Hid (w0.heap.size ≤ wE.heap.size) := HBE.out.size
    obtain ⟨hpp, hy1, hy2⟩ := fill_ok HC0
    rw [← HEE.out] at hy2
    simp only at hy2
    have hek := EK.out _ (find_mem hpp)
    rw [← HEE.out] at hek
    obtain ⟨ea0, ea1, eP1, eL1, eW⟩ := hek
    simp only at ea0 ea1 eP1 eL1 eW
    obtain ⟨aN, haN⟩ : ∃ k : Nat, ea = k := ⟨ea.toNat, by omega⟩
    subst haN
    have haN' : aN < al := by omega
    have hx := mul_fits (p := eP) (y := y) (l := eL) eP1 hy1 hy2 eW
    have HXX := Lib.hid hx
    clear hcc0 HC0 hy1 hy2 eW eP1 eL1 hx
    have hEb : Hid (gE ≠ gb) := by show _ ≠ _; have h1 := (Mm_lt M0.out).2 ⟨gb, 0, none⟩ rfl; have h2 : gb < w0.heap.size := h1; have := HgE.out; omega
    have hEg : Hid (gE ≠ g) := by show _ ≠ _; have h1 := (Mm_lt M0.out).1; have := HgE.out; omega
    go_upto_region 6 with fail
    have HBd : Hid (Below w0.heap.size w0 w3.drew) := Below.drew HB7.out
    have Md := Lib.hid (Mm_below M0.out HBd.out)
    have V7d : Hid (Blk w3.drew gV 58 #[.int .i64 nsh, .int .i64 nca, .slice A7 nr7 c7, .slice C7 no7 d7]) := V7.out
    have LT0 := Lib.hid (Mm_lt M0.out)
    have hgb0 : Hid (gb < w0.heap.size) := LT0.out.2 ⟨gb, 0, none⟩ rfl
    have h0f : Hid (w0.heap.size ≤ wE.heap.size) := HFB.out
    have RMhh := own_room Md.out.row
    have hh0 := RMhh.2.2.2.2.2 (sN * 4) _ (by have := bxs_get xs sN 0 hsx.out (by decide); rw [← HX.out] at this; exact this)
    have hh1 := RMhh.2.2.2.2.2 (sN * 4 + 1) _ (by have := bxs_get xs sN 1 hsx.out (by decide); rw [← HX.out] at this; exact this)
    have hh2 := RMhh.2.2.2.2.2 (sN * 4 + 2) _ (by have := bxs_get xs sN 2 hsx.out (by decide); rw [← HX.out] at this; exact this)
    have hh3 := RMhh.2.2.2.2.2 (sN * 4 + 3) _ (by have := bxs_get xs sN 3 hsx.out (by decide); rw [← HX.out] at this; exact this)
    simp only [bxV, List.getElem?_cons_zero, List.getElem?_cons_succ] at hh0 hh1 hh2 hh3
    rw [← HSHB.out.1] at hh0
    rw [← HSHB.out.2] at hh1
    rw [← HNR2.out] at hh2
    rw [← HNO2.out] at hh3
    clear RMhh
    have RMf := own_room Md.out.row
    have hcb : nb ≤ cb := RMf.2.2.1
    have hf0 := (RMf.2.2.2.2.1 (sN * 4) (show sN * 4 < cb * 4 by omega)).2
    have hf1 := (RMf.2.2.2.2.1 (sN * 4 + 1) (show sN * 4 + 1 < cb * 4 by omega)).2
    have hf2 := (RMf.2.2.2.2.1 (sN * 4 + 2) (show sN * 4 + 2 < cb * 4 by omega)).2
    have hf3 := (RMf.2.2.2.2.1 (sN * 4 + 3) (show sN * 4 + 3 < cb * 4 by omega)).2
    clear RMf hcb
    have hd1 : (w3.drew.setCell ⟨gb, sN * 4, none⟩ (.int .i64 nsh)).cell? ⟨gb, sN * 4 + 1, none⟩ = some (.int .i64 bca) := ((World.cell?_setCell_other _ _ _ _ (by intro e; injection e with e1 e2; omega)).trans hh1)
    have he1 : (w3.drew.setCell ⟨gb, sN * 4, none⟩ (.int .i64 nsh)).frozen? ⟨gb, sN * 4 + 1, none⟩ = false := by rw [World.frozen?_setCell]; exact hf1
    have hd2 : ((w3.drew.setCell ⟨gb, sN * 4, none⟩ (.int .i64 nsh)).setCell ⟨gb, sN * 4 + 1, none⟩ (.int .i64 nca)).cell? ⟨gb, sN * 4 + 2, none⟩ = some (.slice XA nr2 xc) := ((World.cell?_setCell_other _ _ _ _ (by intro e; injection e with e1 e2; omega)).trans ((World.cell?_setCell_other _ _ _ _ (by intro e; injection e with e1 e2; omega)).trans hh2))
    have he2 : ((w3.drew.setCell ⟨gb, sN * 4, none⟩ (.int .i64 nsh)).setCell ⟨gb, sN * 4 + 1, none⟩ (.int .i64 nca)).frozen? ⟨gb, sN * 4 + 2, none⟩ = false := by rw [World.frozen?_setCell, World.frozen?_setCell]; exact hf2
    have hd3 : (((w3.drew.setCell ⟨gb, sN * 4, none⟩ (.int .i64 nsh)).setCell ⟨gb, sN * 4 + 1, none⟩ (.int .i64 nca)).setCell ⟨gb, sN * 4 + 2, none⟩ (.slice A7 nr7 c7)).cell? ⟨gb, sN * 4 + 3, none⟩ = some (.slice XC no2 xd) := ((World.cell?_setCell_other _ _ _ _ (by intro e; injection e with e1 e2; omega)).trans ((World.cell?_setCell_other _ _ _ _ (by intro e; injection e with e1 e2; omega)).trans ((World.cell?_setCell_other _ _ _ _ (by intro e; injection e with e1 e2; omega)).trans hh3)))
    have he3 : (((w3.drew.setCell ⟨gb, sN * 4, none⟩ (.int .i64 nsh)).setCell ⟨gb, sN * 4 + 1, none⟩ (.int .i64 nca)).setCell ⟨gb, sN * 4 + 2, none⟩ (.slice A7 nr7 c7)).frozen? ⟨gb, sN * 4 + 3, none⟩ = false := by rw [World.frozen?_setCell, World.frozen?_setCell, World.frozen?_setCell]; exact hf3
    have HT : Hid (w3.drew.cell? ⟨g, 7, none⟩ = some (.slice (some ⟨gb, 0, none⟩) nb cb) ∧ w3.drew.cell? ⟨gV, 0, none⟩ = some (.int .i64 nsh) ∧ w3.drew.cell? ⟨gV, 1, none⟩ = some (.int .i64 nca) ∧ w3.drew.cell? ⟨gV, 2, none⟩ = some (.slice A7 nr7 c7) ∧ w3.drew.cell? ⟨gV, 3, none⟩ = some (.slice C7 no7 d7)) := ⟨Md.out.blk.cell 7, V7d.out.cell 0, V7d.out.cell 1, V7d.out.cell 2, V7d.out.cell 3⟩
    have M9 : Hid (Mm base ((((w3.drew.setCell ⟨gb, sN * 4, none⟩ (.int .i64 nsh)).setCell ⟨gb, sN * 4 + 1, none⟩ (.int .i64 nca)).setCell ⟨gb, sN * 4 + 2, none⟩ (.slice A7 nr7 c7)).setCell ⟨gb, sN * 4 + 3, none⟩ (.slice C7 no7 d7)) g ⟨sh, wi, ra, ta, A, B, C, nl, al, sl, c, d, f, nd, ac, sy, some ⟨gb, 0, none⟩, nb, cb, xs.set sN ⟨A7, C7, c7, d7, rl7, NB⟩, An, Au, n1, n2, d1, d2, cl, cu, ep, off⟩) := by
      have h9 := Mm_book Md.out rfl (i := sN) hsx.out (x := ⟨A7, C7, c7, d7, rl7, NB⟩) (show Bm w3.drew A7 C7 rl7 NB from ⟨N7.out.r, N7.out.e, N7.out.n, N7.out.o⟩) (FarX_new (base := wE.heap.size) (by have := LT0.out.1; have := h0f.out; omega) (fun b hb => by have := LT0.out.2 b hb; have := h0f.out; omega) F7.out)
      simp only [← HN7.out.1, ← HN7.out.2.1, ← HN7.out.2.2.1, ← HN7.out.2.2.2] at h9
      exact h9
    have hZb : Hid (gZ ≠ gb) := fun e => blk_own_ne Z0.out M0.out.row (by decide) (by rw [e]; rfl)
    have Z9 : Hid (Blk ((((w3.drew.setCell ⟨gb, sN * 4, none⟩ (.int .i64 nsh)).setCell ⟨gb, sN * 4 + 1, none⟩ (.int .i64 nca)).setCell ⟨gb, sN * 4 + 2, none⟩ (.slice A7 nr7 c7)).setCell ⟨gb, sN * 4 + 3, none⟩ (.slice C7 no7 d7)) gZ 43 #[.int .i64 0, .int .i64 0]) := (far_st (far_st (far_st (far_st (show Blk w3.drew gZ 43 #[.int .i64 0, .int .i64 0] from Blk.below' Z0.out HBd.out) hZb.out _) hZb.out _) hZb.out _) hZb.out _)
    have KP9 : Hid (Kp w ((((w3.drew.setCell ⟨gb, sN * 4, none⟩ (.int .i64 nsh)).setCell ⟨gb, sN * 4 + 1, none⟩ (.int .i64 nca)).setCell ⟨gb, sN * 4 + 2, none⟩ (.slice A7 nr7 c7)).setCell ⟨gb, sN * 4 + 3, none⟩ (.slice C7 no7 d7)) g (some ⟨gb, 0, none⟩)) := Kp_setb (Kp_setb (Kp_setb (Kp_setb (Kp_of_below (CrdB.below_step U0.out HBd.out)) _ _) _ _) _ _) _ _
    have HMZ9 : Hid (∀ z, z < w.heap.size → Mz z g ⟨sh, wi, ra, ta, A, B, C, nl, al, sl, c, d, f, nd, ac, sy, some ⟨gb, 0, none⟩, nb, cb, xs, An, Au, n1, n2, d1, d2, cl, cu, ep, off⟩ → Mz z g ⟨sh, wi, ra, ta, A, B, C, nl, al, sl, c, d, f, nd, ac, sy, some ⟨gb, 0, none⟩, nb, cb, xs.set sN ⟨A7, C7, c7, d7, rl7, NB⟩, An, Au, n1, n2, d1, d2, cl, cu, ep, off⟩) := by
      intro z hz hmz
      have hw0 := U0.out.size
      exact Mz_book hmz (i := sN) hsx.out (x := ⟨A7, C7, c7, d7, rl7, NB⟩) (FzB_new (base := wE.heap.size) (by have := h0f.out; omega) F7.out)
    have MZ9 : Hid (Mz gZ g ⟨sh, wi, ra, ta, A, B, C, nl, al, sl, c, d, f, nd, ac, sy, some ⟨gb, 0, none⟩, nb, cb, xs.set sN ⟨A7, C7, c7, d7, rl7, NB⟩, An, Au, n1, n2, d1, d2, cl, cu, ep, off⟩) := Mz_book MZ.out (i := sN) hsx.out (x := ⟨A7, C7, c7, d7, rl7, NB⟩) (FzB_new (base := wE.heap.size) (by have := Z0.out.lt; have := h0f.out; omega) F7.out)
    have E79 : Hid (Blk ((((w3.drew.setCell ⟨gb, sN * 4, none⟩ (.int .i64 nsh)).setCell ⟨gb, sN * 4 + 1, none⟩ (.int .i64 nca)).setCell ⟨gb, sN * 4 + 2, none⟩ (.slice A7 nr7 c7)).setCell ⟨gb, sN * 4 + 3, none⟩ (.slice C7 no7 d7)) gE 128 #[.int .i64 eid, .int .i64 (aN : Int), .int .i64 es, .bool ex, .int .i64 eP, .int .i64 eQ, .int .i64 eN, .int .i64 eT, .int .i64 eL, .int .i64 eS, .int .i64 eE]) := (far_st (far_st (far_st (far_st (show Blk w3.drew gE 128 #[.int .i64 eid, .int .i64 (aN : Int), .int .i64 es, .bool ex, .int .i64 eP, .int .i64 eQ, .int .i64 eN, .int .i64 eT, .int .i64 eL, .int .i64 eS, .int .i64 eE] from E7.out) hEb.out _) hEb.out _) hEb.out _) hEb.out _)
    go_upto_region 6 with fail
    refine wp_region_noPanic ?_
    refine wp_region_L (T := (fun w' => w'.cell? ⟨g, 7, none⟩ = some (.slice (some ⟨gb, 0, none⟩) nb cb) ∧ w'.cell? ⟨gV, 0, none⟩ = some (.int .i64 nsh) ∧ w'.cell? ⟨gV, 1, none⟩ = some (.int .i64 nca) ∧ w'.cell? ⟨gV, 2, none⟩ = some (.slice A7 nr7 c7) ∧ w'.cell? ⟨gV, 3, none⟩ = some (.slice C7 no7 d7))) (st := [7]) (by kernel_rfl) ?_
    generalize w3.drew = w8 at HBd Md V7d hh0 hh1 hh2 hh3 hf0 hf1 hf2 hf3 hd1 hd2 hd3 he1 he2 he3 HT M9 Z9 KP9 E7 E79 ⊢
    refine wpL_word (i := 0) (v := ?_) rfl (by kernel_rfl) (fun _ _ _ h => h) (by kernel_rfl) _ _ _ _ (by kernel_rfl) (by kernel_rfl) (Or.inl ⟨by rfl, ?_⟩) (fun _ => HT.out) ?_
    rotate_left
    · intro w' _
      go_simp
      try with_reducible rfl
    (try simp only [Act.put, List.getElem_toArray, List.getElem_cons_succ, List.getElem_cons_zero, List.setIfInBounds_toArray, List.set_cons_zero, List.set_cons_succ])
    refine wpL_word (i := 1) (v := ?_) rfl (by kernel_rfl) (fun _ _ _ h => h) (by kernel_rfl) _ _ _ _ (by kernel_rfl) (by kernel_rfl) (Or.inl ⟨by rfl, ?_⟩) (fun _ => HT.out) ?_
    rotate_left
    · intro w' _
      go_simp
      try with_reducible rfl
    (try simp only [Act.put, List.getElem_toArray, List.getElem_cons_succ, List.getElem_cons_zero, List.setIfInBounds_toArray, List.set_cons_zero, List.set_cons_succ])
    refine wpL_word (i := 2) (v := ?_) rfl (by kernel_rfl) (fun _ _ _ h => h) (by kernel_rfl) _ _ _ _ (by kernel_rfl) (by kernel_rfl) (Or.inl ⟨by rfl, ?_⟩) (fun _ => HT.out) ?_
    rotate_left
    · intro w' _
      go_simp
      try with_reducible rfl
    (try simp only [Act.put, List.getElem_toArray, List.getElem_cons_succ, List.getElem_cons_zero, List.setIfInBounds_toArray, List.set_cons_zero, List.set_cons_succ])
    refine wpL_load (i := 3) (v := ?_) rfl (by kernel_rfl) (fun _ _ _ h => h) (by kernel_rfl) (by kernel_rfl) _ _ _ _ (by kernel_rfl) (by kernel_rfl) (Or.inl ⟨by rfl, ?_⟩) (by kernel_rfl) HT.out ?_
    rotate_left
    · intro w' hS
      (try dsimp only at hS)
      obtain ⟨x1, x2, x3, x4, x5⟩ := hS
      go_simp
      try with_reducible rfl
    (try simp only [Act.put, List.getElem_toArray, List.getElem_cons_succ, List.getElem_cons_zero, List.setIfInBounds_toArray, List.set_cons_zero, List.set_cons_succ])
    refine wpL_word (i := 4) (v := ?_) rfl (by kernel_rfl) (fun _ _ _ h => h) (by kernel_rfl) _ _ _ _ (by kernel_rfl) (by kernel_rfl) (Or.inl ⟨by rfl, ?_⟩) (fun _ => HT.out) ?_
    rotate_left
    · intro w' _
      go_simp
      try with_reducible rfl
    (try simp only [Act.put, List.getElem_toArray, List.getElem_cons_succ, List.getElem_cons_zero, List.setIfInBounds_toArray, List.set_cons_zero, List.set_cons_succ])
    refine wpL_load (i := 5) (v := ?_) rfl (by kernel_rfl) (fun _ _ _ h => h) (by kernel_rfl) (by kernel_rfl) _ _ _ _ (by kernel_rfl) (by kernel_rfl) (Or.inl ⟨by rfl, ?_⟩) (by kernel_rfl) HT.out ?_
    rotate_left
    · intro w' hS
      (try dsimp only at hS)
      obtain ⟨x1, x2, x3, x4, x5⟩ := hS
      go_simp
      try with_reducible rfl
    (try simp only [Act.put, List.getElem_toArray, List.getElem_cons_succ, List.getElem_cons_zero, List.setIfInBounds_toArray, List.set_cons_zero, List.set_cons_succ])
    refine wpL_word (i := 6) (v := ?_) rfl (by kernel_rfl) (fun _ _ _ h => h) (by kernel_rfl) _ _ _ _ (by kernel_rfl) (by kernel_rfl) (Or.inl ⟨by rfl, ?_⟩) (fun _ => HT.out) ?_
    rotate_left
    · intro w' _
      go_simp
      try with_reducible rfl
    (try simp only [Act.put, List.getElem_toArray, List.getElem_cons_succ, List.getElem_cons_zero, List.setIfInBounds_toArray, List.set_cons_zero, List.set_cons_succ])
    refine wpL_late (n := 7) (by kernel_rfl) rfl (by kernel_rfl) (fun K' hK => ?_)
    go_simp
    refine hK.out _ _ ?_
    clear hK K'
    (try simp only [Act.put, List.getElem_toArray, List.getElem_cons_succ, List.getElem_cons_zero, List.setIfInBounds_toArray, List.set_cons_zero, List.set_cons_succ])
    refine wpL_done (by kernel_rfl) ?_ _
    refine NoPanic.normal ?_
    clear hh0 hh1 hh2 hh3 hf0 hf1 hf2 hf3 hd1 hd2 hd3 he1 he2 he3 HT V7d Md HBd
    go_upto_region 7 with fail
    generalize ((((w8.setCell ⟨gb, sN * 4, none⟩ (.int .i64 nsh)).setCell ⟨gb, sN * 4 + 1, none⟩ (.int .i64 nca)).setCell ⟨gb, sN * 4 + 2, none⟩ (.slice A7 nr7 c7)).setCell ⟨gb, sN * 4 + 3, none⟩ (.slice C7 no7 d7)) = w9 at M9 Z9 KP9 E79 ⊢
    have HAC : Hid (ac.length = al) := L2.out.symm
    have RL := mrelease_any base g aN ⟨sh, wi, ra, ta, A, B, C, nl, al, sl, c, d, f, nd, ac, sy, some ⟨gb, 0, none⟩, nb, cb, xs.set sN ⟨A7, C7, c7, d7, rl7, NB⟩, An, Au, n1, n2, d1, d2, cl, cu, ep, off⟩ es eP eQ eN eT y ex w9 M9 V10.out V5.out haN' (by show al ≤ 100; exact v2) HXX.out
    unfold MadeRl at RL
    obtain ⟨UU, hUU⟩ : ∃ u, u = Cpl.relU cl cu (gI ac aN) (eP * y) := ⟨_, rfl⟩
    simp only [← hUU] at RL
    have HUU := Lib.hid hUU
    clear hUU
    obtain ⟨j0, j1, j2, j3, j4, j5, j6, j7, j8, j9, j10⟩ := q11_of E79.out
    go_wp2_with fail
    refine RL.mono ?_
    rintro e w10 ⟨rfl, A5, A6, d5, d6, nU, hm10, fa5, fb5, hk10⟩
    have M10 : Hid (Mm base w10 g ⟨sh, wi, ra, ta, A, B, C, nl, al, sl, c, d, f, nd, ac, sy, some ⟨gb, 0, none⟩, nb, cb, xs.set sN ⟨A7, C7, c7, d7, rl7, NB⟩, A5, A6, n1, nU, d5, d6, cl, UU, ep, off⟩) := hm10
    have hZ9 : gZ < w9.heap.size := Z9.out.lt
    have Z10 : Hid (Blk w10 gZ 43 #[.int .i64 0, .int .i64 0]) := blk_kp Z9.out hk10 MZ9.out.ne hZb.out
    have KP10 : Hid (Kp w w10 g (some ⟨gb, 0, none⟩)) := Kp_trans KP9.out hk10
    have MZ10 : Hid (Mz gZ g ⟨sh, wi, ra, ta, A, B, C, nl, al, sl, c, d, f, nd, ac, sy, some ⟨gb, 0, none⟩, nb, cb, xs.set sN ⟨A7, C7, c7, d7, rl7, NB⟩, A5, A6, n1, nU, d5, d6, cl, UU, ep, off⟩) := ⟨MZ9.out.ne, MZ9.out.z1, MZ9.out.z2, MZ9.out.z3, FarE_new hZ9 fa5, FarE_new hZ9 fb5, MZ9.out.zx⟩
    have HEQ : Hid (filF (plO ⟨sh, wi, ra, ta, A, B, C, nl, al, sl, c, d, f, nd, ac, sy, some ⟨gb, 0, none⟩, nb, cb, xs, An, Au, n1, n2, d1, d2, cl, cu, ep, off⟩) i y = (plO ⟨sh, wi, ra, ta, A, B, C, nl, al, sl, c, d, f, nd, ac, sy, some ⟨gb, 0, none⟩, nb, cb, xs.set sN ⟨A7, C7, c7, d7, rl7, NB⟩, A5, A6, n1, nU, d5, d6, cl, UU, ep, off⟩, (0, 0, []))) := by
      show _ = _
      rw [HCY.out]
      unfold plO relP
      simp only [List.map_set, ← HNB.out, ← HEE.out, Int.toNat_natCast, ← HUU.out]
    have HMZ : Hid (∀ z, z < w.heap.size → Mz z g ⟨sh, wi, ra, ta, A, B, C, nl, al, sl, c, d, f, nd, ac, sy, some ⟨gb, 0, none⟩, nb, cb, xs, An, Au, n1, n2, d1, d2, cl, cu, ep, off⟩ → Mz z g ⟨sh, wi, ra, ta, A, B, C, nl, al, sl, c, d, f, nd, ac, sy, some ⟨gb, 0, none⟩, nb, cb, xs.set sN ⟨A7, C7, c7, d7, rl7, NB⟩, A5, A6, n1, nU, d5, d6, cl, UU, ep, off⟩) := by
      intro z hz hmz
      have h9 := HMZ9.out z hz hmz
      have hz9 : z < w9.heap.size := Nat.lt_of_lt_of_le hz KP9.out.size
      exact ⟨h9.ne, h9.z1, h9.z2, h9.z3, FarE_new hz9 fa5, FarE_new hz9 fb5, h9.zx⟩
    clear hm10 fa5 fb5 hk10 hZ9 j0 j1 j2 j3 j4 j5 j6 j7 j8 j9 j10 E79 M9 Z9 KP9 RL
    obtain ⟨z0, z1, z2, z3⟩ := q2b Z10.out
    have zx : (w10.setCell ⟨gZ, 0, none⟩ (.int .i64 0)).cell? ⟨gZ, 1, none⟩ = some (.int .i64 0) := (blk_st Z10.out 0 (.int .i64 0)).cell 1
    have F3 : Blk (st2 w10 gZ (.int .i64 0) (.int .i64 0)) gZ 43 #[.int .i64 0, .int .i64 0] := st2_blk Z10.out
    have hfin : MadeDo base g ⟨sh, wi, ra, ta, A, B, C, nl, al, sl, c, d, f, nd, ac, sy, some ⟨gb, 0, none⟩, nb, cb, xs, An, Au, n1, n2, d1, d2, cl, cu, ep, off⟩ (plO ⟨sh, wi, ra, ta, A, B, C, nl, al, sl, c, d, f, nd, ac, sy, some ⟨gb, 0, none⟩, nb, cb, xs.set sN ⟨A7, C7, c7, d7, rl7, NB⟩, A5, A6, n1, nU, d5, d6, cl, UU, ep, off⟩) 0 0 [] w (.returned (.tuple #[.agg #[.int .i64 0, .int .i64 0], .slice none 0 0])) (st2 w10 gZ (.int .i64 0) (.int .i64 0)) := by
      unfold st2
      refine madeDo_no (q := ⟨sh, wi, ra, ta, A, B, C, nl, al, sl, c, d, f, nd, ac, sy, some ⟨gb, 0, none⟩, nb, cb, xs.set sN ⟨A7, C7, c7, d7, rl7, NB⟩, A5, A6, n1, nU, d5, d6, cl, UU, ep, off⟩) (Mm_setz (Mm_setz M10.out MZ10.out Z10.out (by decide) 0 _) MZ10.out (blk_st Z10.out 0 _) (by decide) 1 _) rfl rfl ?_ HMZ.out
      exact Kp_past (Kp_past KP10.out HGZ'.out 0 _) HGZ'.out 1 _
    have HF := Lib.hid hfin
    clear hfin
    go_wp2_with fail
    obtain ⟨e0, e1, _, _⟩ := q2b F3
    clear F3
    unfold st2 at e0 e1 HF
    exact bodyPost_ret (v := .tuple #[.agg #[.int .i64 0, .int .i64 0], .slice none 0 0]) (by simp [results, Try.results28, go_sem, e0, e1]) rfl (by first | exact HF.out | (rw [HEQ.out]; exact HF.out))
set_option maxHeartbeats 16000000 in
theorem mack_any (base g m : Nat) (q : Mq) (i : Int) (w : World) (h : Hid (Mm base w g q)) (hv : Hid (Vq m q)) (hm : m ≤ 900) (hi0 : 0 ≤ i) (hi1 : i ≤ 9223372036854775807) (hE : Hid (Vo q)) :
    Calls Try.prog 29 #[.pointer (some ⟨g, 0, none⟩), .int .i64 i] w (MadeDo base g q (akF (plO q) i).1 (akF (plO q) i).2.1 (akF (plO q) i).2.2.1 (akF (plO q) i).2.2.2 w) := by
  obtain ⟨sh, wi, ra, ta, A, B, C, nl, al, sl, c, d, f, nd, ac, sy, Ab, nb, cb, xs, An, Au, n1, n2, d1, d2, cl, cu, ep, off⟩ := q
  obtain ⟨v1, v2, va1, v3, v4, v5, v6, v7, v8, v9, v10⟩ := hv.out
  obtain ⟨l1, l2, l3, l4, l5, l6⟩ := (⟨h.out.l1, h.out.l2, h.out.l3, h.out.l4, h.out.l5, h.out.l6⟩ : nl = nd.length ∧ al = ac.length ∧ sl = sy.length ∧ nb = xs.length ∧ n1 = cl.length ∧ n2 = cu.length)
  have L1 := Lib.hid l1
  have L2 := Lib.hid l2
  have L3 := Lib.hid l3
  have L4 := Lib.hid l4
  have L5 := Lib.hid l5
  have L6 := Lib.hid l6
  have V4 := Lib.hid v4
  have V5 := Lib.hid v5
  have V7 := Lib.hid v7
  have V9 := Lib.hid v9
  have V10 := Lib.hid v10
  simp only at v1 v2 va1 v3 v6 v8
  obtain ⟨gb, hgb⟩ := own_at h.out.row (by show 0 < nb; simp only at v7; omega)
  simp only at hgb
  subst hgb
  have hnb : nb ≤ 1000 ∧ 1 ≤ nb := by simp only at v7; omega
  clear l1 l2 l3 l4 l5 l6 v4 v5 v7 v9 v10
  have U0 : Hid (Below w.heap.size w (w.alloc (.cells #[.int .i64 0, .int .i64 0] 43))) := (Below.refl _ _).alloc (Nat.le_refl _) _
  have Z0 : Hid (Blk (w.alloc (.cells #[.int .i64 0, .int .i64 0] 43)) w.heap.size 43 #[.int .i64 0, .int .i64 0]) := Blk.fresh _ _ _
  have M0 : Hid (Mm base (w.alloc (.cells #[.int .i64 0, .int .i64 0] 43)) g ⟨sh, wi, ra, ta, A, B, C, nl, al, sl, c, d, f, nd, ac, sy, some ⟨gb, 0, none⟩, nb, cb, xs, An, Au, n1, n2, d1, d2, cl, cu, ep, off⟩) := Mm_below h.out U0.out
  have MZ : Hid (Mz w.heap.size g ⟨sh, wi, ra, ta, A, B, C, nl, al, sl, c, d, f, nd, ac, sy, some ⟨gb, 0, none⟩, nb, cb, xs, An, Au, n1, n2, d1, d2, cl, cu, ep, off⟩) := Mz_of h.out (Nat.le_refl _)
  go_enter Try.func29, Try.ntmps29
  go_upto_region 1 with fail
  generalize hgZ : w.heap.size = gZ at Z0 MZ ⊢
  have HGZ := Lib.hid hgZ
  have HGZ' : Hid (w.heap.size ≤ gZ) := by show _ ≤ _; omega
  clear hgZ
  generalize (w.alloc (.cells #[.int .i64 0, .int .i64 0] 43)) = w0 at Z0 U0 M0 ⊢
  have K0 : Hid (Blk w0 g 82 #[.int .i64 sh, .int .i64 wi, .int .i64 ra, .int .i64 ta, .slice A nl c, .slice B al d, .slice C sl f, .slice (some ⟨gb, 0, none⟩) nb cb, .slice An n1 d1, .slice Au n2 d2, .int .i64 ep, .bool off]) := M0.out.blk
  obtain ⟨k0, k1, k2, k3, k4, k5, k6, k7, k8, k9, k10, k11, f0, f1, f2, f3, f4, f5, f6, f7, f8, f9, f10, f11⟩ := q12_of K0.out
  have HSO := shardOf_any base g ⟨sh, wi, ra, ta, A, B, C, nl, al, sl, c, d, f, nd, ac, sy, some ⟨gb, 0, none⟩, nb, cb, xs, An, Au, n1, n2, d1, d2, cl, cu, ep, off⟩ i w0 M0 ⟨by omega, hi1⟩ (by show 1 ≤ nb ∧ nb ≤ 1000; omega)
  obtain ⟨sN, hsN, hsNb⟩ := tmod_at i nb hi0 hnb.2
  simp only at HSO
  rw [hsN] at HSO
  have HSN : Hid (shN (plO ⟨sh, wi, ra, ta, A, B, C, nl, al, sl, c, d, f, nd, ac, sy, some ⟨gb, 0, none⟩, nb, cb, xs, An, Au, n1, n2, d1, d2, cl, cu, ep, off⟩) i = sN) := shN_of (n := nb) (by show nb = (xs.map Bx.b).length; rw [List.length_map]; exact L4.out) hsN
  clear hsN
  have hsx : Hid (sN < xs.length) := by show _ < _; rw [← L4.out]; exact hsNb
  have RM2 := own_room M0.out.row
  have c0 := RM2.2.2.2.2.2 (sN * 4) _ (by have := bxs_get xs sN 0 hsx.out (by decide); exact this)
  have c1 := RM2.2.2.2.2.2 (sN * 4 + 1) _ (by have := bxs_get xs sN 1 hsx.out (by decide); exact this)
  have c2 := RM2.2.2.2.2.2 (sN * 4 + 2) _ (by have := bxs_get xs sN 2 hsx.out (by decide); exact this)
  have c3 := RM2.2.2.2.2.2 (sN * 4 + 3) _ (by have := bxs_get xs sN 3 hsx.out (by decide); exact this)
  clear RM2
  have BM0 := Lib.hid (M0.out.bm sN hsx.out)
  have VB := Lib.hid (V9.out sN hsx.out)
  have HGB : Hid (gB (plO ⟨sh, wi, ra, ta, A, B, C, nl, al, sl, c, d, f, nd, ac, sy, some ⟨gb, 0, none⟩, nb, cb, xs, An, Au, n1, n2, d1, d2, cl, cu, ep, off⟩).bs sN = (gX xs sN).b) := by
    show (xs.map Bx.b).getD sN bk0 = _
    have h1 := hsx.out
    simp [gX, h1]
  obtain ⟨X, hX⟩ : ∃ X, X = gX xs sN := ⟨_, rfl⟩
  rw [← hX] at HGB
  simp only at BM0 VB
  rw [← hX] at c0 c1 c2 c3 BM0 VB
  have HX := Lib.hid hX
  clear hX
  obtain ⟨XA, XC, xc, xd, xrl, xb⟩ := X
  obtain ⟨bsh, hbsh⟩ : ∃ v, v = xb.sh := ⟨_, rfl⟩
  obtain ⟨bca, hbca⟩ : ∃ v, v = xb.ca := ⟨_, rfl⟩
  obtain ⟨nr2, hnr2⟩ : ∃ v, v = xb.rows.length := ⟨_, rfl⟩
  obtain ⟨no2, hno2⟩ : ∃ v, v = xb.op.length := ⟨_, rfl⟩
  simp only [bxV, List.getElem?_cons_zero, List.getElem?_cons_succ] at c0 c1 c2 c3
  have HSHB : Hid (bsh = xb.sh ∧ bca = xb.ca) := ⟨hbsh, hbca⟩
  have HNR2 := Lib.hid hnr2
  have HNO2 := Lib.hid hno2
  simp only at VB BM0 HGB
  have FEW := Lib.hid (VB.out.1.few (by omega))
  rw [← hbsh] at c0
  rw [← hbca] at c1
  rw [← hnr2] at c2
  rw [← hno2] at c3
  clear hbsh hbca hnr2 hno2
  have tsn : decide ((sN : Int) < (nb : Int)) = true := by simp; omega
  have EK : Hid (∀ e ∈ xb.op, EnK al e) := by
    have h1 := hE.out sN hsx.out
    simp only at h1
    rw [← HX.out] at h1
    exact h1
  have FXX := find_any bsh bca XA XC nr2 no2 xc xd xb.op i w0 HNO2 (Lib.hid BM0.out.o) (by have := FEW.out.ol; have := HNO2.out; omega)
  obtain ⟨E, hEE⟩ : ∃ E, E = findE xb.op i := ⟨_, rfl⟩
  obtain ⟨fbB, hfb⟩ : ∃ f, f = findB xb.op i := ⟨_, rfl⟩
  rw [← hEE, ← hfb] at FXX
  have HEE := Lib.hid hEE
  clear hEE hfb
  obtain ⟨eid, ⟨ea, es, ex, eP, eQ, eN, eT⟩, eL, eS, eE⟩ := E
  simp only [enA] at FXX
  go_upto_region 2 with (refine HSO.mono ?_; rintro e w1 ⟨rfl, hw1⟩; rw [hw1]; clear hw1 w1)
  go_wp2_with fail
  refine FXX.mono ?_
  rintro e w1 ⟨rfl, hb1⟩
  have U3 : Below w1.heap.size w1 (w1.alloc (.cells #[.int .i64 eid, .int .i64 ea, .int .i64 es, .bool ex, .int .i64 eP, .int .i64 eQ, .int .i64 eN, .int .i64 eT, .int .i64 eL, .int .i64 eS, .int .i64 eE] 128)) := (Below.refl _ _).alloc (Nat.le_refl _) _
  have V3 : Hid (Blk (w1.alloc (.cells #[.int .i64 eid, .int .i64 ea, .int .i64 es, .bool ex, .int .i64 eP, .int .i64 eQ, .int .i64 eN, .int .i64 eT, .int .i64 eL, .int .i64 eS, .int .i64 eE] 128)) w1.heap.size 128 #[.int .i64 eid, .int .i64 ea, .int .i64 es, .bool ex, .int .i64 eP, .int .i64 eQ, .int .i64 eN, .int .i64 eT, .int .i64 eL, .int .i64 eS, .int .i64 eE]) := Blk.fresh _ _ _
  have HBE : Hid (Below w0.heap.size w0 (w1.alloc (.cells #[.int .i64 eid, .int .i64 ea, .int .i64 es, .bool ex, .int .i64 eP, .int .i64 eQ, .int .i64 eN, .int .i64 eT, .int .i64 eL, .int .i64 eS, .int .i64 eE] 128))) := CrdB.below_step hb1 U3
  have HVL : Hid (w0.heap.size ≤ w1.heap.size) := hb1.size
  clear hb1 U3 FXX HSO
  go_upto_region 3 with fail
  clear k0 k1 k2 k3 k4 k5 k6 k7 k8 k9 k10 k11 f0 f1 f2 f3 f4 f5 f6 f7 f8 f9 f10 f11 c0 c1 c2 c3 K0
  obtain ⟨gE, hgE⟩ : ∃ k, k = w1.heap.size := ⟨_, rfl⟩
  have E3 : Hid (Blk (w1.alloc (.cells #[.int .i64 eid, .int .i64 ea, .int .i64 es, .bool ex, .int .i64 eP, .int .i64 eQ, .int .i64 eN, .int .i64 eT, .int .i64 eL, .int .i64 eS, .int .i64 eE] 128)) gE 128 #[.int .i64 eid, .int .i64 ea, .int .i64 es, .bool ex, .int .i64 eP, .int .i64 eQ, .int .i64 eN, .int .i64 eT, .int .i64 eL, .int .i64 eS, .int .i64 eE]) := by rw [hgE]; exact V3.out
  have HgE : Hid (w0.heap.size ≤ gE) := by rw [hgE]; exact HVL.out
  simp only [← hgE]
  clear hgE V3 HVL
  generalize w1.alloc (.cells #[.int .i64 eid, .int .i64 ea, .int .i64 es, .bool ex, .int .i64 eP, .int .i64 eQ, .int .i64 eN, .int .i64 eT, .int .i64 eL, .int .i64 eS, .int .i64 eE] 128) = wE at HBE E3 ⊢
  have ME := Lib.hid (Mm_below M0.out HBE.out)
  have KE : Hid (Blk wE g 82 #[.int .i64 sh, .int .i64 wi, .int .i64 ra, .int .i64 ta, .slice A nl c, .slice B al d, .slice C sl f, .slice (some ⟨gb, 0, none⟩) nb cb, .slice An n1 d1, .slice Au n2 d2, .int .i64 ep, .bool off]) := ME.out.blk
  obtain ⟨k0, k1, k2, k3, k4, k5, k6, k7, k8, k9, k10, k11, f0, f1, f2, f3, f4, f5, f6, f7, f8, f9, f10, f11⟩ := q12_of KE.out
  have RMdd := own_room ME.out.row
  have dd0 := RMdd.2.2.2.2.2 (sN * 4) _ (by have := bxs_get xs sN 0 hsx.out (by decide); rw [← HX.out] at this; exact this)
  have dd1 := RMdd.2.2.2.2.2 (sN * 4 + 1) _ (by have := bxs_get xs sN 1 hsx.out (by decide); rw [← HX.out] at this; exact this)
  have dd2 := RMdd.2.2.2.2.2 (sN * 4 + 2) _ (by have := bxs_get xs sN 2 hsx.out (by decide); rw [← HX.out] at this; exact this)
  have dd3 := RMdd.2.2.2.2.2 (sN * 4 + 3) _ (by have := bxs_get xs sN 3 hsx.out (by decide); rw [← HX.out] at this; exact this)
  simp only [bxV, List.getElem?_cons_zero, List.getElem?_cons_succ] at dd0 dd1 dd2 dd3
  rw [← HSHB.out.1] at dd0
  rw [← HSHB.out.2] at dd1
  rw [← HNR2.out] at dd2
  rw [← HNO2.out] at dd3
  clear RMdd
  have CX := ack_any bsh bca XA XC nr2 no2 xc xd xrl xb i wE HSHB HNR2 HNO2 (Lib.hid (BM0.out.below HBE.out)) FEW
  obtain ⟨NB, hNB⟩ : ∃ b, b = (ackF xb i).1 := ⟨_, rfl⟩
  obtain ⟨cc, hcc⟩ : ∃ c, c = (ackF xb i).2 := ⟨_, rfl⟩
  obtain ⟨nsh, hnsh⟩ : ∃ v, v = NB.sh := ⟨_, rfl⟩
  obtain ⟨nca, hnca⟩ : ∃ v, v = NB.ca := ⟨_, rfl⟩
  obtain ⟨nr7, hnr7⟩ : ∃ v, v = NB.rows.length := ⟨_, rfl⟩
  obtain ⟨no7, hno7⟩ : ∃ v, v = NB.op.length := ⟨_, rfl⟩
  unfold MadeB2 at CX
  rw [← hNB, ← hcc] at CX
  have hbk : ∀ A7 C7 c7 d7, bkA A7 C7 c7 d7 NB = .agg #[.int .i64 nsh, .int .i64 nca, .slice A7 nr7 c7, .slice C7 no7 d7] := by
    intro A7 C7 c7 d7
    unfold bkA
    rw [hnsh, hnca, hnr7, hno7]
  simp only [hbk] at CX
  have HNB := Lib.hid hNB
  have HCC := Lib.hid hcc
  have HN7 : Hid (nsh = NB.sh ∧ nca = NB.ca ∧ nr7 = NB.rows.length ∧ no7 = NB.op.length) := ⟨hnsh, hnca, hnr7, hno7⟩
  clear hNB hcc hnsh hnca hnr7 hno7 hbk
  go_wp2_with fail
  refine CX.mono ?_
  rintro e w2 ⟨A7, C7, c7, d7, rl7, rfl, hm7, hf7, hb7⟩
  have N2 := Lib.hid hm7
  have F7 : Hid (Fb wE.heap.size A7 C7 rl7) := hf7
  have U3 : Below w2.heap.size w2 (w2.alloc (.cells #[.int .i64 nsh, .int .i64 nca, .slice A7 nr7 c7, .slice C7 no7 d7] 58)) := (Below.refl _ _).alloc (Nat.le_refl _) _
  have V3 : Hid (Blk (w2.alloc (.cells #[.int .i64 nsh, .int .i64 nca, .slice A7 nr7 c7, .slice C7 no7 d7] 58)) w2.heap.size 58 #[.int .i64 nsh, .int .i64 nca, .slice A7 nr7 c7, .slice C7 no7 d7]) := Blk.fresh _ _ _
  have HBE2 : Hid (Below wE.heap.size wE (w2.alloc (.cells #[.int .i64 nsh, .int .i64 nca, .slice A7 nr7 c7, .slice C7 no7 d7] 58))) := CrdB.below_step hb7 U3
  have HB7 : Hid (Below w0.heap.size w0 (w2.alloc (.cells #[.int .i64 nsh, .int .i64 nca, .slice A7 nr7 c7, .slice C7 no7 d7] 58))) := CrdB.below_step HBE.out HBE2.out
  have N7 : Hid (Bm (w2.alloc (.cells #[.int .i64 nsh, .int .i64 nca, .slice A7 nr7 c7, .slice C7 no7 d7] 58)) A7 C7 rl7 NB) := hm7.below U3
  have E7 : Hid (Blk (w2.alloc (.cells #[.int .i64 nsh, .int .i64 nca, .slice A7 nr7 c7, .slice C7 no7 d7] 58)) gE 128 #[.int .i64 eid, .int .i64 ea, .int .i64 es, .bool ex, .int .i64 eP, .int .i64 eQ, .int .i64 eN, .int .i64 eT, .int .i64 eL, .int .i64 eS, .int .i64 eE]) := Blk.below' E3.out HBE2.out
  have HVL : Hid (wE.heap.size ≤ w2.heap.size) := hb7.size
  clear hm7 hf7 hb7 U3 CX
  go_upto_region 4 with fail
  clear k0 k1 k2 k3 k4 k5 k6 k7 k8 k9 k10 k11 f0 f1 f2 f3 f4 f5 f6 f7 f8 f9 f10 f11 dd0 dd1 dd2 dd3 KE N2 HBE2 E3
  obtain ⟨gV, hgV⟩ : ∃ k, k = w2.heap.size := ⟨_, rfl⟩
  have V7 : Hid (Blk (w2.alloc (.cells #[.int .i64 nsh, .int .i64 nca, .slice A7 nr7 c7, .slice C7 no7 d7] 58)) gV 58 #[.int .i64 nsh, .int .i64 nca, .slice A7 nr7 c7, .slice C7 no7 d7]) := by rw [hgV]; exact V3.out
  have HVL : Hid (wE.heap.size ≤ gV) := by rw [hgV]; exact HVL.out
  simp only [← hgV]
  clear hgV V3
  generalize w2.alloc (.cells #[.int .i64 nsh, .int .i64 nca, .slice A7 nr7 c7, .slice C7 no7 d7] 58) = w3 at HB7 N7 V7 E7 ⊢
  by_cases hcc0 : cc = 0
  case neg =>
    have t1 : (cc != 0) = true := by simp [hcc0]
    go_upto_region 5 with fail
    have HP0 : Hid (akF (plO ⟨sh, wi, ra, ta, A, B, C, nl, al, sl, c, d, f, nd, ac, sy, some ⟨gb, 0, none⟩, nb, cb, xs, An, Au, n1, n2, d1, d2, cl, cu, ep, off⟩) i = ((plO ⟨sh, wi, ra, ta, A, B, C, nl, al, sl, c, d, f, nd, ac, sy, some ⟨gb, 0, none⟩, nb, cb, xs, An, Au, n1, n2, d1, d2, cl, cu, ep, off⟩), (cc, 0, []))) := ak_no HSN.out HGB.out HCC.out.symm hcc0
    go_wp2_with fail
    refine (refused_any cc _).mono ?_
    rintro e wR ⟨rfl, hbR⟩
    have HBR := Lib.hid (CrdB.below_step HB7.out hbR)
    have MR : Hid (Mm base wR g ⟨sh, wi, ra, ta, A, B, C, nl, al, sl, c, d, f, nd, ac, sy, some ⟨gb, 0, none⟩, nb, cb, xs, An, Au, n1, n2, d1, d2, cl, cu, ep, off⟩) := Mm_below M0.out HBR.out
    have ZR : Hid (Blk wR gZ 43 #[.int .i64 0, .int .i64 0]) := Blk.below' Z0.out HBR.out
    have UR : Hid (Kp w wR g (some ⟨gb, 0, none⟩)) := Kp_of_below (CrdB.below_step U0.out HBR.out)
    clear hbR
    obtain ⟨z0, z1, z2, z3⟩ := q2b ZR.out
    have zx : (wR.setCell ⟨gZ, 0, none⟩ (.int .i64 cc)).cell? ⟨gZ, 1, none⟩ = some (.int .i64 0) := (blk_st ZR.out 0 (.int .i64 cc)).cell 1
    have F3 : Blk (st2 wR gZ (.int .i64 cc) (.int .i64 0)) gZ 43 #[.int .i64 cc, .int .i64 0] := st2_blk ZR.out
    have hfin : MadeDo base g ⟨sh, wi, ra, ta, A, B, C, nl, al, sl, c, d, f, nd, ac, sy, some ⟨gb, 0, none⟩, nb, cb, xs, An, Au, n1, n2, d1, d2, cl, cu, ep, off⟩ (plO ⟨sh, wi, ra, ta, A, B, C, nl, al, sl, c, d, f, nd, ac, sy, some ⟨gb, 0, none⟩, nb, cb, xs, An, Au, n1, n2, d1, d2, cl, cu, ep, off⟩) cc 0 [] w (.returned (.tuple #[.agg #[.int .i64 cc, .int .i64 0], .slice none 0 0])) (st2 wR gZ (.int .i64 cc) (.int .i64 0)) := by
      unfold st2
      refine madeDo_no (q := ⟨sh, wi, ra, ta, A, B, C, nl, al, sl, c, d, f, nd, ac, sy, some ⟨gb, 0, none⟩, nb, cb, xs, An, Au, n1, n2, d1, d2, cl, cu, ep, off⟩) (Mm_setz (Mm_setz MR.out MZ.out ZR.out (by decide) 0 _) MZ.out (blk_st ZR.out 0 _) (by decide) 1 _) rfl rfl ?_ (fun z _ h => Mz_same h)
      exact Kp_past (Kp_past UR.out HGZ'.out 0 _) HGZ'.out 1 _
    have HF := Lib.hid hfin
    clear hfin
    go_wp2_with fail
    obtain ⟨e0, e1, _, _⟩ := q2b F3
    clear F3
    unfold st2 at e0 e1 HF
    exact bodyPost_ret (v := .tuple #[.agg #[.int .i64 cc, .int .i64 0], .slice none 0 0]) (by simp [results, Try.results29, go_sem, e0, e1]) rfl (by first | exact HF.out | (rw [HP0.out]; exact HF.out))
  case pos =>
    have t1 : (cc != 0) = false := by simp [hcc0]
    have HC0 : (ackF xb i).2 = 0 := by rw [← HCC.out]; exact hcc0
    have HCY := Lib.hid (ak_yes HSN.out HGB.out HC0)
    have HFB : Hid (w0.heap.size ≤ wE.heap.size) := HBE.out.size
    have hpp := ack_ok HC0
    have hek := EK.out _ (find_mem hpp)
    have hy1 : 1 ≤ eL := by have h1 := hek.2.2.2.1; rw [← HEE.out] at h1; exact h1
    have hy2 : eL ≤ eL := Int.le_refl _
    rw [← HEE.out] at hek
    obtain ⟨ea0, ea1, eP1, eL1, eW⟩ := hek
    simp only at ea0 ea1 eP1 eL1 eW
    obtain ⟨aN, haN⟩ : ∃ k : Nat, ea = k := ⟨ea.toNat, by omega⟩
    subst haN
    have haN' : aN < al := by omega
    have hx := mul_fits (p := eP) (y := eL) (l := eL) eP1 hy1 hy2 eW
    have HXX := Lib.hid hx
    clear hcc0 HC0 hy1 hy2 eW eP1 eL1 hx
    have hEb : Hid (gE ≠ gb) := by show _ ≠ _; have h1 := (Mm_lt M0.out).2 ⟨gb, 0, none⟩ rfl; have h2 : gb < w0.heap.size := h1; have := HgE.out; omega
    have hEg : Hid (gE ≠ g) := by show _ ≠ _; have h1 := (Mm_lt M0.out).1; have := HgE.out; omega
    go_upto_region 6 with fail
    have HBd : Hid (Below w0.heap.size w0 w3.drew) := Below.drew HB7.out
    have Md := Lib.hid (Mm_below M0.out HBd.out)
    have V7d : Hid (Blk w3.drew gV 58 #[.int .i64 nsh, .int .i64 nca, .slice A7 nr7 c7, .slice C7 no7 d7]) := V7.out
    have LT0 := Lib.hid (Mm_lt M0.out)
    have hgb0 : Hid (gb < w0.heap.size) := LT0.out.2 ⟨gb, 0, none⟩ rfl
    have h0f : Hid (w0.heap.size ≤ wE.heap.size) := HFB.out
    have RMhh := own_room Md.out.row
    have hh0 := RMhh.2.2.2.2.2 (sN * 4) _ (by have := bxs_get xs sN 0 hsx.out (by decide); rw [← HX.out] at this; exact this)
    have hh1 := RMhh.2.2.2.2.2 (sN * 4 + 1) _ (by have := bxs_get xs sN 1 hsx.out (by decide); rw [← HX.out] at this; exact this)
    have hh2 := RMhh.2.2.2.2.2 (sN * 4 + 2) _ (by have := bxs_get xs sN 2 hsx.out (by decide); rw [← HX.out] at this; exact this)
    have hh3 := RMhh.2.2.2.2.2 (sN * 4 + 3) _ (by have := bxs_get xs sN 3 hsx.out (by decide); rw [← HX.out] at this; exact this)
    simp only [bxV, List.getElem?_cons_zero, List.getElem?_cons_succ] at hh0 hh1 hh2 hh3
    rw [← HSHB.out.1] at hh0
    rw [← HSHB.out.2] at hh1
    rw [← HNR2.out] at hh2
    rw [← HNO2.out] at hh3
    clear RMhh
    have RMf := own_room Md.out.row
    have hcb : nb ≤ cb := RMf.2.2.1
    have hf0 := (RMf.2.2.2.2.1 (sN * 4) (show sN * 4 < cb * 4 by omega)).2
    have hf1 := (RMf.2.2.2.2.1 (sN * 4 + 1) (show sN * 4 + 1 < cb * 4 by omega)).2
    have hf2 := (RMf.2.2.2.2.1 (sN * 4 + 2) (show sN * 4 + 2 < cb * 4 by omega)).2
    have hf3 := (RMf.2.2.2.2.1 (sN * 4 + 3) (show sN * 4 + 3 < cb * 4 by omega)).2
    clear RMf hcb
    have hd1 : (w3.drew.setCell ⟨gb, sN * 4, none⟩ (.int .i64 nsh)).cell? ⟨gb, sN * 4 + 1, none⟩ = some (.int .i64 bca) := ((World.cell?_setCell_other _ _ _ _ (by intro e; injection e with e1 e2; omega)).trans hh1)
    have he1 : (w3.drew.setCell ⟨gb, sN * 4, none⟩ (.int .i64 nsh)).frozen? ⟨gb, sN * 4 + 1, none⟩ = false := by rw [World.frozen?_setCell]; exact hf1
    have hd2 : ((w3.drew.setCell ⟨gb, sN * 4, none⟩ (.int .i64 nsh)).setCell ⟨gb, sN * 4 + 1, none⟩ (.int .i64 nca)).cell? ⟨gb, sN * 4 + 2, none⟩ = some (.slice XA nr2 xc) := ((World.cell?_setCell_other _ _ _ _ (by intro e; injection e with e1 e2; omega)).trans ((World.cell?_setCell_other _ _ _ _ (by intro e; injection e with e1 e2; omega)).trans hh2))
    have he2 : ((w3.drew.setCell ⟨gb, sN * 4, none⟩ (.int .i64 nsh)).setCell ⟨gb, sN * 4 + 1, none⟩ (.int .i64 nca)).frozen? ⟨gb, sN * 4 + 2, none⟩ = false := by rw [World.frozen?_setCell, World.frozen?_setCell]; exact hf2
    have hd3 : (((w3.drew.setCell ⟨gb, sN * 4, none⟩ (.int .i64 nsh)).setCell ⟨gb, sN * 4 + 1, none⟩ (.int .i64 nca)).setCell ⟨gb, sN * 4 + 2, none⟩ (.slice A7 nr7 c7)).cell? ⟨gb, sN * 4 + 3, none⟩ = some (.slice XC no2 xd) := ((World.cell?_setCell_other _ _ _ _ (by intro e; injection e with e1 e2; omega)).trans ((World.cell?_setCell_other _ _ _ _ (by intro e; injection e with e1 e2; omega)).trans ((World.cell?_setCell_other _ _ _ _ (by intro e; injection e with e1 e2; omega)).trans hh3)))
    have he3 : (((w3.drew.setCell ⟨gb, sN * 4, none⟩ (.int .i64 nsh)).setCell ⟨gb, sN * 4 + 1, none⟩ (.int .i64 nca)).setCell ⟨gb, sN * 4 + 2, none⟩ (.slice A7 nr7 c7)).frozen? ⟨gb, sN * 4 + 3, none⟩ = false := by rw [World.frozen?_setCell, World.frozen?_setCell, World.frozen?_setCell]; exact hf3
    have HT : Hid (w3.drew.cell? ⟨g, 7, none⟩ = some (.slice (some ⟨gb, 0, none⟩) nb cb) ∧ w3.drew.cell? ⟨gV, 0, none⟩ = some (.int .i64 nsh) ∧ w3.drew.cell? ⟨gV, 1, none⟩ = some (.int .i64 nca) ∧ w3.drew.cell? ⟨gV, 2, none⟩ = some (.slice A7 nr7 c7) ∧ w3.drew.cell? ⟨gV, 3, none⟩ = some (.slice C7 no7 d7)) := ⟨Md.out.blk.cell 7, V7d.out.cell 0, V7d.out.cell 1, V7d.out.cell 2, V7d.out.cell 3⟩
    have M9 : Hid (Mm base ((((w3.drew.setCell ⟨gb, sN * 4, none⟩ (.int .i64 nsh)).setCell ⟨gb, sN * 4 + 1, none⟩ (.int .i64 nca)).setCell ⟨gb, sN * 4 + 2, none⟩ (.slice A7 nr7 c7)).setCell ⟨gb, sN * 4 + 3, none⟩ (.slice C7 no7 d7)) g ⟨sh, wi, ra, ta, A, B, C, nl, al, sl, c, d, f, nd, ac, sy, some ⟨gb, 0, none⟩, nb, cb, xs.set sN ⟨A7, C7, c7, d7, rl7, NB⟩, An, Au, n1, n2, d1, d2, cl, cu, ep, off⟩) := by
      have h9 := Mm_book Md.out rfl (i := sN) hsx.out (x := ⟨A7, C7, c7, d7, rl7, NB⟩) (show Bm w3.drew A7 C7 rl7 NB from ⟨N7.out.r, N7.out.e, N7.out.n, N7.out.o⟩) (FarX_new (base := wE.heap.size) (by have := LT0.out.1; have := h0f.out; omega) (fun b hb => by have := LT0.out.2 b hb; have := h0f.out; omega) F7.out)
      simp only [← HN7.out.1, ← HN7.out.2.1, ← HN7.out.2.2.1, ← HN7.out.2.2.2] at h9
      exact h9
    have hZb : Hid (gZ ≠ gb) := fun e => blk_own_ne Z0.out M0.out.row (by decide) (by rw [e]; rfl)
    have Z9 : Hid (Blk ((((w3.drew.setCell ⟨gb, sN * 4, none⟩ (.int .i64 nsh)).setCell ⟨gb, sN * 4 + 1, none⟩ (.int .i64 nca)).setCell ⟨gb, sN * 4 + 2, none⟩ (.slice A7 nr7 c7)).setCell ⟨gb, sN * 4 + 3, none⟩ (.slice C7 no7 d7)) gZ 43 #[.int .i64 0, .int .i64 0]) := (far_st (far_st (far_st (far_st (show Blk w3.drew gZ 43 #[.int .i64 0, .int .i64 0] from Blk.below' Z0.out HBd.out) hZb.out _) hZb.out _) hZb.out _) hZb.out _)
    have KP9 : Hid (Kp w ((((w3.drew.setCell ⟨gb, sN * 4, none⟩ (.int .i64 nsh)).setCell ⟨gb, sN * 4 + 1, none⟩ (.int .i64 nca)).setCell ⟨gb, sN * 4 + 2, none⟩ (.slice A7 nr7 c7)).setCell ⟨gb, sN * 4 + 3, none⟩ (.slice C7 no7 d7)) g (some ⟨gb, 0, none⟩)) := Kp_setb (Kp_setb (Kp_setb (Kp_setb (Kp_of_below (CrdB.below_step U0.out HBd.out)) _ _) _ _) _ _) _ _
    have HMZ9 : Hid (∀ z, z < w.heap.size → Mz z g ⟨sh, wi, ra, ta, A, B, C, nl, al, sl, c, d, f, nd, ac, sy, some ⟨gb, 0, none⟩, nb, cb, xs, An, Au, n1, n2, d1, d2, cl, cu, ep, off⟩ → Mz z g ⟨sh, wi, ra, ta, A, B, C, nl, al, sl, c, d, f, nd, ac, sy, some ⟨gb, 0, none⟩, nb, cb, xs.set sN ⟨A7, C7, c7, d7, rl7, NB⟩, An, Au, n1, n2, d1, d2, cl, cu, ep, off⟩) := by
      intro z hz hmz
      have hw0 := U0.out.size
      exact Mz_book hmz (i := sN) hsx.out (x := ⟨A7, C7, c7, d7, rl7, NB⟩) (FzB_new (base := wE.heap.size) (by have := h0f.out; omega) F7.out)
    have MZ9 : Hid (Mz gZ g ⟨sh, wi, ra, ta, A, B, C, nl, al, sl, c, d, f, nd, ac, sy, some ⟨gb, 0, none⟩, nb, cb, xs.set sN ⟨A7, C7, c7, d7, rl7, NB⟩, An, Au, n1, n2, d1, d2, cl, cu, ep, off⟩) := Mz_book MZ.out (i := sN) hsx.out (x := ⟨A7, C7, c7, d7, rl7, NB⟩) (FzB_new (base := wE.heap.size) (by have := Z0.out.lt; have := h0f.out; omega) F7.out)
    have E79 : Hid (Blk ((((w3.drew.setCell ⟨gb, sN * 4, none⟩ (.int .i64 nsh)).setCell ⟨gb, sN * 4 + 1, none⟩ (.int .i64 nca)).setCell ⟨gb, sN * 4 + 2, none⟩ (.slice A7 nr7 c7)).setCell ⟨gb, sN * 4 + 3, none⟩ (.slice C7 no7 d7)) gE 128 #[.int .i64 eid, .int .i64 (aN : Int), .int .i64 es, .bool ex, .int .i64 eP, .int .i64 eQ, .int .i64 eN, .int .i64 eT, .int .i64 eL, .int .i64 eS, .int .i64 eE]) := (far_st (far_st (far_st (far_st (show Blk w3.drew gE 128 #[.int .i64 eid, .int .i64 (aN : Int), .int .i64 es, .bool ex, .int .i64 eP, .int .i64 eQ, .int .i64 eN, .int .i64 eT, .int .i64 eL, .int .i64 eS, .int .i64 eE] from E7.out) hEb.out _) hEb.out _) hEb.out _) hEb.out _)
    go_upto_region 6 with fail
    refine wp_region_noPanic ?_
    refine wp_region_L (T := (fun w' => w'.cell? ⟨g, 7, none⟩ = some (.slice (some ⟨gb, 0, none⟩) nb cb) ∧ w'.cell? ⟨gV, 0, none⟩ = some (.int .i64 nsh) ∧ w'.cell? ⟨gV, 1, none⟩ = some (.int .i64 nca) ∧ w'.cell? ⟨gV, 2, none⟩ = some (.slice A7 nr7 c7) ∧ w'.cell? ⟨gV, 3, none⟩ = some (.slice C7 no7 d7))) (st := [7]) (by kernel_rfl) ?_
    generalize w3.drew = w8 at HBd Md V7d hh0 hh1 hh2 hh3 hf0 hf1 hf2 hf3 hd1 hd2 hd3 he1 he2 he3 HT M9 Z9 KP9 E7 E79 ⊢
    refine wpL_word (i := 0) (v := ?_) rfl (by kernel_rfl) (fun _ _ _ h => h) (by kernel_rfl) _ _ _ _ (by kernel_rfl) (by kernel_rfl) (Or.inl ⟨by rfl, ?_⟩) (fun _ => HT.out) ?_
    rotate_left
    · intro w' _
      go_simp
      try with_reducible rfl
    (try simp only [Act.put, List.getElem_toArray, List.getElem_cons_succ, List.getElem_cons_zero, List.setIfInBounds_toArray, List.set_cons_zero, List.set_cons_succ])
    refine wpL_word (i := 1) (v := ?_) rfl (by kernel_rfl) (fun _ _ _ h => h) (by kernel_rfl) _ _ _ _ (by kernel_rfl) (by kernel_rfl) (Or.inl ⟨by rfl, ?_⟩) (fun _ => HT.out) ?_
    rotate_left
    · intro w' _
      go_simp
      try with_reducible rfl
    (try simp only [Act.put, List.getElem_toArray, List.getElem_cons_succ, List.getElem_cons_zero, List.setIfInBounds_toArray, List.set_cons_zero, List.set_cons_succ])
    refine wpL_word (i := 2) (v := ?_) rfl (by kernel_rfl) (fun _ _ _ h => h) (by kernel_rfl) _ _ _ _ (by kernel_rfl) (by kernel_rfl) (Or.inl ⟨by rfl, ?_⟩) (fun _ => HT.out) ?_
    rotate_left
    · intro w' _
      go_simp
      try with_reducible rfl
    (try simp only [Act.put, List.getElem_toArray, List.getElem_cons_succ, List.getElem_cons_zero, List.setIfInBounds_toArray, List.set_cons_zero, List.set_cons_succ])
    refine wpL_load (i := 3) (v := ?_) rfl (by kernel_rfl) (fun _ _ _ h => h) (by kernel_rfl) (by kernel_rfl) _ _ _ _ (by kernel_rfl) (by kernel_rfl) (Or.inl ⟨by rfl, ?_⟩) (by kernel_rfl) HT.out ?_
    rotate_left
    · intro w' hS
      (try dsimp only at hS)
      obtain ⟨x1, x2, x3, x4, x5⟩ := hS
      go_simp
      try with_reducible rfl
    (try simp only [Act.put, List.getElem_toArray, List.getElem_cons_succ, List.getElem_cons_zero, List.setIfInBounds_toArray, List.set_cons_zero, List.set_cons_succ])
    refine wpL_word (i := 4) (v := ?_) rfl (by kernel_rfl) (fun _ _ _ h => h) (by kernel_rfl) _ _ _ _ (by kernel_rfl) (by kernel_rfl) (Or.inl ⟨by rfl, ?_⟩) (fun _ => HT.out) ?_
    rotate_left
    · intro w' _
      go_simp
      try with_reducible rfl
    (try simp only [Act.put, List.getElem_toArray, List.getElem_cons_succ, List.getElem_cons_zero, List.setIfInBounds_toArray, List.set_cons_zero, List.set_cons_succ])
    refine wpL_load (i := 5) (v := ?_) rfl (by kernel_rfl) (fun _ _ _ h => h) (by kernel_rfl) (by kernel_rfl) _ _ _ _ (by kernel_rfl) (by kernel_rfl) (Or.inl ⟨by rfl, ?_⟩) (by kernel_rfl) HT.out ?_
    rotate_left
    · intro w' hS
      (try dsimp only at hS)
      obtain ⟨x1, x2, x3, x4, x5⟩ := hS
      go_simp
      try with_reducible rfl
    (try simp only [Act.put, List.getElem_toArray, List.getElem_cons_succ, List.getElem_cons_zero, List.setIfInBounds_toArray, List.set_cons_zero, List.set_cons_succ])
    refine wpL_word (i := 6) (v := ?_) rfl (by kernel_rfl) (fun _ _ _ h => h) (by kernel_rfl) _ _ _ _ (by kernel_rfl) (by kernel_rfl) (Or.inl ⟨by rfl, ?_⟩) (fun _ => HT.out) ?_
    rotate_left
    · intro w' _
      go_simp
      try with_reducible rfl
    (try simp only [Act.put, List.getElem_toArray, List.getElem_cons_succ, List.getElem_cons_zero, List.setIfInBounds_toArray, List.set_cons_zero, List.set_cons_succ])
    refine wpL_late (n := 7) (by kernel_rfl) rfl (by kernel_rfl) (fun K' hK => ?_)
    go_simp
    refine hK.out _ _ ?_
    clear hK K'
    (try simp only [Act.put, List.getElem_toArray, List.getElem_cons_succ, List.getElem_cons_zero, List.setIfInBounds_toArray, List.set_cons_zero, List.set_cons_succ])
    refine wpL_done (by kernel_rfl) ?_ _
    refine NoPanic.normal ?_
    clear hh0 hh1 hh2 hh3 hf0 hf1 hf2 hf3 hd1 hd2 hd3 he1 he2 he3 HT V7d Md HBd
    go_upto_region 7 with fail
    generalize ((((w8.setCell ⟨gb, sN * 4, none⟩ (.int .i64 nsh)).setCell ⟨gb, sN * 4 + 1, none⟩ (.int .i64 nca)).setCell ⟨gb, sN * 4 + 2, none⟩ (.slice A7 nr7 c7)).setCell ⟨gb, sN * 4 + 3, none⟩ (.slice C7 no7 d7)) = w9 at M9 Z9 KP9 E79 ⊢
    have HAC : Hid (ac.length = al) := L2.out.symm
    have RL := mrelease_any base g aN ⟨sh, wi, ra, ta, A, B, C, nl, al, sl, c, d, f, nd, ac, sy, some ⟨gb, 0, none⟩, nb, cb, xs.set sN ⟨A7, C7, c7, d7, rl7, NB⟩, An, Au, n1, n2, d1, d2, cl, cu, ep, off⟩ es eP eQ eN eT eL ex w9 M9 V10.out V5.out haN' (by show al ≤ 100; exact v2) HXX.out
    unfold MadeRl at RL
    obtain ⟨UU, hUU⟩ : ∃ u, u = Cpl.relU cl cu (gI ac aN) (eP * eL) := ⟨_, rfl⟩
    simp only [← hUU] at RL
    have HUU := Lib.hid hUU
    clear hUU
    obtain ⟨j0, j1, j2, j3, j4, j5, j6, j7, j8, j9, j10⟩ := q11_of E79.out
    go_wp2_with fail
    refine RL.mono ?_
    rintro e w10 ⟨rfl, A5, A6, d5, d6, nU, hm10, fa5, fb5, hk10⟩
    have M10 : Hid (Mm base w10 g ⟨sh, wi, ra, ta, A, B, C, nl, al, sl, c, d, f, nd, ac, sy, some ⟨gb, 0, none⟩, nb, cb, xs.set sN ⟨A7, C7, c7, d7, rl7, NB⟩, A5, A6, n1, nU, d5, d6, cl, UU, ep, off⟩) := hm10
    have hZ9 : gZ < w9.heap.size := Z9.out.lt
    have Z10 : Hid (Blk w10 gZ 43 #[.int .i64 0, .int .i64 0]) := blk_kp Z9.out hk10 MZ9.out.ne hZb.out
    have KP10 : Hid (Kp w w10 g (some ⟨gb, 0, none⟩)) := Kp_trans KP9.out hk10
    have MZ10 : Hid (Mz gZ g ⟨sh, wi, ra, ta, A, B, C, nl, al, sl, c, d, f, nd, ac, sy, some ⟨gb, 0, none⟩, nb, cb, xs.set sN ⟨A7, C7, c7, d7, rl7, NB⟩, A5, A6, n1, nU, d5, d6, cl, UU, ep, off⟩) := ⟨MZ9.out.ne, MZ9.out.z1, MZ9.out.z2, MZ9.out.z3, FarE_new hZ9 fa5, FarE_new hZ9 fb5, MZ9.out.zx⟩
    have HEQ : Hid (akF (plO ⟨sh, wi, ra, ta, A, B, C, nl, al, sl, c, d, f, nd, ac, sy, some ⟨gb, 0, none⟩, nb, cb, xs, An, Au, n1, n2, d1, d2, cl, cu, ep, off⟩) i = (plO ⟨sh, wi, ra, ta, A, B, C, nl, al, sl, c, d, f, nd, ac, sy, some ⟨gb, 0, none⟩, nb, cb, xs.set sN ⟨A7, C7, c7, d7, rl7, NB⟩, A5, A6, n1, nU, d5, d6, cl, UU, ep, off⟩, (0, 0, []))) := by
      show _ = _
      rw [HCY.out]
      unfold plO relP
      simp only [List.map_set, ← HNB.out, ← HEE.out, Int.toNat_natCast, ← HUU.out]
    have HMZ : Hid (∀ z, z < w.heap.size → Mz z g ⟨sh, wi, ra, ta, A, B, C, nl, al, sl, c, d, f, nd, ac, sy, some ⟨gb, 0, none⟩, nb, cb, xs, An, Au, n1, n2, d1, d2, cl, cu, ep, off⟩ → Mz z g ⟨sh, wi, ra, ta, A, B, C, nl, al, sl, c, d, f, nd, ac, sy, some ⟨gb, 0, none⟩, nb, cb, xs.set sN ⟨A7, C7, c7, d7, rl7, NB⟩, A5, A6, n1, nU, d5, d6, cl, UU, ep, off⟩) := by
      intro z hz hmz
      have h9 := HMZ9.out z hz hmz
      have hz9 : z < w9.heap.size := Nat.lt_of_lt_of_le hz KP9.out.size
      exact ⟨h9.ne, h9.z1, h9.z2, h9.z3, FarE_new hz9 fa5, FarE_new hz9 fb5, h9.zx⟩
    clear hm10 fa5 fb5 hk10 hZ9 j0 j1 j2 j3 j4 j5 j6 j7 j8 j9 j10 E79 M9 Z9 KP9 RL
    obtain ⟨z0, z1, z2, z3⟩ := q2b Z10.out
    have zx : (w10.setCell ⟨gZ, 0, none⟩ (.int .i64 0)).cell? ⟨gZ, 1, none⟩ = some (.int .i64 0) := (blk_st Z10.out 0 (.int .i64 0)).cell 1
    have F3 : Blk (st2 w10 gZ (.int .i64 0) (.int .i64 0)) gZ 43 #[.int .i64 0, .int .i64 0] := st2_blk Z10.out
    have hfin : MadeDo base g ⟨sh, wi, ra, ta, A, B, C, nl, al, sl, c, d, f, nd, ac, sy, some ⟨gb, 0, none⟩, nb, cb, xs, An, Au, n1, n2, d1, d2, cl, cu, ep, off⟩ (plO ⟨sh, wi, ra, ta, A, B, C, nl, al, sl, c, d, f, nd, ac, sy, some ⟨gb, 0, none⟩, nb, cb, xs.set sN ⟨A7, C7, c7, d7, rl7, NB⟩, A5, A6, n1, nU, d5, d6, cl, UU, ep, off⟩) 0 0 [] w (.returned (.tuple #[.agg #[.int .i64 0, .int .i64 0], .slice none 0 0])) (st2 w10 gZ (.int .i64 0) (.int .i64 0)) := by
      unfold st2
      refine madeDo_no (q := ⟨sh, wi, ra, ta, A, B, C, nl, al, sl, c, d, f, nd, ac, sy, some ⟨gb, 0, none⟩, nb, cb, xs.set sN ⟨A7, C7, c7, d7, rl7, NB⟩, A5, A6, n1, nU, d5, d6, cl, UU, ep, off⟩) (Mm_setz (Mm_setz M10.out MZ10.out Z10.out (by decide) 0 _) MZ10.out (blk_st Z10.out 0 _) (by decide) 1 _) rfl rfl ?_ HMZ.out
      exact Kp_past (Kp_past KP10.out HGZ'.out 0 _) HGZ'.out 1 _
    have HF := Lib.hid hfin
    clear hfin
    go_wp2_with fail
    obtain ⟨e0, e1, _, _⟩ := q2b F3
    clear F3
    unfold st2 at e0 e1 HF
    exact bodyPost_ret (v := .tuple #[.agg #[.int .i64 0, .int .i64 0], .slice none 0 0]) (by simp [results, Try.results29, go_sem, e0, e1]) rfl (by first | exact HF.out | (rw [HEQ.out]; exact HF.out))
end Go.Proofs.Ytkmkaidhpbjbnaa.Mdj

/- The contract of a Model's limit. Condition: the Model lies in memory and is one that may be. -/
namespace Go.Proofs.Ytkmkaidhpbjbnaa.Mdl
set_option maxRecDepth 100000
open Go.ChangeShapes Go.WideShapes Go.ChangeAt Go.RowKit Mem Tre Ref3 Law3 Fix3 Cfg Crd CrdB CrdC Rr4 Cpl Lim Cfr Bkp Bks Bkf Bcl Dlk Stk Apt Bko Bku Bka Bkc Bkq Mdp Mdz Mds Mdo Lat
open Rul1 hiding below_step
set_option linter.unusedVariables false
set_option linter.unusedSimpArgs false
def lmtF (p : Pm) (n x : Int) : Pm × (Int × Int × List (Int × Int)) :=
  if Cpl.limF p.cl n x ≠ 0 then (p, (Cpl.limF p.cl n x, 0, [])) else ({ p with cl := Cpl.limL p.cl n x }, (0, 0, []))
theorem lmt_no {p : Pm} {n x c : Int} (hc : c = Cpl.limF p.cl n x) (h : c ≠ 0) : lmtF p n x = (p, (c, 0, [])) := by
  unfold lmtF; rw [← hc, if_pos h]
theorem lmt_yes {p : Pm} {n x c : Int} {l : List (Int × Int)} (hc : c = Cpl.limF p.cl n x) (hl : l = Cpl.limL p.cl n x) (h : c = 0) : lmtF p n x = ({ p with cl := l }, (0, 0, [])) := by
  unfold lmtF; rw [← hc, if_neg (by rw [h]; decide), ← hl]
set_option maxHeartbeats 8000000 in
theorem mlimit_any (base g m : Nat) (q : Mq) (i x : Int) (w : World) (h : Hid (Mm base w g q)) (hv : Hid (Vq m q)) (hm : m ≤ 900) (hi : inI i) (hx0 : -9223372036854775808 ≤ x) (hx1 : x ≤ 9223372036854775807) :
    Calls Try.prog 32 #[.pointer (some ⟨g, 0, none⟩), .int .i64 i, .int .i64 x] w (MadeDo base g q (lmtF (plO q) i x).1 (lmtF (plO q) i x).2.1 (lmtF (plO q) i x).2.2.1 (lmtF (plO q) i x).2.2.2 w) := by
  obtain ⟨sh, wi, ra, ta, A, B, C, nl, al, sl, c, d, f, nd, ac, sy, Ab, nb, cb, xs, An, Au, n1, n2, d1, d2, cl, cu, ep, off⟩ := q
  obtain ⟨v1, v2, va1, v3, v4, v5, v6, v7, v8, v9, v10⟩ := hv.out
  obtain ⟨l1, l2, l3, l4, l5, l6⟩ := (⟨h.out.l1, h.out.l2, h.out.l3, h.out.l4, h.out.l5, h.out.l6⟩ : nl = nd.length ∧ al = ac.length ∧ sl = sy.length ∧ nb = xs.length ∧ n1 = cl.length ∧ n2 = cu.length)
  have L1 := Lib.hid l1
  have L2 := Lib.hid l2
  have L3 := Lib.hid l3
  have L4 := Lib.hid l4
  have L5 := Lib.hid l5
  have L6 := Lib.hid l6
  have V4 := Lib.hid v4
  have V5 := Lib.hid v5
  have V7 := Lib.hid v7
  have V9 := Lib.hid v9
  have V10 := Lib.hid v10
  simp only at v1 v2 va1 v3 v6 v8
  obtain ⟨gb, hgb⟩ := own_at h.out.row (by show 0 < nb; simp only at v7; omega)
  simp only at hgb
  subst hgb
  have hnb : nb ≤ 1000 ∧ 1 ≤ nb := by simp only at v7; omega
  clear l1 l2 l3 l4 l5 l6 v4 v5 v7 v9 v10
  have U0 : Hid (Below w.heap.size w (w.alloc (.cells #[.int .i64 0, .int .i64 0] 43))) := (Below.refl _ _).alloc (Nat.le_refl _) _
  have Z0 : Hid (Blk (w.alloc (.cells #[.int .i64 0, .int .i64 0] 43)) w.heap.size 43 #[.int .i64 0, .int .i64 0]) := Blk.fresh _ _ _
  have M0 : Hid (Mm base (w.alloc (.cells #[.int .i64 0, .int .i64 0] 43)) g ⟨sh, wi, ra, ta, A, B, C, nl, al, sl, c, d, f, nd, ac, sy, some ⟨gb, 0, none⟩, nb, cb, xs, An, Au, n1, n2, d1, d2, cl, cu, ep, off⟩) := Mm_below h.out U0.out
  have MZ : Hid (Mz w.heap.size g ⟨sh, wi, ra, ta, A, B, C, nl, al, sl, c, d, f, nd, ac, sy, some ⟨gb, 0, none⟩, nb, cb, xs, An, Au, n1, n2, d1, d2, cl, cu, ep, off⟩) := Mz_of h.out (Nat.le_refl _)
  go_enter Try.func32, Try.ntmps32
  go_upto_region 1 with fail
  generalize hgZ : w.heap.size = gZ at Z0 MZ ⊢
  have HGZ := Lib.hid hgZ
  have HGZ' : Hid (w.heap.size ≤ gZ) := by show _ ≤ _; omega
  clear hgZ
  generalize (w.alloc (.cells #[.int .i64 0, .int .i64 0] 43)) = w0 at Z0 U0 M0 ⊢
  have K0 : Hid (Blk w0 g 82 #[.int .i64 sh, .int .i64 wi, .int .i64 ra, .int .i64 ta, .slice A nl c, .slice B al d, .slice C sl f, .slice (some ⟨gb, 0, none⟩) nb cb, .slice An n1 d1, .slice Au n2 d2, .int .i64 ep, .bool off]) := M0.out.blk
  obtain ⟨k0, k1, k2, k3, k4, k5, k6, k7, k8, k9, k10, k11, f0, f1, f2, f3, f4, f5, f6, f7, f8, f9, f10, f11⟩ := q12_of K0.out
  obtain ⟨cc, hcc⟩ : ∃ c, c = Cpl.limF cl i x := ⟨_, rfl⟩
  obtain ⟨CL, hCL⟩ : ∃ l, l = Cpl.limL cl i x := ⟨_, rfl⟩
  obtain ⟨nC, hnC⟩ : ∃ k, k = CL.length := ⟨_, rfl⟩
  have RS := limit_fresh An Au d1 d2 cl cu i x w0 (Lib.hid M0.out.cn) (Lib.hid M0.out.cr) V10.out hi hx0 hx1
  unfold MadeLimF at RS
  rw [← hcc, ← hCL, ← L5.out, ← L6.out] at RS
  simp only [← hnC] at RS
  have HNC := Lib.hid hnC
  have HCC := Lib.hid hcc
  have HCL := Lib.hid hCL
  clear hcc hCL hnC
  go_wp2_with fail
  refine RS.mono ?_
  rintro e w2 ⟨A5, d5, A6, d6, rfl, hn5, hu5, hb2, fa5, fb5⟩
  have U3 : Below w2.heap.size w2 (w2.alloc (.cells #[.slice A5 nC d5, .slice A6 n2 d6] 62)) := (Below.refl _ _).alloc (Nat.le_refl _) _
  have S3 : Hid (Blk (w2.alloc (.cells #[.slice A5 nC d5, .slice A6 n2 d6] 62)) w2.heap.size 62 #[.slice A5 nC d5, .slice A6 n2 d6]) := Blk.fresh _ _ _
  have HB7 : Hid (Below w0.heap.size w0 (w2.alloc (.cells #[.slice A5 nC d5, .slice A6 n2 d6] 62))) := CrdB.below_step hb2 U3
  have N5 : Hid (Nds (w2.alloc (.cells #[.slice A5 nC d5, .slice A6 n2 d6] 62)) (w2.alloc (.cells #[.slice A5 nC d5, .slice A6 n2 d6] 62)).heap.size A5 CL) := Rd.below' hn5 U3 U3.size
  have R5 : Hid (Ris (w2.alloc (.cells #[.slice A5 nC d5, .slice A6 n2 d6] 62)) (w2.alloc (.cells #[.slice A5 nC d5, .slice A6 n2 d6] 62)).heap.size A6 cu) := Rd.below' hu5 U3 U3.size
  have F5 : Hid (∀ a, A5 = some a → w0.heap.size ≤ a.block) := fa5
  have F6 : Hid (∀ a, A6 = some a → w0.heap.size ≤ a.block) := fb5
  have HVL : Hid (w0.heap.size ≤ w2.heap.size) := hb2.size
  clear hn5 hu5 hb2 fa5 fb5 U3 RS
  go_upto_region 2 with fail
  clear k0 k1 k2 k3 k4 k5 k6 k7 k8 k9 k10 k11 f0 f1 f2 f3 f4 f5 f6 f7 f8 f9 f10 f11 K0
  obtain ⟨gS, hgS⟩ : ∃ k, k = w2.heap.size := ⟨_, rfl⟩
  have S7 : Hid (Blk (w2.alloc (.cells #[.slice A5 nC d5, .slice A6 n2 d6] 62)) gS 62 #[.slice A5 nC d5, .slice A6 n2 d6]) := by rw [hgS]; exact S3.out
  have HVL : Hid (w0.heap.size ≤ gS) := by rw [hgS]; exact HVL.out
  simp only [← hgS]
  clear hgS S3
  generalize w2.alloc (.cells #[.slice A5 nC d5, .slice A6 n2 d6] 62) = w3 at HB7 N5 R5 S7 ⊢
  by_cases hcc0 : cc = 0
  case neg =>
    have t1 : (cc != 0) = true := by simp [hcc0]
    go_upto_region 3 with fail
    have HP0 : Hid (lmtF (plO ⟨sh, wi, ra, ta, A, B, C, nl, al, sl, c, d, f, nd, ac, sy, some ⟨gb, 0, none⟩, nb, cb, xs, An, Au, n1, n2, d1, d2, cl, cu, ep, off⟩) i x = ((plO ⟨sh, wi, ra, ta, A, B, C, nl, al, sl, c, d, f, nd, ac, sy, some ⟨gb, 0, none⟩, nb, cb, xs, An, Au, n1, n2, d1, d2, cl, cu, ep, off⟩), (cc, 0, []))) := lmt_no HCC.out hcc0
    go_wp2_with fail
    refine (refused_any cc _).mono ?_
    rintro e wR ⟨rfl, hbR⟩
    have HBR := Lib.hid (CrdB.below_step HB7.out hbR)
    have MR : Hid (Mm base wR g ⟨sh, wi, ra, ta, A, B, C, nl, al, sl, c, d, f, nd, ac, sy, some ⟨gb, 0, none⟩, nb, cb, xs, An, Au, n1, n2, d1, d2, cl, cu, ep, off⟩) := Mm_below M0.out HBR.out
    have ZR : Hid (Blk wR gZ 43 #[.int .i64 0, .int .i64 0]) := Blk.below' Z0.out HBR.out
    have UR : Hid (Kp w wR g (some ⟨gb, 0, none⟩)) := Kp_of_below (CrdB.below_step U0.out HBR.out)
    clear hbR
    obtain ⟨z0, z1, z2, z3⟩ := q2b ZR.out
    have zx : (wR.setCell ⟨gZ, 0, none⟩ (.int .i64 cc)).cell? ⟨gZ, 1, none⟩ = some (.int .i64 0) := (blk_st ZR.out 0 (.int .i64 cc)).cell 1
    have F3 : Blk (st2 wR gZ (.int .i64 cc) (.int .i64 0)) gZ 43 #[.int .i64 cc, .int .i64 0] := st2_blk ZR.out
    have hfin : MadeDo base g ⟨sh, wi, ra, ta, A, B, C, nl, al, sl, c, d, f, nd, ac, sy, some ⟨gb, 0, none⟩, nb, cb, xs, An, Au, n1, n2, d1, d2, cl, cu, ep, off⟩ (plO ⟨sh, wi, ra, ta, A, B, C, nl, al, sl, c, d, f, nd, ac, sy, some ⟨gb, 0, none⟩, nb, cb, xs, An, Au, n1, n2, d1, d2, cl, cu, ep, off⟩) cc 0 [] w (.returned (.tuple #[.agg #[.int .i64 cc, .int .i64 0], .slice none 0 0])) (st2 wR gZ (.int .i64 cc) (.int .i64 0)) := by
      unfold st2
      refine madeDo_no (q := ⟨sh, wi, ra, ta, A, B, C, nl, al, sl, c, d, f, nd, ac, sy, some ⟨gb, 0, none⟩, nb, cb, xs, An, Au, n1, n2, d1, d2, cl, cu, ep, off⟩) (Mm_setz (Mm_setz MR.out MZ.out ZR.out (by decide) 0 _) MZ.out (blk_st ZR.out 0 _) (by decide) 1 _) rfl rfl ?_ (fun z _ h => Mz_same h)
      exact Kp_past (Kp_past UR.out HGZ'.out 0 _) HGZ'.out 1 _
    have HF := Lib.hid hfin
    clear hfin
    go_wp2_with fail
    obtain ⟨e0, e1, _, _⟩ := q2b F3
    clear F3
    unfold st2 at e0 e1 HF
    exact bodyPost_ret (v := .tuple #[.agg #[.int .i64 cc, .int .i64 0], .slice none 0 0]) (by simp [results, Try.results32, go_sem, e0, e1]) rfl (by first | exact HF.out | (rw [HP0.out]; exact HF.out))
  case pos =>
    have t1 : (cc != 0) = false := by simp [hcc0]
    have HCY := Lib.hid (lmt_yes (p := (plO ⟨sh, wi, ra, ta, A, B, C, nl, al, sl, c, d, f, nd, ac, sy, some ⟨gb, 0, none⟩, nb, cb, xs, An, Au, n1, n2, d1, d2, cl, cu, ep, off⟩)) HCC.out HCL.out hcc0)
    clear hcc0
    go_upto_region 4 with fail
    have LT0 := Lib.hid (Mm_lt M0.out)
    have M3 := Lib.hid (Mm_below M0.out HB7.out)
    have K3 : Hid (Blk w3 g 82 #[.int .i64 sh, .int .i64 wi, .int .i64 ra, .int .i64 ta, .slice A nl c, .slice B al d, .slice C sl f, .slice (some ⟨gb, 0, none⟩) nb cb, .slice An n1 d1, .slice Au n2 d2, .int .i64 ep, .bool off]) := M3.out.blk
    have Z3 : Hid (Blk w3 gZ 43 #[.int .i64 0, .int .i64 0]) := Blk.below' Z0.out HB7.out
    have fA5 : Hid (Far g (some ⟨gb, 0, none⟩) A5 (nds CL)) := Far_new (base := w0.heap.size) LT0.out.1 LT0.out.2 F5.out
    have fA6 : Hid (Far g (some ⟨gb, 0, none⟩) A6 (ints cu)) := Far_new (base := w0.heap.size) LT0.out.1 LT0.out.2 F6.out
    have M10 : Hid (Mm base ((w3.setCell ⟨g, 8, none⟩ (.slice A5 nC d5)).setCell ⟨g, 9, none⟩ (.slice A6 n2 d6)) g ⟨sh, wi, ra, ta, A, B, C, nl, al, sl, c, d, f, nd, ac, sy, some ⟨gb, 0, none⟩, nb, cb, xs, A5, A6, nC, n2, d5, d6, CL, cu, ep, off⟩) := Mm_cr M3.out N5.out R5.out fA5.out fA6.out HNC.out L6.out
    have Z10 : Hid (Blk ((w3.setCell ⟨g, 8, none⟩ (.slice A5 nC d5)).setCell ⟨g, 9, none⟩ (.slice A6 n2 d6)) gZ 43 #[.int .i64 0, .int .i64 0]) := far_st (far_st Z3.out MZ.out.ne _) MZ.out.ne _
    have KP10 : Hid (Kp w ((w3.setCell ⟨g, 8, none⟩ (.slice A5 nC d5)).setCell ⟨g, 9, none⟩ (.slice A6 n2 d6)) g (some ⟨gb, 0, none⟩)) := Kp_setg (Kp_setg (Kp_of_below (CrdB.below_step U0.out HB7.out)) _ _) _ _
    have MZ10 : Hid (Mz gZ g ⟨sh, wi, ra, ta, A, B, C, nl, al, sl, c, d, f, nd, ac, sy, some ⟨gb, 0, none⟩, nb, cb, xs, A5, A6, nC, n2, d5, d6, CL, cu, ep, off⟩) := ⟨MZ.out.ne, MZ.out.z1, MZ.out.z2, MZ.out.z3, FarE_new Z0.out.lt F5.out, FarE_new Z0.out.lt F6.out, MZ.out.zx⟩
    obtain ⟨k0, k1, k2, k3, k4, k5, k6, k7, k8, k9, k10, k11, f0, f1, f2, f3, f4, f5, f6, f7, f8, f9, f10, f11⟩ := q12_of K3.out
    obtain ⟨s0, s1, s2, s3⟩ := q2b S7.out
    have x9 : (w3.setCell ⟨g, 8, none⟩ (.slice A5 nC d5)).cell? ⟨g, 9, none⟩ = some (.slice Au n2 d2) := (blk_st K3.out 8 (.slice A5 nC d5)).cell 9
    have y9 : (w3.setCell ⟨g, 8, none⟩ (.slice A5 nC d5)).frozen? ⟨g, 9, none⟩ = false := (blk_st K3.out 8 (.slice A5 nC d5)).thaw 9
    go_upto_region 5 with fail
    clear k0 k1 k2 k3 k4 k5 k6 k7 k8 k9 k10 k11 f0 f1 f2 f3 f4 f5 f6 f7 f8 f9 f10 f11 x9 y9 s0 s1 s2 s3 K3 M3 Z3
    generalize ((w3.setCell ⟨g, 8, none⟩ (.slice A5 nC d5)).setCell ⟨g, 9, none⟩ (.slice A6 n2 d6)) = w9 at M10 Z10 KP10 ⊢
    obtain ⟨z0, z1, z2, z3⟩ := q2b Z10.out
    have zx : (w9.setCell ⟨gZ, 0, none⟩ (.int .i64 0)).cell? ⟨gZ, 1, none⟩ = some (.int .i64 0) := (blk_st Z10.out 0 (.int .i64 0)).cell 1
    have F3 : Blk (st2 w9 gZ (.int .i64 0) (.int .i64 0)) gZ 43 #[.int .i64 0, .int .i64 0] := st2_blk Z10.out
    have hfin : MadeDo base g ⟨sh, wi, ra, ta, A, B, C, nl, al, sl, c, d, f, nd, ac, sy, some ⟨gb, 0, none⟩, nb, cb, xs, An, Au, n1, n2, d1, d2, cl, cu, ep, off⟩ (plO ⟨sh, wi, ra, ta, A, B, C, nl, al, sl, c, d, f, nd, ac, sy, some ⟨gb, 0, none⟩, nb, cb, xs, A5, A6, nC, n2, d5, d6, CL, cu, ep, off⟩) 0 0 [] w (.returned (.tuple #[.agg #[.int .i64 0, .int .i64 0], .slice none 0 0])) (st2 w9 gZ (.int .i64 0) (.int .i64 0)) := by
      unfold st2
      refine madeDo_no (q := ⟨sh, wi, ra, ta, A, B, C, nl, al, sl, c, d, f, nd, ac, sy, some ⟨gb, 0, none⟩, nb, cb, xs, A5, A6, nC, n2, d5, d6, CL, cu, ep, off⟩) (Mm_setz (Mm_setz M10.out MZ10.out Z10.out (by decide) 0 _) MZ10.out (blk_st Z10.out 0 _) (by decide) 1 _) rfl rfl ?_ (fun z hz h => ⟨h.ne, h.z1, h.z2, h.z3, FarE_new (Nat.lt_of_lt_of_le hz U0.out.size) F5.out, FarE_new (Nat.lt_of_lt_of_le hz U0.out.size) F6.out, h.zx⟩)
      exact Kp_past (Kp_past KP10.out HGZ'.out 0 _) HGZ'.out 1 _
    have HF := Lib.hid hfin
    clear hfin
    go_wp2_with fail
    obtain ⟨e0, e1, _, _⟩ := q2b F3
    clear F3
    unfold st2 at e0 e1 HF
    exact bodyPost_ret (v := .tuple #[.agg #[.int .i64 0, .int .i64 0], .slice none 0 0]) (by simp [results, Try.results32, go_sem, e0, e1]) rfl (by first | exact HF.out | (rw [HCY.out]; exact HF.out))
end Go.Proofs.Ytkmkaidhpbjbnaa.Mdl

/- Contract of book's Sweep: all of an epoch, or an earlier one, are asked to be cancelled. Condition: the book lies in memory and is not long. -/
namespace Go.Proofs.Ytkmkaidhpbjbnaa.Bkw
set_option maxRecDepth 100000
open Go.ChangeShapes Go.WideShapes Go.ChangeAt Go.RowKit Mem Tre Ref3 Law3 Crd CrdB CrdC Rr4 Bkp Bks Bkf Bcl Dlk Stk Apt Bko Bku Bka Bkc Bkq
set_option linter.unusedVariables false
set_option linter.unusedSimpArgs false
theorem infoN : (Try.prog.info? 3).map (fun i => (i.zero, i.size, i.bytes)) = some (some (.int .i64 0), 1, 8) := by kernel_rfl
def swC (ep : Int) (e : En) : Bool := decide (e.st = 1) && decide (e.ep ≤ ep)
def swE (ep : Int) (e : En) : En := if swC ep e = true then setS e 2 else e
def swI (ep : Int) (l : List En) : List Int := (l.filter (swC ep)).map En.id
def sweepF (b : Bk) (ep : Int) : Bk := ⟨b.sh, b.ca, b.rows, b.op.map (swE ep)⟩
def swO (ep : Int) (op : List En) (i : Nat) : List En := (op.take i).map (swE ep) ++ op.drop i
theorem swO_len (ep : Int) (op : List En) (i : Nat) : (swO ep op i).length = op.length := by
  unfold swO
  rw [List.length_append, List.length_map, List.length_take, List.length_drop]
  omega
theorem swO_get (ep : Int) (op : List En) (i : Nat) (hi : i < op.length) : gE (swO ep op i) i = gE op i := by
  unfold swO gE
  rw [List.getD, List.getElem?_append_right (by rw [List.length_map, List.length_take]; omega), List.length_map, List.length_take, List.getElem?_drop]
  simp only [List.getD]
  congr 2
  omega
theorem swO_succ (ep : Int) (op : List En) (i : Nat) (hi : i < op.length) : swO ep op (i + 1) = (op.take i).map (swE ep) ++ swE ep (gE op i) :: op.drop (i + 1) := by
  unfold swO
  have e : op.take (i + 1) = op.take i ++ [gE op i] := by
    rw [List.take_succ_eq_append_getElem hi]
    simp [gE, hi]
  rw [e, List.map_append, List.append_assoc]
  rfl
theorem swO_no (ep : Int) (op : List En) (i : Nat) (hi : i < op.length) (h : swC ep (gE op i) = false) : swO ep op (i + 1) = swO ep op i := by
  rw [swO_succ _ _ _ hi]
  unfold swO swE
  rw [h, if_neg (by decide)]
  congr 1
  rw [List.drop_eq_getElem_cons hi]
  simp [gE, hi]
theorem swO_yes (ep : Int) (op : List En) (i : Nat) (hi : i < op.length) (h : swC ep (gE op i) = true) : swO ep op (i + 1) = (swO ep op i).set i (setS (gE op i) 2) := by
  rw [swO_succ _ _ _ hi]
  have e2 : swE ep (gE op i) = setS (gE op i) 2 := by unfold swE; rw [if_pos h]
  rw [e2]
  unfold swO
  rw [List.set_append_right _ _ (by rw [List.length_map, List.length_take]; omega), List.length_map, List.length_take, show i - min i op.length = 0 by omega, List.drop_eq_getElem_cons hi]
  rfl
theorem swI_succ (ep : Int) (op : List En) (i : Nat) (hi : i < op.length) : swI ep (op.take (i + 1)) = swI ep (op.take i) ++ (if swC ep (gE op i) = true then [(gE op i).id] else []) := by
  have e : op.take (i + 1) = op.take i ++ [gE op i] := by
    rw [List.take_succ_eq_append_getElem hi]
    simp [gE, hi]
  unfold swI
  rw [e, List.filter_append, List.map_append]
  congr 1
  split
  · rename_i h; simp [h]
  · rename_i h; simp [h]
theorem swO_all (ep : Int) (op : List En) : swO ep op op.length = op.map (swE ep) := by simp [swO]
theorem swI_le (ep : Int) (l : List En) : (swI ep l).length ≤ l.length := by
  unfold swI
  rw [List.length_map]
  exact List.length_filter_le _ _
/-- the book so far, and the numbers of those that were asked -/
structure Sw (w0 w : World) (gB gZ : Nat) (sh ca : Int) (Ar Ao : Option Addr) (nr cr no co : Nat) (rl : List Rc) (rows : List Ro) (op : List En) (Ai : Option Addr) (ni ci : Nat) (ids : List Int) : Prop where
  kB : Blk w gB 58 #[.int .i64 sh, .int .i64 ca, .slice Ar nr cr, .slice Ao no co]
  kR : Blk w gZ 58 #[.int .i64 0, .int .i64 0, .slice none 0 0, .slice none 0 0]
  bo : Bo w0.heap.size w Ar Ao cr co rl ⟨sh, ca, rows, op⟩
  ids : w.ownsRow w0.heap.size 3 1 (.slice Ai ni ci) ni (ints ids)
  b : Below w0.heap.size w0 w
theorem Bo_below {base : Nat} {w w' : World} {A C : Option Addr} {c d : Nat} {rl : List Rc} {b : Bk} (h : Bo base w A C c d rl b) (hb : Below w.heap.size w w') : Bo base w' A C c d rl b :=
  ⟨own_below h.r hb, own_below h.o hb, h.e, fun k hk => own_below (h.own k hk) hb, h.ap⟩
theorem Bo_grown {base : Nat} {w w' : World} {A C : Option Addr} {c d : Nat} {rl : List Rc} {b : Bk} (h : Bo base w A C c d rl b) {b2 s2 n2 : Nat} {e2 : TypeId} {v2 : Value} {x2 : List Value} (k : w.ownsRow b2 e2 s2 v2 n2 x2) (h1 : 138 ≠ e2) (h2 : 128 ≠ e2) (h3 : 2 ≠ e2) (hg : w.grownBy w' v2.ownBlock) : Bo base w' A C c d rl b :=
  ⟨own_grown h.r k h1 hg, own_grown h.o k h2 hg, h.e, fun j hj => own_grown (h.own j hj) k h3 hg, h.ap⟩
theorem Sw_below {w0 w w' : World} {gB gZ : Nat} {sh ca : Int} {Ar Ao : Option Addr} {nr cr no co : Nat} {rl : List Rc} {rows : List Ro} {op : List En} {Ai : Option Addr} {ni ci : Nat} {ids : List Int} (h : Sw w0 w gB gZ sh ca Ar Ao nr cr no co rl rows op Ai ni ci ids) (hb : Below w.heap.size w w') : Sw w0 w' gB gZ sh ca Ar Ao nr cr no co rl rows op Ai ni ci ids :=
  ⟨Blk.below' h.kB hb, Blk.below' h.kR hb, Bo_below h.bo hb, own_below h.ids hb, below_step h.b hb⟩
/-- one is asked to be cancelled -/
theorem Sw_set {w0 w : World} {gB gZ : Nat} {sh ca : Int} {Ar : Option Addr} {go nr cr no co : Nat} {rl : List Rc} {rows : List Ro} {op : List En} {Ai : Option Addr} {ni ci : Nat} {ids : List Int} (h : Sw w0 w gB gZ sh ca Ar (some ⟨go, 0, none⟩) nr cr no co rl rows op Ai ni ci ids) (i : Nat) (hi : i < op.length) :
    Sw w0 (w.setCell ⟨go, i * 11 + 9, none⟩ (.int .i64 2)) gB gZ sh ca Ar (some ⟨go, 0, none⟩) nr cr no co rl rows (op.set i (setS (gE op i) 2)) Ai ni ci ids := by
  obtain ⟨s1, g1⟩ := World.ownsRow.stored h.bo.o (i * 11 + 9) (.int .i64 2)
  exact ⟨blk_own_grown h.kB h.bo.o (by decide) g1, blk_own_grown h.kR h.bo.o (by decide) g1, Bo_setE h.bo (i * 11 + 9) _ _ (by simp) (ens_setS _ _ hi _), own_grown h.ids h.bo.o (by decide) g1, h.b.setCell (p := ⟨go, i * 11 + 9, none⟩) (own_fresh h.bo.o ⟨go, 0, none⟩ rfl) _⟩
theorem Sw_app {w0 w w' : World} {gB gZ : Nat} {sh ca : Int} {Ar Ao : Option Addr} {nr cr no co : Nat} {rl : List Rc} {rows : List Ro} {op : List En} {Ai : Option Addr} {ni ci : Nat} {ids : List Int} (h : Sw w0 w gB gZ sh ca Ar Ao nr cr no co rl rows op Ai ni ci ids) {A' : Option Addr} {n' c' : Nat} {x : Int}
    (ho : w'.ownsRow w0.heap.size 3 1 (.slice A' n' c') n' (ints ids ++ [.int .i64 x])) (hg : w.grownBy w' (Value.slice Ai ni ci).ownBlock) : Sw w0 w' gB gZ sh ca Ar Ao nr cr no co rl rows op A' n' c' (ids ++ [x]) :=
  ⟨blk_own_grown h.kB h.ids (by decide) hg, blk_own_grown h.kR h.ids (by decide) hg, Bo_grown h.bo h.ids (by decide) (by decide) (by decide) hg, by rw [ints_snoc]; exact ho, grown_below h.b h.ids hg (Nat.le_refl _) h.b.size⟩
def MadeSw (b : Bk) (ids : List Int) (w : World) (e : Ending) (w' : World) : Prop :=
  ∃ A C c d rl Ai ci, e = .returned (.tuple #[bkA A C c d b, .slice Ai ids.length ci]) ∧ Bm w' A C rl b ∧ Fb w.heap.size A C rl ∧ Ris w' w'.heap.size Ai ids ∧ (∀ a, Ai = some a → w.heap.size ≤ a.block) ∧ Below w.heap.size w w'
set_option maxHeartbeats 8000000 in
theorem sweep_any (sh ca : Int) (A C : Option Addr) (nr no c d : Nat) (rl : List Rc) (bk : Bk) (ep : Int) (w : World) (hsh : Hid (sh = bk.sh ∧ ca = bk.ca)) (hnr : Hid (nr = bk.rows.length)) (hno : Hid (no = bk.op.length)) (hm : Hid (Bm w A C rl bk)) (hf : Hid (FewB bk)) :
    Calls Try.prog 45 #[.agg #[.int .i64 sh, .int .i64 ca, .slice A nr c, .slice C no d], .int .i64 ep] w (MadeSw (sweepF bk ep) (swI ep bk.op) w) := by
  obtain ⟨i0, hi, hz0, hz1, hz2⟩ := info_parts infoN
  have hl1 : nr ≤ 1000 := by rw [hnr.out]; exact hf.out.rl
  have hl2 : no ≤ 1000 := by rw [hno.out]; exact hf.out.ol
  have b0 : Hid (Below w.heap.size w ((w.alloc (.cells #[.int .i64 sh, .int .i64 ca, .slice A nr c, .slice C no d] 58)).alloc (.cells #[.int .i64 0, .int .i64 0, .slice none 0 0, .slice none 0 0] 58))) := ((Below.refl _ _).alloc (Nat.le_refl _) _).alloc (by simp) _
  have K0 : Hid (Blk ((w.alloc (.cells #[.int .i64 sh, .int .i64 ca, .slice A nr c, .slice C no d] 58)).alloc (.cells #[.int .i64 0, .int .i64 0, .slice none 0 0, .slice none 0 0] 58)) w.heap.size 58 #[.int .i64 sh, .int .i64 ca, .slice A nr c, .slice C no d]) := (Blk.fresh w _ _).alloc _
  have R0 : Hid (Blk ((w.alloc (.cells #[.int .i64 sh, .int .i64 ca, .slice A nr c, .slice C no d] 58)).alloc (.cells #[.int .i64 0, .int .i64 0, .slice none 0 0, .slice none 0 0] 58)) (w.heap.size + 1) 58 #[.int .i64 0, .int .i64 0, .slice none 0 0, .slice none 0 0]) := blk_hd (by simp)
  go_enter Try.func45, Try.ntmps45
  go_upto_region 1 with fail
  generalize ((w.alloc (.cells #[.int .i64 sh, .int .i64 ca, .slice A nr c, .slice C no d] 58)).alloc (.cells #[.int .i64 0, .int .i64 0, .slice none 0 0, .slice none 0 0] 58)) = w0 at b0 K0 R0 ⊢
  obtain ⟨gB, hgB⟩ : ∃ g, g = w.heap.size := ⟨_, rfl⟩
  obtain ⟨gZ, hgR⟩ : ∃ g, g = w.heap.size + 1 := ⟨_, rfl⟩
  have hBR : Hid (gZ ≠ gB) := by show _ ≠ _; omega
  have hLB : Hid (w.heap.size ≤ gB) := by show _ ≤ _; omega
  have hLR : Hid (w.heap.size ≤ gZ) := by show _ ≤ _; omega
  have J1 : Hid (Blk w0 gB 58 #[.int .i64 sh, .int .i64 ca, .slice A nr c, .slice C no d]) := by rw [hgB]; exact K0.out
  have J3 : Hid (Blk w0 gZ 58 #[.int .i64 0, .int .i64 0, .slice none 0 0, .slice none 0 0]) := by rw [hgR]; exact R0.out
  simp only [← hgR]
  simp only [← hgB]
  clear hgB hgR K0 R0
  obtain ⟨k0, k1, k2, k3⟩ := q4_of J1.out
  have HM : Hid (Bm w0 A C rl bk) := hm.out.below b0.out
  go_wp2_with fail
  refine (own_any sh ca A C nr no c d rl bk _ hsh hnr hno HM hf).mono ?_
  rintro e w2 ⟨Ar, Ao, cr, co, rl2, he, hbo, hb2⟩
  have hbk : bkA Ar Ao cr co bk = .agg #[.int .i64 sh, .int .i64 ca, .slice Ar nr cr, .slice Ao no co] := by unfold bkA; rw [hnr.out, hno.out, hsh.out.1, hsh.out.2]
  rw [hbk] at he
  subst he
  have HBO := Lib.hid (Bo_mono hbo b0.out.size)
  have HB2 := Lib.hid (below_step b0.out hb2)
  have L1 := Lib.hid (Blk.below' J1.out hb2)
  have L3 := Lib.hid (Blk.below' J3.out hb2)
  clear k0 k1 k2 k3 hb2 hbk hbo J1 J3 HM b0
  obtain ⟨k0, k1, k2, k3, f0, f1, f2, f3⟩ := z4_of L1.out
  have B3 : Hid (Bo w.heap.size ((((w2.setCell ⟨gB, 0, none⟩ (.int .i64 sh)).setCell ⟨gB, 1, none⟩ (.int .i64 ca)).setCell ⟨gB, 2, none⟩ (.slice Ar nr cr)).setCell ⟨gB, 3, none⟩ (.slice Ao no co)) Ar Ao cr co rl2 bk) := Bo_st4 HBO.out L1.out (by decide) (by decide) (by decide) _ _ _ _
  have P1 : Hid (Blk ((((w2.setCell ⟨gB, 0, none⟩ (.int .i64 sh)).setCell ⟨gB, 1, none⟩ (.int .i64 ca)).setCell ⟨gB, 2, none⟩ (.slice Ar nr cr)).setCell ⟨gB, 3, none⟩ (.slice Ao no co)) gB 58 #[.int .i64 sh, .int .i64 ca, .slice Ar nr cr, .slice Ao no co]) := st4_blk L1.out
  have P3 : Hid (Blk ((((w2.setCell ⟨gB, 0, none⟩ (.int .i64 sh)).setCell ⟨gB, 1, none⟩ (.int .i64 ca)).setCell ⟨gB, 2, none⟩ (.slice Ar nr cr)).setCell ⟨gB, 3, none⟩ (.slice Ao no co)) gZ 58 #[.int .i64 0, .int .i64 0, .slice none 0 0, .slice none 0 0]) := st4_far L3.out hBR.out
  have B3b : Hid (Below w.heap.size w ((((w2.setCell ⟨gB, 0, none⟩ (.int .i64 sh)).setCell ⟨gB, 1, none⟩ (.int .i64 ca)).setCell ⟨gB, 2, none⟩ (.slice Ar nr cr)).setCell ⟨gB, 3, none⟩ (.slice Ao no co))) := st4_below HB2.out hLB.out
  go_upto_region 3 with fail
  clear k0 k1 k2 k3 f0 f1 f2 f3 L1 L3 HBO HB2
  generalize ((((w2.setCell ⟨gB, 0, none⟩ (.int .i64 sh)).setCell ⟨gB, 1, none⟩ (.int .i64 ca)).setCell ⟨gB, 2, none⟩ (.slice Ar nr cr)).setCell ⟨gB, 3, none⟩ (.slice Ao no co)) = w3 at B3 P1 P3 B3b ⊢
  have SW0 : Hid (Sw w w3 gB gZ sh ca Ar Ao nr cr no co rl2 bk.rows (swO ep bk.op 0) none 0 0 (swI ep (bk.op.take 0))) := ⟨P1.out, P3.out, by have h := B3.out; exact ⟨h.r, h.o, h.e, h.own, h.ap⟩, World.ownsRow_nil _ _ _ _, B3b.out⟩
  obtain ⟨k0, k1, k2, k3⟩ := q4_of P1.out
  go_upto_region 4 with fail
  clear k0 k1 k2 k3 B3 P1 P3 B3b
  go_wp2_with fail
  go_loopg [6, 14] no (fun g s6 s14 w' => ∃ (i : Nat) (Ai : Option Addr) (ni ci : Nat), i + g = no ∧ s6 = .slice Ai ni ci ∧ s14 = .int .i64 i ∧ Hid (ni = (swI ep (bk.op.take i)).length) ∧ Hid (Sw w w' gB gZ sh ca Ar Ao nr cr no co rl2 bk.rows (swO ep bk.op i) Ai ni ci (swI ep (bk.op.take i))))
  case atStart => exact ⟨0, none, 0, 0, by omega, rfl, rfl, rfl, SW0⟩
  case round =>
    clear SW0
    obtain ⟨i, Ai, ni, ci, hg0, rfl, rfl, HNI, SWi⟩ := hrel
    by_cases hlt : i < no
    · obtain ⟨g, rfl⟩ : ∃ g, gk = g + 1 := ⟨gk - 1, by omega⟩
      have t0 : decide ((i : Int) < (no : Int)) = true := by simp; omega
      have hio : i < bk.op.length := by rw [← hno.out]; exact hlt
      have HIO := Lib.hid hio
      have hol : (swO ep bk.op i).length = bk.op.length := swO_len _ _ _
      obtain ⟨go, hgo⟩ := own_at SWi.out.bo.o (by show 0 < (swO ep bk.op i).length; omega)
      subst hgo
      obtain ⟨_, _, hncap, _, hroom, hcell⟩ := own_room SWi.out.bo.o
      have hco : no ≤ co := by rw [hno.out, ← hol]; exact hncap
      have cs := fun j (hj : j < 11) v hv => hcell (i * 11 + j) v ((ens_get (swO ep bk.op i) i j (by omega) hj).trans hv)
      rw [swO_get _ _ _ hio] at cs
      obtain ⟨E, hE⟩ : ∃ E, E = gE bk.op i := ⟨_, rfl⟩
      rw [← hE] at cs
      have HE := Lib.hid hE
      clear hE
      obtain ⟨id, ⟨a, s, x, p, q', n, tt⟩, lf, st, ep'⟩ := E
      have c0 := cs 0 (by decide) _ rfl
      have c1 := cs 1 (by decide) _ rfl
      have c2 := cs 2 (by decide) _ rfl
      have c3 := cs 3 (by decide) _ rfl
      have c4 := cs 4 (by decide) _ rfl
      have c5 := cs 5 (by decide) _ rfl
      have c6 := cs 6 (by decide) _ rfl
      have c7 := cs 7 (by decide) _ rfl
      have c8 := cs 8 (by decide) _ rfl
      have c9 := cs 9 (by decide) _ rfl
      have c10 := cs 10 (by decide) _ rfl
      simp only [Nat.add_zero] at c0
      clear cs hcell hroom
      have U5 : Hid (Below wr.heap.size wr (wr.alloc (.cells #[.int .i64 id, .int .i64 a, .int .i64 s, .bool x, .int .i64 p, .int .i64 q', .int .i64 n, .int .i64 tt, .int .i64 lf, .int .i64 st, .int .i64 ep'] 128))) := (Below.refl _ _).alloc (Nat.le_refl _) _
      have E5 : Hid (Blk (wr.alloc (.cells #[.int .i64 id, .int .i64 a, .int .i64 s, .bool x, .int .i64 p, .int .i64 q', .int .i64 n, .int .i64 tt, .int .i64 lf, .int .i64 st, .int .i64 ep'] 128)) wr.heap.size 128 #[.int .i64 id, .int .i64 a, .int .i64 s, .bool x, .int .i64 p, .int .i64 q', .int .i64 n, .int .i64 tt, .int .i64 lf, .int .i64 st, .int .i64 ep']) := Blk.fresh _ _ _
      have S5 := Lib.hid (Sw_below SWi.out U5.out)
      have hgE : Hid (go ≠ wr.heap.size) := by show _ ≠ _; have := World.ownsRow.lt SWi.out.bo.o go rfl; omega
      go_upto_region 6 with fail
      clear c0 c1 c2 c3 c4 c5 c6 c7 c8 c9 c10 U5 SWi
      generalize wr.alloc (.cells #[.int .i64 id, .int .i64 a, .int .i64 s, .bool x, .int .i64 p, .int .i64 q', .int .i64 n, .int .i64 tt, .int .i64 lf, .int .i64 st, .int .i64 ep'] 128) = w5 at E5 S5 ⊢
      generalize wr.heap.size = gE' at E5 hgE ⊢
      obtain ⟨e0, e1, e2, e3, e4, e5, e6, e7, e8, e9, e10⟩ := q11_of E5.out
      by_cases hst : st = 1
      · have t1 : (st == 1) = true := by simp [hst]
        by_cases hep : ep' ≤ ep
        · have t2 : decide (ep' ≤ ep) = true := by simp [hep]
          have hC : swC ep (gE bk.op i) = true := by rw [← HE.out]; unfold swC; simp [hst, hep]
          have HO := Lib.hid (swO_yes ep bk.op i hio hC)
          have HI2 := Lib.hid (swI_succ ep bk.op i hio)
          rw [hC, if_pos rfl, ← HE.out] at HI2
          have HID : Hid ((⟨id, ⟨a, s, x, p, q', n, tt⟩, lf, st, ep'⟩ : En).id = id) := rfl
          rw [HID.out] at HI2
          have hnl : ni ≤ 1000 := by rw [HNI.out]; have := swI_le ep (bk.op.take i); rw [List.length_take] at this; omega
          clear hst hC
          obtain ⟨k0, k1, k2, k3⟩ := q4_of S5.out.kB
          obtain ⟨_, _, _, _, hroom, hcell⟩ := own_room S5.out.bo.o
          have d9 := hcell (i * 11 + 9) _ (ens_get (swO ep bk.op i) i 9 (by omega) (by decide))
          have g9 := (hroom (i * 11 + 9) (by omega)).2
          clear hroom hcell
          have S6 : Hid (Sw w (w5.setCell ⟨go, i * 11 + 9, none⟩ (.int .i64 2)) gB gZ sh ca Ar (some ⟨go, 0, none⟩) nr cr no co rl2 bk.rows (swO ep bk.op (i + 1)) Ai ni ci (swI ep (bk.op.take i))) := by
            rw [HO.out, ← swO_get ep bk.op i hio]
            exact Sw_set S5.out i (by omega)
          have E6 : Hid (Blk (w5.setCell ⟨go, i * 11 + 9, none⟩ (.int .i64 2)) gE' 128 #[.int .i64 id, .int .i64 a, .int .i64 s, .bool x, .int .i64 p, .int .i64 q', .int .i64 n, .int .i64 tt, .int .i64 lf, .int .i64 st, .int .i64 ep']) := far_st E5.out (fun e => hgE.out e.symm) _
          go_upto_region 8 with fail
          clear k0 k1 k2 k3 d9 g9 e0 e1 e2 e3 e4 e5 e6 e7 e8 e9 e10 E5 S5 HO
          generalize w5.setCell ⟨go, i * 11 + 9, none⟩ (.int .i64 2) = w6 at S6 E6 ⊢
          obtain ⟨e0, e1, e2, e3, e4, e5, e6, e7, e8, e9, e10⟩ := q11_of E6.out
          obtain ⟨ni1, hni1⟩ : ∃ m, m = ni + 1 := ⟨_, rfl⟩
          have HN1 := Lib.hid hni1
          clear hni1
          have V0 : Hid (Below w6.heap.size w6 (w6.alloc (.cells #[.int .i64 id] 3))) := (Below.refl _ _).alloc (Nat.le_refl _) _
          have V1 := Lib.hid (Sw_below S6.out V0.out)
          have V2 : Hid (Rd (w6.alloc (.cells #[.int .i64 id] 3)) (w6.alloc (.cells #[.int .i64 id] 3)).heap.size (some ⟨w6.heap.size, 0, none⟩) [.int .i64 id]) := rd_new rfl
          have V3 : Hid (w.heap.size ≤ (w6.alloc (.cells #[.int .i64 id] 3)).heap.size) := V1.out.b.size
          go_wp2_with (at_builtin; go_loud (refine wpList_appRG (nm := ni1) (show Hid _ from V1.out.ids) V2 HN1.out rfl _ _ _ rfl i0 (.int .i64 0) 8 Try.underlying23 hi hz0 hz1 hz2 rfl (by decide) rfl rfl (by simp) (by simp [Value.oneCell']) (by unfold maxLen; omega) (by omega) V3.out ?_); intro A6 c6 w7 hown1 hgr1)
          have S7 := Lib.hid (Sw_app V1.out hown1.out hgr1)
          rw [← HI2.out] at S7
          have HN7 : Hid (ni1 = (swI ep (bk.op.take (i + 1))).length) := by show _ = _; rw [HI2.out, List.length_append, HN1.out, HNI.out]; rfl
          clear hgr1 hown1 V0 V1 V2 V3 e0 e1 e2 e3 e4 e5 e6 e7 e8 e9 e10 S6 E6 HI2
          go_roundg g
          case measure => omega
          case rel => exact ⟨i + 1, A6, ni1, c6, by omega, rfl, by rw [Int.natCast_add]; rfl, HN7, S7⟩
        · have t2 : decide (ep' ≤ ep) = false := by simp only [decide_eq_false_iff_not]; exact hep
          have hC : swC ep (gE bk.op i) = false := by rw [← HE.out]; unfold swC; simp [hep]
          have HO := Lib.hid (swO_no ep bk.op i hio hC)
          have HI2 := Lib.hid (swI_succ ep bk.op i hio)
          rw [hC, if_neg (by decide), List.append_nil] at HI2
          have S7 : Hid (Sw w w5 gB gZ sh ca Ar (some ⟨go, 0, none⟩) nr cr no co rl2 bk.rows (swO ep bk.op (i + 1)) Ai ni ci (swI ep (bk.op.take (i + 1)))) := by rw [HO.out, HI2.out]; exact S5.out
          have HN7 : Hid (ni = (swI ep (bk.op.take (i + 1))).length) := by show _ = _; rw [HI2.out]; exact HNI.out
          clear hC HO HI2
          go_wp2_with fail
          go_roundg g
          case measure => omega
          case rel => exact ⟨i + 1, Ai, ni, ci, by omega, rfl, by rw [Int.natCast_add]; rfl, HN7, S7⟩
      · have t1 : (st == 1) = false := by simp [hst]
        have hC : swC ep (gE bk.op i) = false := by rw [← HE.out]; unfold swC; simp [hst]
        have HO := Lib.hid (swO_no ep bk.op i hio hC)
        have HI2 := Lib.hid (swI_succ ep bk.op i hio)
        rw [hC, if_neg (by decide), List.append_nil] at HI2
        have S7 : Hid (Sw w w5 gB gZ sh ca Ar (some ⟨go, 0, none⟩) nr cr no co rl2 bk.rows (swO ep bk.op (i + 1)) Ai ni ci (swI ep (bk.op.take (i + 1)))) := by rw [HO.out, HI2.out]; exact S5.out
        have HN7 : Hid (ni = (swI ep (bk.op.take (i + 1))).length) := by show _ = _; rw [HI2.out]; exact HNI.out
        clear hC HO HI2
        go_wp2_with fail
        go_roundg g
        case measure => omega
        case rel => exact ⟨i + 1, Ai, ni, ci, by omega, rfl, by rw [Int.natCast_add]; rfl, HN7, S7⟩
    · have t0 : decide ((i : Int) < (no : Int)) = false := by simp; omega
      have hin : i = no := by omega
      have hall : Hid (swO ep bk.op i = bk.op.map (swE ep)) := by show _ = _; rw [hin, hno.out]; exact swO_all _ _
      have hids : Hid (swI ep (bk.op.take i) = swI ep bk.op) := by show _ = _; rw [hin, hno.out, List.take_length]
      have S9 := SWi.out
      rw [hall.out, hids.out] at S9
      rw [hids.out] at HNI
      have F3 : Blk (st4 wr gZ (.int .i64 sh) (.int .i64 ca) (.slice Ar nr cr) (.slice Ao no co)) gZ 58 #[.int .i64 sh, .int .i64 ca, .slice Ar nr cr, .slice Ao no co] := st4_blk S9.kR
      have hfin : MadeSw (sweepF bk ep) (swI ep bk.op) w (.returned (.tuple #[.agg #[.int .i64 sh, .int .i64 ca, .slice Ar nr cr, .slice Ao no co], .slice Ai ni ci])) (st4 wr gZ (.int .i64 sh) (.int .i64 ca) (.slice Ar nr cr) (.slice Ao no co)) := by
        have hbo := Bo_st4 S9.bo S9.kR (by decide) (by decide) (by decide) (.int .i64 sh) (.int .i64 ca) (.slice Ar nr cr) (.slice Ao no co)
        have hsw : sweepF bk ep = ⟨sh, ca, bk.rows, bk.op.map (swE ep)⟩ := by unfold sweepF; rw [hsh.out.1, hsh.out.2]
        rw [hsw]
        refine ⟨Ar, Ao, cr, co, rl2, Ai, ci, ?_, hbo.bm, Bo_fb hbo, Rd.of_own (own_st4 S9.ids S9.kR (by decide)), own_fresh S9.ids, st4_below S9.b hLR.out⟩
        unfold bkA
        simp [hnr.out, hno.out, HNI.out]
      have HF := Lib.hid hfin
      obtain ⟨k0, k1, k2, k3⟩ := q4_of S9.kB
      obtain ⟨z0, z1, z2, z3, f0, f1, f2, f3⟩ := z4_of S9.kR
      clear hfin S9 SWi hin
      go_wp2_with fail
      obtain ⟨d0, d1, d2, d3⟩ := q4_of F3
      clear F3
      unfold st4 at d0 d1 d2 d3 HF
      exact bodyPost_ret (v := .tuple #[.agg #[.int .i64 sh, .int .i64 ca, .slice Ar nr cr, .slice Ao no co], .slice Ai ni ci]) (by simp [results, Try.results45, go_sem, d0, d1, d2, d3]) rfl HF.out
end Go.Proofs.Ytkmkaidhpbjbnaa.Bkw

/- The contract of a Model's sweep. Condition: the Model lies in memory and is one that may be. -/
namespace Go.Proofs.Ytkmkaidhpbjbnaa.Mdy
set_option maxRecDepth 100000
open Go.ChangeShapes Go.WideShapes Go.ChangeAt Go.RowKit Mem Tre Ref3 Law3 Fix3 Cfg Crd CrdB CrdC Rr4 Bkp Bks Bkf Bcl Dlk Stk Apt Bko Bku Bka Bkc Bkq Bkw Mdp Mdz Mds Mdn Mdo Mdk Lat
open Rul1 hiding below_step
set_option linter.unusedVariables false
set_option linter.unusedSimpArgs false
theorem infoOut : (Try.prog.info? 76).map (fun i => (i.zero, i.size, i.bytes)) = some (some (.agg #[.int .i64 0, .int .i64 0]), 2, 16) := by kernel_rfl
def outC (ids : List Int) : List (Int × Int) := ids.map fun i => (1, i)
def swpF (p : Pm) (s ep : Int) : Pm × (Int × Int × List (Int × Int)) :=
  if hasF p.bs.length s = true then ({ p with bs := p.bs.set s.toNat (sweepF (gB p.bs s.toNat) ep) }, (0, (swI ep (gB p.bs s.toNat).op).length, outC (swI ep (gB p.bs s.toNat).op)))
  else (p, (1, 0, []))
theorem swp_no {p : Pm} {s ep : Int} {n : Nat} (hn : n = p.bs.length) (h : hasF n s = false) : swpF p s ep = (p, (1, 0, [])) := by
  unfold swpF; rw [← hn, h, if_neg (by decide)]
theorem swp_yes {p : Pm} {ep : Int} {k n : Nat} {b : Bk} (hn : n = p.bs.length) (h : hasF n (k : Int) = true) (hb : gB p.bs k = b) : swpF p (k : Int) ep = ({ p with bs := p.bs.set k (sweepF b ep) }, ((0 : Int), ((swI ep b.op).length : Int), outC (swI ep b.op))) := by
  unfold swpF; rw [← hn, h, if_pos rfl, Int.toNat_natCast, hb]
theorem outC_snoc (l : List Int) (i : Nat) (h : i < l.length) : outC (l.take (i + 1)) = outC (l.take i) ++ [(1, gI l i)] := by
  unfold outC
  have e : l.take (i + 1) = l.take i ++ [gI l i] := by rw [List.take_succ_eq_append_getElem h]; simp [gI, h]
  rw [e, List.map_append]
  rfl
set_option maxHeartbeats 16000000 in
theorem msweep_any (base g m : Nat) (q : Mq) (i x : Int) (w : World) (h : Hid (Mm base w g q)) (hv : Hid (Vq m q)) (hm : m ≤ 900) (hi : inI i) (hx0 : -9223372036854775808 ≤ x) (hx1 : x ≤ 9223372036854775807) :
    Calls Try.prog 24 #[.pointer (some ⟨g, 0, none⟩), .int .i64 i, .int .i64 x] w (MadeDo base g q (swpF (plO q) i x).1 (swpF (plO q) i x).2.1 (swpF (plO q) i x).2.2.1 (swpF (plO q) i x).2.2.2 w) := by
  obtain ⟨sh, wi, ra, ta, A, B, C, nl, al, sl, c, d, f, nd, ac, sy, Ab, nb, cb, xs, An, Au, n1, n2, d1, d2, cl, cu, ep, off⟩ := q
  obtain ⟨v1, v2, va1, v3, v4, v5, v6, v7, v8, v9, v10⟩ := hv.out
  obtain ⟨l1, l2, l3, l4, l5, l6⟩ := (⟨h.out.l1, h.out.l2, h.out.l3, h.out.l4, h.out.l5, h.out.l6⟩ : nl = nd.length ∧ al = ac.length ∧ sl = sy.length ∧ nb = xs.length ∧ n1 = cl.length ∧ n2 = cu.length)
  have L1 := Lib.hid l1
  have L2 := Lib.hid l2
  have L3 := Lib.hid l3
  have L4 := Lib.hid l4
  have L5 := Lib.hid l5
  have L6 := Lib.hid l6
  have V4 := Lib.hid v4
  have V5 := Lib.hid v5
  have V7 := Lib.hid v7
  have V9 := Lib.hid v9
  have V10 := Lib.hid v10
  simp only at v1 v2 va1 v3 v6 v8
  obtain ⟨gb, hgb⟩ := own_at h.out.row (by show 0 < nb; simp only at v7; omega)
  simp only at hgb
  subst hgb
  have hnb : nb ≤ 1000 ∧ 1 ≤ nb := by simp only at v7; omega
  clear l1 l2 l3 l4 l5 l6 v4 v5 v7 v9 v10
  have U0 : Hid (Below w.heap.size w (w.alloc (.cells #[.int .i64 0, .int .i64 0] 43))) := (Below.refl _ _).alloc (Nat.le_refl _) _
  have Z0 : Hid (Blk (w.alloc (.cells #[.int .i64 0, .int .i64 0] 43)) w.heap.size 43 #[.int .i64 0, .int .i64 0]) := Blk.fresh _ _ _
  have M0 : Hid (Mm base (w.alloc (.cells #[.int .i64 0, .int .i64 0] 43)) g ⟨sh, wi, ra, ta, A, B, C, nl, al, sl, c, d, f, nd, ac, sy, some ⟨gb, 0, none⟩, nb, cb, xs, An, Au, n1, n2, d1, d2, cl, cu, ep, off⟩) := Mm_below h.out U0.out
  have MZ : Hid (Mz w.heap.size g ⟨sh, wi, ra, ta, A, B, C, nl, al, sl, c, d, f, nd, ac, sy, some ⟨gb, 0, none⟩, nb, cb, xs, An, Au, n1, n2, d1, d2, cl, cu, ep, off⟩) := Mz_of h.out (Nat.le_refl _)
  go_enter Try.func24, Try.ntmps24
  go_upto_region 1 with fail
  generalize hgZ : w.heap.size = gZ at Z0 MZ ⊢
  have HGZ := Lib.hid hgZ
  have HGZ' : Hid (w.heap.size ≤ gZ) := by show _ ≤ _; omega
  clear hgZ
  generalize (w.alloc (.cells #[.int .i64 0, .int .i64 0] 43)) = w0 at Z0 U0 M0 ⊢
  have K0 : Hid (Blk w0 g 82 #[.int .i64 sh, .int .i64 wi, .int .i64 ra, .int .i64 ta, .slice A nl c, .slice B al d, .slice C sl f, .slice (some ⟨gb, 0, none⟩) nb cb, .slice An n1 d1, .slice Au n2 d2, .int .i64 ep, .bool off]) := M0.out.blk
  obtain ⟨k0, k1, k2, k3, k4, k5, k6, k7, k8, k9, k10, k11, f0, f1, f2, f3, f4, f5, f6, f7, f8, f9, f10, f11⟩ := q12_of K0.out
  have HAS := has_any (some ⟨gb, 0, none⟩) nb cb i w0 (by omega) hi
  have HBL : Hid (nb = (plO ⟨sh, wi, ra, ta, A, B, C, nl, al, sl, c, d, f, nd, ac, sy, some ⟨gb, 0, none⟩, nb, cb, xs, An, Au, n1, n2, d1, d2, cl, cu, ep, off⟩).bs.length) := by show nb = (xs.map Bx.b).length; rw [List.length_map]; exact L4.out
  by_cases hh : hasF nb i = true
  case neg =>
    have hh' : hasF nb i = false := by simpa using hh
    rw [hh'] at HAS
    go_upto_region 2 with (refine HAS.mono ?_; rintro e w1 ⟨rfl, hw1⟩; rw [hw1]; clear hw1 w1)
    clear k0 k1 k2 k3 k4 k5 k6 k7 k8 k9 k10 k11 f0 f1 f2 f3 f4 f5 f6 f7 f8 f9 f10 f11 K0
    have HP0 : Hid (swpF (plO ⟨sh, wi, ra, ta, A, B, C, nl, al, sl, c, d, f, nd, ac, sy, some ⟨gb, 0, none⟩, nb, cb, xs, An, Au, n1, n2, d1, d2, cl, cu, ep, off⟩) i x = ((plO ⟨sh, wi, ra, ta, A, B, C, nl, al, sl, c, d, f, nd, ac, sy, some ⟨gb, 0, none⟩, nb, cb, xs, An, Au, n1, n2, d1, d2, cl, cu, ep, off⟩), (1, 0, []))) := swp_no HBL.out hh'
    go_wp2_with fail
    refine (refused_any 1 _).mono ?_
    rintro e wR ⟨rfl, hbR⟩
    have HBR := Lib.hid (CrdB.below_step (Lib.hid (Below.refl w0.heap.size w0)).out hbR)
    have MR : Hid (Mm base wR g ⟨sh, wi, ra, ta, A, B, C, nl, al, sl, c, d, f, nd, ac, sy, some ⟨gb, 0, none⟩, nb, cb, xs, An, Au, n1, n2, d1, d2, cl, cu, ep, off⟩) := Mm_below M0.out HBR.out
    have ZR : Hid (Blk wR gZ 43 #[.int .i64 0, .int .i64 0]) := Blk.below' Z0.out HBR.out
    have UR : Hid (Kp w wR g (some ⟨gb, 0, none⟩)) := Kp_of_below (CrdB.below_step U0.out HBR.out)
    clear hbR
    obtain ⟨z0, z1, z2, z3⟩ := q2b ZR.out
    have zx : (wR.setCell ⟨gZ, 0, none⟩ (.int .i64 1)).cell? ⟨gZ, 1, none⟩ = some (.int .i64 0) := (blk_st ZR.out 0 (.int .i64 1)).cell 1
    have F3 : Blk (st2 wR gZ (.int .i64 1) (.int .i64 0)) gZ 43 #[.int .i64 1, .int .i64 0] := st2_blk ZR.out
    have hfin : MadeDo base g ⟨sh, wi, ra, ta, A, B, C, nl, al, sl, c, d, f, nd, ac, sy, some ⟨gb, 0, none⟩, nb, cb, xs, An, Au, n1, n2, d1, d2, cl, cu, ep, off⟩ (plO ⟨sh, wi, ra, ta, A, B, C, nl, al, sl, c, d, f, nd, ac, sy, some ⟨gb, 0, none⟩, nb, cb, xs, An, Au, n1, n2, d1, d2, cl, cu, ep, off⟩) 1 0 [] w (.returned (.tuple #[.agg #[.int .i64 1, .int .i64 0], .slice none 0 0])) (st2 wR gZ (.int .i64 1) (.int .i64 0)) := by
      unfold st2
      refine madeDo_no (q := ⟨sh, wi, ra, ta, A, B, C, nl, al, sl, c, d, f, nd, ac, sy, some ⟨gb, 0, none⟩, nb, cb, xs, An, Au, n1, n2, d1, d2, cl, cu, ep, off⟩) (Mm_setz (Mm_setz MR.out MZ.out ZR.out (by decide) 0 _) MZ.out (blk_st ZR.out 0 _) (by decide) 1 _) rfl rfl ?_ (fun z _ h => Mz_same h)
      exact Kp_past (Kp_past UR.out HGZ'.out 0 _) HGZ'.out 1 _
    have HF := Lib.hid hfin
    clear hfin
    go_wp2_with fail
    obtain ⟨e0, e1, _, _⟩ := q2b F3
    clear F3
    unfold st2 at e0 e1 HF
    exact bodyPost_ret (v := .tuple #[.agg #[.int .i64 1, .int .i64 0], .slice none 0 0]) (by simp [results, Try.results24, go_sem, e0, e1]) rfl (by first | exact HF.out | (rw [HP0.out]; exact HF.out))
  case pos =>
    rw [hh] at HAS
    have hi2 : 0 ≤ i ∧ i < (nb : Int) := by simpa [hasF] using hh
    obtain ⟨sN, hsN⟩ : ∃ k : Nat, i = k := ⟨i.toNat, by omega⟩
    subst hsN
    have hsNb : sN < nb := by omega
    clear hi2
    have hsx : Hid (sN < xs.length) := by show _ < _; rw [← L4.out]; exact hsNb
    have RM2 := own_room M0.out.row
    have c0 := RM2.2.2.2.2.2 (sN * 4) _ (by have := bxs_get xs sN 0 hsx.out (by decide); exact this)
    have c1 := RM2.2.2.2.2.2 (sN * 4 + 1) _ (by have := bxs_get xs sN 1 hsx.out (by decide); exact this)
    have c2 := RM2.2.2.2.2.2 (sN * 4 + 2) _ (by have := bxs_get xs sN 2 hsx.out (by decide); exact this)
    have c3 := RM2.2.2.2.2.2 (sN * 4 + 3) _ (by have := bxs_get xs sN 3 hsx.out (by decide); exact this)
    clear RM2
    have BM0 := Lib.hid (M0.out.bm sN hsx.out)
    have VB := Lib.hid (V9.out sN hsx.out)
    have HGB : Hid (gB (plO ⟨sh, wi, ra, ta, A, B, C, nl, al, sl, c, d, f, nd, ac, sy, some ⟨gb, 0, none⟩, nb, cb, xs, An, Au, n1, n2, d1, d2, cl, cu, ep, off⟩).bs sN = (gX xs sN).b) := by
      show (xs.map Bx.b).getD sN bk0 = _
      have h1 := hsx.out
      simp [gX, h1]
    obtain ⟨X, hX⟩ : ∃ X, X = gX xs sN := ⟨_, rfl⟩
    rw [← hX] at HGB
    simp only at BM0 VB
    rw [← hX] at c0 c1 c2 c3 BM0 VB
    have HX := Lib.hid hX
    clear hX
    obtain ⟨XA, XC, xc, xd, xrl, xb⟩ := X
    obtain ⟨bsh, hbsh⟩ : ∃ v, v = xb.sh := ⟨_, rfl⟩
    obtain ⟨bca, hbca⟩ : ∃ v, v = xb.ca := ⟨_, rfl⟩
    obtain ⟨nr2, hnr2⟩ : ∃ v, v = xb.rows.length := ⟨_, rfl⟩
    obtain ⟨no2, hno2⟩ : ∃ v, v = xb.op.length := ⟨_, rfl⟩
    simp only [bxV, List.getElem?_cons_zero, List.getElem?_cons_succ] at c0 c1 c2 c3
    have HSHB : Hid (bsh = xb.sh ∧ bca = xb.ca) := ⟨hbsh, hbca⟩
    have HNR2 := Lib.hid hnr2
    have HNO2 := Lib.hid hno2
    simp only at VB BM0 HGB
    have FEW := Lib.hid (VB.out.1.few (by omega))
    rw [← hbsh] at c0
    rw [← hbca] at c1
    rw [← hnr2] at c2
    rw [← hno2] at c3
    clear hbsh hbca hnr2 hno2
    have tsn : decide ((sN : Int) < (nb : Int)) = true := by simp; omega
    have CX := sweep_any bsh bca XA XC nr2 no2 xc xd xrl xb x w0 HSHB HNR2 HNO2 BM0 FEW
    have HCY := Lib.hid (swp_yes (ep := x) HBL.out hh HGB.out)
    obtain ⟨NB, hNB⟩ : ∃ b, b = sweepF xb x := ⟨_, rfl⟩
    obtain ⟨IDS, hIDS⟩ : ∃ l, l = swI x xb.op := ⟨_, rfl⟩
    obtain ⟨nI, hnI⟩ : ∃ k, k = IDS.length := ⟨_, rfl⟩
    have hnI9 : nI ≤ 1000 := by
      rw [hnI, hIDS]
      have h1 := swI_le x xb.op
      have h2 := FEW.out.ol
      omega
    obtain ⟨nsh, hnsh⟩ : ∃ v, v = NB.sh := ⟨_, rfl⟩
    obtain ⟨nca, hnca⟩ : ∃ v, v = NB.ca := ⟨_, rfl⟩
    obtain ⟨nr7, hnr7⟩ : ∃ v, v = NB.rows.length := ⟨_, rfl⟩
    obtain ⟨no7, hno7⟩ : ∃ v, v = NB.op.length := ⟨_, rfl⟩
    unfold MadeSw at CX
    rw [← hNB, ← hIDS] at CX
    rw [← hNB, ← hIDS] at HCY
    have hbk : ∀ A7 C7 c7 d7, bkA A7 C7 c7 d7 NB = .agg #[.int .i64 nsh, .int .i64 nca, .slice A7 nr7 c7, .slice C7 no7 d7] := by
      intro A7 C7 c7 d7
      unfold bkA
      rw [hnsh, hnca, hnr7, hno7]
    simp only [hbk, ← hnI] at CX
    have HNI := Lib.hid hnI
    have HN7 : Hid (nsh = NB.sh ∧ nca = NB.ca ∧ nr7 = NB.rows.length ∧ no7 = NB.op.length) := ⟨hnsh, hnca, hnr7, hno7⟩
    clear hNB hIDS hnI hnsh hnca hnr7 hno7 hbk
    go_upto_region 3 with (refine HAS.mono ?_; rintro e w1 ⟨rfl, hw1⟩; rw [hw1]; clear hw1 w1)
    go_wp2_with fail
    refine CX.mono ?_
    rintro e w2 ⟨A7, C7, c7, d7, rl7, Ai, ci, rfl, hm7, hf7, hri, hfi, hb7⟩
    have F7 : Hid (Fb w0.heap.size A7 C7 rl7) := hf7
    have U3 : Below w2.heap.size w2 (w2.alloc (.cells #[.int .i64 nsh, .int .i64 nca, .slice A7 nr7 c7, .slice C7 no7 d7] 58)) := (Below.refl _ _).alloc (Nat.le_refl _) _
    have V3 : Hid (Blk (w2.alloc (.cells #[.int .i64 nsh, .int .i64 nca, .slice A7 nr7 c7, .slice C7 no7 d7] 58)) w2.heap.size 58 #[.int .i64 nsh, .int .i64 nca, .slice A7 nr7 c7, .slice C7 no7 d7]) := Blk.fresh _ _ _
    have HB7 : Hid (Below w0.heap.size w0 (w2.alloc (.cells #[.int .i64 nsh, .int .i64 nca, .slice A7 nr7 c7, .slice C7 no7 d7] 58))) := CrdB.below_step hb7 U3
    have N7 : Hid (Bm (w2.alloc (.cells #[.int .i64 nsh, .int .i64 nca, .slice A7 nr7 c7, .slice C7 no7 d7] 58)) A7 C7 rl7 NB) := hm7.below U3
    have I7 : Hid (Ris (w2.alloc (.cells #[.int .i64 nsh, .int .i64 nca, .slice A7 nr7 c7, .slice C7 no7 d7] 58)) (w2.alloc (.cells #[.int .i64 nsh, .int .i64 nca, .slice A7 nr7 c7, .slice C7 no7 d7] 58)).heap.size Ai IDS) := Rd.below' hri U3 U3.size
    have HFI : Hid (∀ a, Ai = some a → w0.heap.size ≤ a.block) := hfi
    have HVL : Hid (w0.heap.size ≤ w2.heap.size) := hb7.size
    clear hm7 hf7 hb7 hri hfi U3 CX HAS
    go_upto_region 4 with fail
    clear k0 k1 k2 k3 k4 k5 k6 k7 k8 k9 k10 k11 f0 f1 f2 f3 f4 f5 f6 f7 f8 f9 f10 f11 c0 c1 c2 c3 K0
    obtain ⟨gV, hgV⟩ : ∃ k, k = w2.heap.size := ⟨_, rfl⟩
    have V7 : Hid (Blk (w2.alloc (.cells #[.int .i64 nsh, .int .i64 nca, .slice A7 nr7 c7, .slice C7 no7 d7] 58)) gV 58 #[.int .i64 nsh, .int .i64 nca, .slice A7 nr7 c7, .slice C7 no7 d7]) := by rw [hgV]; exact V3.out
    have HVL : Hid (w0.heap.size ≤ gV) := by rw [hgV]; exact HVL.out
    simp only [← hgV]
    clear hgV V3
    generalize w2.alloc (.cells #[.int .i64 nsh, .int .i64 nca, .slice A7 nr7 c7, .slice C7 no7 d7] 58) = w3 at HB7 N7 V7 I7 ⊢
    have HFB : Hid (w0.heap.size ≤ w0.heap.size) := Nat.le_refl _
    have HFI2 : Hid (Far g (some ⟨gb, 0, none⟩) Ai (ints IDS)) := Far_new (base := w0.heap.size) (Mm_lt M0.out).1 (Mm_lt M0.out).2 HFI.out
    have I79 : Hid (Ris ((((w3.drew.setCell ⟨gb, sN * 4, none⟩ (.int .i64 nsh)).setCell ⟨gb, sN * 4 + 1, none⟩ (.int .i64 nca)).setCell ⟨gb, sN * 4 + 2, none⟩ (.slice A7 nr7 c7)).setCell ⟨gb, sN * 4 + 3, none⟩ (.slice C7 no7 d7)) ((((w3.drew.setCell ⟨gb, sN * 4, none⟩ (.int .i64 nsh)).setCell ⟨gb, sN * 4 + 1, none⟩ (.int .i64 nca)).setCell ⟨gb, sN * 4 + 2, none⟩ (.slice A7 nr7 c7)).setCell ⟨gb, sN * 4 + 3, none⟩ (.slice C7 no7 d7)).heap.size Ai IDS) := Rd_setb (Rd_setb (Rd_setb (Rd_setb (show Ris w3.drew w3.drew.heap.size Ai IDS from I7.out) HFI2.out _ _) HFI2.out _ _) HFI2.out _ _) HFI2.out _ _
    have HBd : Hid (Below w0.heap.size w0 w3.drew) := Below.drew HB7.out
    have Md := Lib.hid (Mm_below M0.out HBd.out)
    have V7d : Hid (Blk w3.drew gV 58 #[.int .i64 nsh, .int .i64 nca, .slice A7 nr7 c7, .slice C7 no7 d7]) := V7.out
    have LT0 := Lib.hid (Mm_lt M0.out)
    have hgb0 : Hid (gb < w0.heap.size) := LT0.out.2 ⟨gb, 0, none⟩ rfl
    have h0f : Hid (w0.heap.size ≤ w0.heap.size) := HFB.out
    have RMhh := own_room Md.out.row
    have hh0 := RMhh.2.2.2.2.2 (sN * 4) _ (by have := bxs_get xs sN 0 hsx.out (by decide); rw [← HX.out] at this; exact this)
    have hh1 := RMhh.2.2.2.2.2 (sN * 4 + 1) _ (by have := bxs_get xs sN 1 hsx.out (by decide); rw [← HX.out] at this; exact this)
    have hh2 := RMhh.2.2.2.2.2 (sN * 4 + 2) _ (by have := bxs_get xs sN 2 hsx.out (by decide); rw [← HX.out] at this; exact this)
    have hh3 := RMhh.2.2.2.2.2 (sN * 4 + 3) _ (by have := bxs_get xs sN 3 hsx.out (by decide); rw [← HX.out] at this; exact this)
    simp only [bxV, List.getElem?_cons_zero, List.getElem?_cons_succ] at hh0 hh1 hh2 hh3
    rw [← HSHB.out.1] at hh0
    rw [← HSHB.out.2] at hh1
    rw [← HNR2.out] at hh2
    rw [← HNO2.out] at hh3
    clear RMhh
    have RMf := own_room Md.out.row
    have hcb : nb ≤ cb := RMf.2.2.1
    have hf0 := (RMf.2.2.2.2.1 (sN * 4) (show sN * 4 < cb * 4 by omega)).2
    have hf1 := (RMf.2.2.2.2.1 (sN * 4 + 1) (show sN * 4 + 1 < cb * 4 by omega)).2
    have hf2 := (RMf.2.2.2.2.1 (sN * 4 + 2) (show sN * 4 + 2 < cb * 4 by omega)).2
    have hf3 := (RMf.2.2.2.2.1 (sN * 4 + 3) (show sN * 4 + 3 < cb * 4 by omega)).2
    clear RMf hcb
    have hd1 : (w3.drew.setCell ⟨gb, sN * 4, none⟩ (.int .i64 nsh)).cell? ⟨gb, sN * 4 + 1, none⟩ = some (.int .i64 bca) := ((World.cell?_setCell_other _ _ _ _ (by intro e; injection e with e1 e2; omega)).trans hh1)
    have he1 : (w3.drew.setCell ⟨gb, sN * 4, none⟩ (.int .i64 nsh)).frozen? ⟨gb, sN * 4 + 1, none⟩ = false := by rw [World.frozen?_setCell]; exact hf1
    have hd2 : ((w3.drew.setCell ⟨gb, sN * 4, none⟩ (.int .i64 nsh)).setCell ⟨gb, sN * 4 + 1, none⟩ (.int .i64 nca)).cell? ⟨gb, sN * 4 + 2, none⟩ = some (.slice XA nr2 xc) := ((World.cell?_setCell_other _ _ _ _ (by intro e; injection e with e1 e2; omega)).trans ((World.cell?_setCell_other _ _ _ _ (by intro e; injection e with e1 e2; omega)).trans hh2))
    have he2 : ((w3.drew.setCell ⟨gb, sN * 4, none⟩ (.int .i64 nsh)).setCell ⟨gb, sN * 4 + 1, none⟩ (.int .i64 nca)).frozen? ⟨gb, sN * 4 + 2, none⟩ = false := by rw [World.frozen?_setCell, World.frozen?_setCell]; exact hf2
    have hd3 : (((w3.drew.setCell ⟨gb, sN * 4, none⟩ (.int .i64 nsh)).setCell ⟨gb, sN * 4 + 1, none⟩ (.int .i64 nca)).setCell ⟨gb, sN * 4 + 2, none⟩ (.slice A7 nr7 c7)).cell? ⟨gb, sN * 4 + 3, none⟩ = some (.slice XC no2 xd) := ((World.cell?_setCell_other _ _ _ _ (by intro e; injection e with e1 e2; omega)).trans ((World.cell?_setCell_other _ _ _ _ (by intro e; injection e with e1 e2; omega)).trans ((World.cell?_setCell_other _ _ _ _ (by intro e; injection e with e1 e2; omega)).trans hh3)))
    have he3 : (((w3.drew.setCell ⟨gb, sN * 4, none⟩ (.int .i64 nsh)).setCell ⟨gb, sN * 4 + 1, none⟩ (.int .i64 nca)).setCell ⟨gb, sN * 4 + 2, none⟩ (.slice A7 nr7 c7)).frozen? ⟨gb, sN * 4 + 3, none⟩ = false := by rw [World.frozen?_setCell, World.frozen?_setCell, World.frozen?_setCell]; exact hf3
    have HT : Hid (w3.drew.cell? ⟨g, 7, none⟩ = some (.slice (some ⟨gb, 0, none⟩) nb cb) ∧ w3.drew.cell? ⟨gV, 0, none⟩ = some (.int .i64 nsh) ∧ w3.drew.cell? ⟨gV, 1, none⟩ = some (.int .i64 nca) ∧ w3.drew.cell? ⟨gV, 2, none⟩ = some (.slice A7 nr7 c7) ∧ w3.drew.cell? ⟨gV, 3, none⟩ = some (.slice C7 no7 d7)) := ⟨Md.out.blk.cell 7, V7d.out.cell 0, V7d.out.cell 1, V7d.out.cell 2, V7d.out.cell 3⟩
    have M9 : Hid (Mm base ((((w3.drew.setCell ⟨gb, sN * 4, none⟩ (.int .i64 nsh)).setCell ⟨gb, sN * 4 + 1, none⟩ (.int .i64 nca)).setCell ⟨gb, sN * 4 + 2, none⟩ (.slice A7 nr7 c7)).setCell ⟨gb, sN * 4 + 3, none⟩ (.slice C7 no7 d7)) g ⟨sh, wi, ra, ta, A, B, C, nl, al, sl, c, d, f, nd, ac, sy, some ⟨gb, 0, none⟩, nb, cb, xs.set sN ⟨A7, C7, c7, d7, rl7, NB⟩, An, Au, n1, n2, d1, d2, cl, cu, ep, off⟩) := by
      have h9 := Mm_book Md.out rfl (i := sN) hsx.out (x := ⟨A7, C7, c7, d7, rl7, NB⟩) (show Bm w3.drew A7 C7 rl7 NB from ⟨N7.out.r, N7.out.e, N7.out.n, N7.out.o⟩) (FarX_new (base := w0.heap.size) (by have := LT0.out.1; have := h0f.out; omega) (fun b hb => by have := LT0.out.2 b hb; have := h0f.out; omega) F7.out)
      simp only [← HN7.out.1, ← HN7.out.2.1, ← HN7.out.2.2.1, ← HN7.out.2.2.2] at h9
      exact h9
    have hZb : Hid (gZ ≠ gb) := fun e => blk_own_ne Z0.out M0.out.row (by decide) (by rw [e]; rfl)
    have Z9 : Hid (Blk ((((w3.drew.setCell ⟨gb, sN * 4, none⟩ (.int .i64 nsh)).setCell ⟨gb, sN * 4 + 1, none⟩ (.int .i64 nca)).setCell ⟨gb, sN * 4 + 2, none⟩ (.slice A7 nr7 c7)).setCell ⟨gb, sN * 4 + 3, none⟩ (.slice C7 no7 d7)) gZ 43 #[.int .i64 0, .int .i64 0]) := (far_st (far_st (far_st (far_st (show Blk w3.drew gZ 43 #[.int .i64 0, .int .i64 0] from Blk.below' Z0.out HBd.out) hZb.out _) hZb.out _) hZb.out _) hZb.out _)
    have KP9 : Hid (Kp w ((((w3.drew.setCell ⟨gb, sN * 4, none⟩ (.int .i64 nsh)).setCell ⟨gb, sN * 4 + 1, none⟩ (.int .i64 nca)).setCell ⟨gb, sN * 4 + 2, none⟩ (.slice A7 nr7 c7)).setCell ⟨gb, sN * 4 + 3, none⟩ (.slice C7 no7 d7)) g (some ⟨gb, 0, none⟩)) := Kp_setb (Kp_setb (Kp_setb (Kp_setb (Kp_of_below (CrdB.below_step U0.out HBd.out)) _ _) _ _) _ _) _ _
    have HMZ9 : Hid (∀ z, z < w.heap.size → Mz z g ⟨sh, wi, ra, ta, A, B, C, nl, al, sl, c, d, f, nd, ac, sy, some ⟨gb, 0, none⟩, nb, cb, xs, An, Au, n1, n2, d1, d2, cl, cu, ep, off⟩ → Mz z g ⟨sh, wi, ra, ta, A, B, C, nl, al, sl, c, d, f, nd, ac, sy, some ⟨gb, 0, none⟩, nb, cb, xs.set sN ⟨A7, C7, c7, d7, rl7, NB⟩, An, Au, n1, n2, d1, d2, cl, cu, ep, off⟩) := by
      intro z hz hmz
      have hw0 := U0.out.size
      exact Mz_book hmz (i := sN) hsx.out (x := ⟨A7, C7, c7, d7, rl7, NB⟩) (FzB_new (base := w0.heap.size) (by have := h0f.out; omega) F7.out)
    have MZ9 : Hid (Mz gZ g ⟨sh, wi, ra, ta, A, B, C, nl, al, sl, c, d, f, nd, ac, sy, some ⟨gb, 0, none⟩, nb, cb, xs.set sN ⟨A7, C7, c7, d7, rl7, NB⟩, An, Au, n1, n2, d1, d2, cl, cu, ep, off⟩) := Mz_book MZ.out (i := sN) hsx.out (x := ⟨A7, C7, c7, d7, rl7, NB⟩) (FzB_new (base := w0.heap.size) (by have := Z0.out.lt; have := h0f.out; omega) F7.out)
    go_upto_region 4 with fail
    refine wp_region_noPanic ?_
    refine wp_region_L (T := (fun w' => w'.cell? ⟨g, 7, none⟩ = some (.slice (some ⟨gb, 0, none⟩) nb cb) ∧ w'.cell? ⟨gV, 0, none⟩ = some (.int .i64 nsh) ∧ w'.cell? ⟨gV, 1, none⟩ = some (.int .i64 nca) ∧ w'.cell? ⟨gV, 2, none⟩ = some (.slice A7 nr7 c7) ∧ w'.cell? ⟨gV, 3, none⟩ = some (.slice C7 no7 d7))) (st := [7]) (by kernel_rfl) ?_
    generalize w3.drew = w8 at HBd Md V7d hh0 hh1 hh2 hh3 hf0 hf1 hf2 hf3 hd1 hd2 hd3 he1 he2 he3 HT M9 Z9 KP9 I79 I7 N7 ⊢
    refine wpL_word (i := 0) (v := ?_) rfl (by kernel_rfl) (fun _ _ _ h => h) (by kernel_rfl) _ _ _ _ (by kernel_rfl) (by kernel_rfl) (Or.inl ⟨by rfl, ?_⟩) (fun _ => HT.out) ?_
    rotate_left
    · intro w' _
      go_simp
      try with_reducible rfl
    (try simp only [Act.put, List.getElem_toArray, List.getElem_cons_succ, List.getElem_cons_zero, List.setIfInBounds_toArray, List.set_cons_zero, List.set_cons_succ])
    refine wpL_word (i := 1) (v := ?_) rfl (by kernel_rfl) (fun _ _ _ h => h) (by kernel_rfl) _ _ _ _ (by kernel_rfl) (by kernel_rfl) (Or.inl ⟨by rfl, ?_⟩) (fun _ => HT.out) ?_
    rotate_left
    · intro w' _
      go_simp
      try with_reducible rfl
    (try simp only [Act.put, List.getElem_toArray, List.getElem_cons_succ, List.getElem_cons_zero, List.setIfInBounds_toArray, List.set_cons_zero, List.set_cons_succ])
    refine wpL_word (i := 2) (v := ?_) rfl (by kernel_rfl) (fun _ _ _ h => h) (by kernel_rfl) _ _ _ _ (by kernel_rfl) (by kernel_rfl) (Or.inl ⟨by rfl, ?_⟩) (fun _ => HT.out) ?_
    rotate_left
    · intro w' _
      go_simp
      try with_reducible rfl
    (try simp only [Act.put, List.getElem_toArray, List.getElem_cons_succ, List.getElem_cons_zero, List.setIfInBounds_toArray, List.set_cons_zero, List.set_cons_succ])
    refine wpL_load (i := 3) (v := ?_) rfl (by kernel_rfl) (fun _ _ _ h => h) (by kernel_rfl) (by kernel_rfl) _ _ _ _ (by kernel_rfl) (by kernel_rfl) (Or.inl ⟨by rfl, ?_⟩) (by kernel_rfl) HT.out ?_
    rotate_left
    · intro w' hS
      (try dsimp only at hS)
      obtain ⟨x1, x2, x3, x4, x5⟩ := hS
      go_simp
      try with_reducible rfl
    (try simp only [Act.put, List.getElem_toArray, List.getElem_cons_succ, List.getElem_cons_zero, List.setIfInBounds_toArray, List.set_cons_zero, List.set_cons_succ])
    refine wpL_word (i := 4) (v := ?_) rfl (by kernel_rfl) (fun _ _ _ h => h) (by kernel_rfl) _ _ _ _ (by kernel_rfl) (by kernel_rfl) (Or.inl ⟨by rfl, ?_⟩) (fun _ => HT.out) ?_
    rotate_left
    · intro w' _
      go_simp
      try with_reducible rfl
    (try simp only [Act.put, List.getElem_toArray, List.getElem_cons_succ, List.getElem_cons_zero, List.setIfInBounds_toArray, List.set_cons_zero, List.set_cons_succ])
    refine wpL_load (i := 5) (v := ?_) rfl (by kernel_rfl) (fun _ _ _ h => h) (by kernel_rfl) (by kernel_rfl) _ _ _ _ (by kernel_rfl) (by kernel_rfl) (Or.inl ⟨by rfl, ?_⟩) (by kernel_rfl) HT.out ?_
    rotate_left
    · intro w' hS
      (try dsimp only at hS)
      obtain ⟨x1, x2, x3, x4, x5⟩ := hS
      go_simp
      try with_reducible rfl
    (try simp only [Act.put, List.getElem_toArray, List.getElem_cons_succ, List.getElem_cons_zero, List.setIfInBounds_toArray, List.set_cons_zero, List.set_cons_succ])
    refine wpL_word (i := 6) (v := ?_) rfl (by kernel_rfl) (fun _ _ _ h => h) (by kernel_rfl) _ _ _ _ (by kernel_rfl) (by kernel_rfl) (Or.inl ⟨by rfl, ?_⟩) (fun _ => HT.out) ?_
    rotate_left
    · intro w' _
      go_simp
      try with_reducible rfl
    (try simp only [Act.put, List.getElem_toArray, List.getElem_cons_succ, List.getElem_cons_zero, List.setIfInBounds_toArray, List.set_cons_zero, List.set_cons_succ])
    refine wpL_late (n := 7) (by kernel_rfl) rfl (by kernel_rfl) (fun K' hK => ?_)
    go_simp
    refine hK.out _ _ ?_
    clear hK K'
    (try simp only [Act.put, List.getElem_toArray, List.getElem_cons_succ, List.getElem_cons_zero, List.setIfInBounds_toArray, List.set_cons_zero, List.set_cons_succ])
    refine wpL_done (by kernel_rfl) ?_ _
    refine NoPanic.normal ?_
    clear hh0 hh1 hh2 hh3 hf0 hf1 hf2 hf3 hd1 hd2 hd3 he1 he2 he3 HT V7d Md HBd
    go_upto_region 5 with fail
    generalize ((((w8.setCell ⟨gb, sN * 4, none⟩ (.int .i64 nsh)).setCell ⟨gb, sN * 4 + 1, none⟩ (.int .i64 nca)).setCell ⟨gb, sN * 4 + 2, none⟩ (.slice A7 nr7 c7)).setCell ⟨gb, sN * 4 + 3, none⟩ (.slice C7 no7 d7)) = w9 at M9 Z9 KP9 I79 ⊢
    obtain ⟨i0, hi0, hz0, hz1, hz2⟩ := info_parts infoOut
    go_upto_region 6 with fail
    go_wp2_with fail
    go_loopg [10, 44] nI (fun g s10 s44 w' => ∃ (j : Nat) (Ao : Option Addr) (no co : Nat), j + g = nI ∧ s10 = .slice Ao no co ∧ s44 = .int .i64 j ∧ Hid (no = j) ∧ Hid (w'.ownsRow w9.heap.size 76 2 (.slice Ao no co) no (nds (outC (IDS.take j)))) ∧ Hid (Below w9.heap.size w9 w'))
    case atStart => exact ⟨0, none, 0, 0, by omega, rfl, rfl, rfl, (by show World.ownsRow _ _ _ _ _ _ []; exact World.ownsRow_nil _ _ _ _), Below.refl _ _⟩
    case round =>
      obtain ⟨j, Ao, no, co, hg0, rfl, rfl, HNO, OW, HBr⟩ := hrel
      by_cases hlt : j < nI
      · obtain ⟨g9, rfl⟩ : ∃ g9, gk = g9 + 1 := ⟨gk - 1, by omega⟩
        have t0 : decide ((j : Int) < (nI : Int)) = true := by simp; omega
        have hjl : j < IDS.length := by rw [← HNI.out]; exact hlt
        obtain ⟨b9, o9, hA9, hlt9, hc9⟩ := Ris.at (i := j) I79.out hjl
        subst hA9
        have hcr : wr.cell? ⟨b9, o9 + j, none⟩ = some (.int .i64 (gI IDS j)) := (HBr.out.cell (p := ⟨b9, o9 + j, none⟩) hlt9).trans (hc9 j hjl)
        obtain ⟨nj, hnj⟩ : ∃ k, k = no + 1 := ⟨_, rfl⟩
        have HNJ := Lib.hid hnj
        clear hnj
        have V0 : Below wr.heap.size wr (wr.alloc (.cells #[.int .i64 1, .int .i64 (gI IDS j)] 76)) := (Below.refl _ _).alloc (Nat.le_refl _) _
        have V1 := own_below OW V0
        have V2 : Hid (Rd (wr.alloc (.cells #[.int .i64 1, .int .i64 (gI IDS j)] 76)) (wr.alloc (.cells #[.int .i64 1, .int .i64 (gI IDS j)] 76)).heap.size (some ⟨wr.heap.size, 0, none⟩) [.int .i64 1, .int .i64 (gI IDS j)]) := rd_new rfl
        have V3 : Hid (Below w9.heap.size w9 (wr.alloc (.cells #[.int .i64 1, .int .i64 (gI IDS j)] 76))) := CrdB.below_step HBr.out V0
        have V4 : w9.heap.size ≤ (wr.alloc (.cells #[.int .i64 1, .int .i64 (gI IDS j)] 76)).heap.size := V3.out.size
        have hno9 : no ≤ 1000 := by have := HNO.out; omega
        go_wp2_with (at_builtin; go_loud (refine wpList_appR (nm := nj) V1 V3.out V2 HNJ.out rfl _ _ _ rfl i0 (.agg #[.int .i64 0, .int .i64 0]) 16 Try.underlying44 hi0 hz0 hz1 hz2 rfl (by decide) rfl rfl (by simp) (by simp [Value.oneCell']) (by unfold maxLen; omega) (by omega) (Nat.le_refl _) V4 V4 ?_); intro A6 c6 w7 hown1 hbel1 hsz1)
        have O7 : Hid (w7.ownsRow w9.heap.size 76 2 (.slice A6 nj c6) nj (nds (outC (IDS.take (j + 1))))) := by
          rw [outC_snoc IDS j hjl, nds_snoc]
          exact hown1.out
        have B7 := Lib.hid hbel1
        have HN9 : Hid (nj = j + 1) := by show _ = _; rw [HNJ.out, HNO.out]
        clear hown1 hbel1 hsz1 V0 V1 V2 V3 V4 hcr hc9
        go_roundg g9
        case measure => omega
        case rel => exact ⟨j + 1, A6, nj, c6, by omega, rfl, by rw [Int.natCast_add]; rfl, HN9, O7, B7⟩
      · have t0 : decide ((j : Int) < (nI : Int)) = false := by simp; omega
        have hjn : j = nI := by omega
        have hall : Hid (IDS.take j = IDS) := by show _ = _; rw [hjn, HNI.out, List.take_length]
        have O9 := OW.out
        rw [hall.out] at O9
        have N9 : Hid (Nds wr wr.heap.size Ao (outC IDS)) := Rd.of_own O9
        have F9 : Hid (∀ a, Ao = some a → w9.heap.size ≤ a.block) := fun a ha => Tre.own_fresh O9 a ha
        have M11 := Lib.hid (Mm_below M9.out HBr.out)
        have Z11 : Hid (Blk wr gZ 43 #[.int .i64 0, .int .i64 0]) := Blk.below' Z9.out HBr.out
        have KP11 : Hid (Kp w wr g (some ⟨gb, 0, none⟩)) := Kp_step KP9.out HBr.out
        have hZl : gZ < w9.heap.size := Z9.out.lt
        have hwl : Hid (w.heap.size ≤ w9.heap.size) := KP9.out.size
        have hno : Hid (no = (outC IDS).length) := by show _ = _; rw [HNO.out, hjn, HNI.out]; unfold outC; rw [List.length_map]
        have F3 : Blk (st2 wr gZ (.int .i64 0) (.int .i64 (nI : Int))) gZ 43 #[.int .i64 0, .int .i64 (nI : Int)] := st2_blk Z11.out
        have HEQ : swpF (plO ⟨sh, wi, ra, ta, A, B, C, nl, al, sl, c, d, f, nd, ac, sy, some ⟨gb, 0, none⟩, nb, cb, xs, An, Au, n1, n2, d1, d2, cl, cu, ep, off⟩) (sN : Int) x = (plO ⟨sh, wi, ra, ta, A, B, C, nl, al, sl, c, d, f, nd, ac, sy, some ⟨gb, 0, none⟩, nb, cb, xs.set sN ⟨A7, C7, c7, d7, rl7, NB⟩, An, Au, n1, n2, d1, d2, cl, cu, ep, off⟩, (0, (nI : Int), outC IDS)) := by
          rw [HCY.out, ← HNI.out]
          unfold plO
          simp only [List.map_set]
        have hfin : MadeDo base g ⟨sh, wi, ra, ta, A, B, C, nl, al, sl, c, d, f, nd, ac, sy, some ⟨gb, 0, none⟩, nb, cb, xs, An, Au, n1, n2, d1, d2, cl, cu, ep, off⟩ (plO ⟨sh, wi, ra, ta, A, B, C, nl, al, sl, c, d, f, nd, ac, sy, some ⟨gb, 0, none⟩, nb, cb, xs.set sN ⟨A7, C7, c7, d7, rl7, NB⟩, An, Au, n1, n2, d1, d2, cl, cu, ep, off⟩) 0 (nI : Int) (outC IDS) w (.returned (.tuple #[.agg #[.int .i64 0, .int .i64 (nI : Int)], .slice Ao no co])) (st2 wr gZ (.int .i64 0) (.int .i64 (nI : Int))) := by
          unfold st2
          refine ⟨⟨sh, wi, ra, ta, A, B, C, nl, al, sl, c, d, f, nd, ac, sy, some ⟨gb, 0, none⟩, nb, cb, xs.set sN ⟨A7, C7, c7, d7, rl7, NB⟩, An, Au, n1, n2, d1, d2, cl, cu, ep, off⟩, Ao, no, co, rfl, hno.out, ?_, ?_, Mm_setz (Mm_setz M11.out MZ9.out Z11.out (by decide) 0 _) MZ9.out (blk_st Z11.out 0 _) (by decide) 1 _, rfl, rfl, Kp_past (Kp_past KP11.out HGZ'.out 0 _) HGZ'.out 1 _, HMZ9.out⟩
          · exact Rd.keep' (Rd.keep' N9.out (Nat.lt_succ_self _) (fun a ha => by have := F9.out a ha; omega) _) (Nat.lt_succ_self _) (fun a ha => by have := F9.out a ha; omega) _
          · intro a ha
            exact Nat.le_trans hwl.out (F9.out a ha)
        have HF := Lib.hid hfin
        have HEQ := Lib.hid HEQ
        clear hfin O9
        obtain ⟨z0, z1, z2, z3⟩ := q2b Z11.out
        have zx : (wr.setCell ⟨gZ, 0, none⟩ (.int .i64 0)).cell? ⟨gZ, 1, none⟩ = some (.int .i64 0) := (blk_st Z11.out 0 (.int .i64 0)).cell 1
        go_wp2_with fail
        obtain ⟨e0, e1, _, _⟩ := q2b F3
        clear F3
        unfold st2 at e0 e1 HF
        exact bodyPost_ret (v := .tuple #[.agg #[.int .i64 0, .int .i64 (nI : Int)], .slice Ao no co]) (by simp [results, Try.results24, go_sem, e0, e1]) rfl (by first | exact HF.out | (rw [HEQ.out]; exact HF.out))
end Go.Proofs.Ytkmkaidhpbjbnaa.Mdy

/- Plain words for messages and their bytes, over any program: what is laid is taken again, what is taken is laid by just its bytes. No condition. -/
namespace Go.Proofs.Ytkmkaidhpbjbnaa.Wpl
set_option maxRecDepth 100000
open Go.RowKit Mem
set_option linter.unusedVariables false

/-! ### bytes -/
def bts (l : List UInt8) : List Value := l.map fun b => Value.int .u8 (b.toNat : Int)
theorem bts_len (l : List UInt8) : (bts l).length = l.length := by simp [bts]
def By (w : World) (B : Nat) (A : Option Addr) (l : List UInt8) : Prop := Rd w B A (bts l)
theorem By.at {w : World} {B : Nat} {A : Option Addr} {l : List UInt8} (h : By w B A l) {i : Nat} (hi : i < l.length) :
    ∃ b o, A = some ⟨b, o, none⟩ ∧ b < B ∧ ∀ j (hj : j < l.length), w.cell? ⟨b, o + j, none⟩ = some (.int .u8 (l[j].toNat : Int)) := by
  obtain ⟨b, o, hA, hb, hc⟩ := Rd.at h (by intro e; have := bts_len l; rw [e] at this; simp at this; omega)
  exact ⟨b, o, hA, hb, fun j hj => hc j _ (by simp [bts, hj])⟩
/-! ### messages -/
structure M where
  k : Int
  a : Int
  s : Int
  x : Bool
  p : Int
  q : Int
  n : Int
  t : Int
  i : Int
  y : Int
  z : Int
  v : Int
def mvl (m : M) : Value := .agg #[.int .i64 m.k, .int .i64 m.a, .int .i64 m.s, .bool m.x, .int .i64 m.p, .int .i64 m.q, .int .i64 m.n, .int .i64 m.t, .int .i64 m.i, .int .i64 m.y, .int .i64 m.z, .int .i64 m.v]
def m0 : M := ⟨0, 0, 0, false, 0, 0, 0, 0, 0, 0, 0, 0⟩
def eqM (m n : M) : Bool := m.k == n.k && (m.a == n.a && (m.s == n.s && (m.x == n.x && (m.p == n.p && (m.q == n.q && (m.n == n.n && m.t == n.t)))))) && (m.i == n.i && (m.y == n.y && (m.z == n.z && m.v == n.v)))
theorem eqM_iff (m n : M) : eqM m n = true ↔ m = n := by
  constructor
  · intro h
    simp only [eqM, Bool.and_eq_true, beq_iff_eq] at h
    obtain ⟨⟨h0, h1, h2, h3, h4, h5, h6, h7⟩, h8, h9, h10, h11⟩ := h
    cases m
    cases n
    simp only at h0 h1 h2 h3 h4 h5 h6 h7 h8 h9 h10 h11
    subst h0 h1 h2 h3 h4 h5 h6 h7 h8 h9 h10 h11
    rfl
  · rintro rfl
    simp [eqM]
def alM (m : M) : M :=
  if m.k = 0 then { m0 with k := m.k, a := m.a, s := m.s, x := m.x, p := m.p, q := m.q, n := m.n, t := m.t }
  else if m.k = 1 ∨ m.k = 3 then { m0 with k := m.k, i := m.i }
  else if m.k = 2 then { m0 with k := m.k, i := m.i, y := m.y }
  else if m.k = 6 then { m0 with k := m.k, z := m.z, v := m.v }
  else { m0 with k := m.k }
def fitP (m : M) : Prop := (0 ≤ m.a ∧ m.a ≤ 65535) ∧ (0 ≤ m.s ∧ m.s ≤ 65535) ∧ (0 ≤ m.z ∧ m.z ≤ 65535) ∧ (0 ≤ m.i ∧ m.i ≤ 4294967295) ∧ 0 ≤ m.p ∧ 0 ≤ m.q ∧ 0 ≤ m.n ∧ 0 ≤ m.t ∧ 0 ≤ m.y ∧ 0 ≤ m.v
def fitM (m : M) : Bool := decide ((0 ≤ m.a ∧ m.a ≤ 65535) ∧ (0 ≤ m.s ∧ m.s ≤ 65535) ∧ (0 ≤ m.z ∧ m.z ≤ 65535) ∧ (0 ≤ m.i ∧ m.i ≤ 4294967295) ∧ 0 ≤ m.p ∧ 0 ≤ m.q ∧ 0 ≤ m.n ∧ 0 ≤ m.t ∧ 0 ≤ m.y ∧ 0 ≤ m.v)
theorem fitM_of {m : M} (h : fitM m = true) : fitP m := by
  unfold fitM at h
  unfold fitP
  simp only [decide_eq_true_eq] at h
  exact h
def rightM (m : M) : Bool := (decide (0 ≤ m.k) && decide (m.k ≤ 6)) && (eqM m (alM m) && fitM m)
theorem rightM_of {m : M} (h : rightM m = true) : 0 ≤ m.k ∧ m.k ≤ 6 ∧ m = alM m ∧ fitP m := by
  unfold rightM at h
  simp only [Bool.and_eq_true, decide_eq_true_eq] at h
  exact ⟨h.1.1, h.1.2, (eqM_iff _ _).1 h.2.1, fitM_of h.2.2⟩
/-! ### what is taken -/
theorem seg (l : List UInt8) (o s : Nat) : l.take (o + s) = l.take o ++ (l.drop o).take s := by rw [List.take_add]
theorem tk (l : List UInt8) (o s e : Nat) (he : o + s = e) (xs : List UInt8) (h : xs = (l.drop o).take s) : l.take o ++ xs = l.take e := by subst he; rw [seg, h]
theorem nn {x : Int} (h : 0 ≤ x) : ((x.toNat : Nat) : Int) = x := Int.toNat_of_nonneg h
end Go.Proofs.Ytkmkaidhpbjbnaa.Wpl

/- Contracts of wire's small functions, and of the reference's: which messages may be, a message with its kind's fields alone. No condition. -/
namespace Go.Proofs.Ytkmkaidhpbjbnaa.Wmr
set_option maxRecDepth 100000
open Go.ChangeShapes Go.WideShapes Go.ChangeAt Go.RowKit Mem Tre Ref3 Law3 Fix3 CrdB Wpl
set_option linter.unusedVariables false
set_option linter.unusedSimpArgs false

theorem eqP (w : World) (m n : M) : (binOp .eql 50 (mvl m) (mvl n)).run Try.prog w = .ok (.bool (eqM m n)) w := by
  have p1 : Try.prog.stoodInHeld 50 = false := by kernel_rfl
  have p2 : Try.prog.stoodInHeld 48 = false := by kernel_rfl
  have u1 : Try.prog.underlying 50 = some (.struct (Try.prog.fieldsOf 50)) := by kernel_rfl
  have u2 : Try.prog.underlying 48 = some (.struct (Try.prog.fieldsOf 48)) := by kernel_rfl
  unfold mvl
  rw [run_eql_struct, run_equalIn_agg _ _ _ _ _ u1 p1]
  simp only [Program.fieldsOf, Try.underlying50]
  simp [Op.eqFields, go_sem, Program.fieldsOf, Try.underlying50, Try.underlying48, Try.underlying3, Try.underlying2, Try.underlying4, part]
  by_cases e0 : m.k = n.k
  case neg => rw [if_neg e0]; simp [eqM, e0]
  rw [if_pos e0]
  by_cases e1 : m.a = n.a
  case neg => rw [if_neg e1]; simp [eqM, e1]
  rw [if_pos e1]
  by_cases e2 : m.s = n.s
  case neg => rw [if_neg e2]; simp [eqM, e2]
  rw [if_pos e2]
  by_cases e3 : m.x = n.x
  case neg => rw [if_neg e3]; simp [eqM, e3]
  rw [if_pos e3]
  by_cases e4 : m.p = n.p
  case neg => rw [if_neg e4]; simp [eqM, e4]
  rw [if_pos e4]
  by_cases e5 : m.q = n.q
  case neg => rw [if_neg e5]; simp [eqM, e5]
  rw [if_pos e5]
  by_cases e6 : m.n = n.n
  case neg => rw [if_neg e6]; simp [eqM, e6]
  rw [if_pos e6]
  by_cases e7 : m.t = n.t
  case neg => rw [if_neg e7]; simp [eqM, e7]
  rw [if_pos e7]
  by_cases e8 : m.i = n.i
  case neg => rw [if_neg e8]; simp [eqM, e8]
  rw [if_pos e8]
  by_cases e9 : m.y = n.y
  case neg => rw [if_neg e9]; simp [eqM, e9]
  rw [if_pos e9]
  by_cases e10 : m.z = n.z
  case neg => rw [if_neg e10]; simp [eqM, e10]
  rw [if_pos e10]
  by_cases e11 : m.v = n.v
  case neg => rw [if_neg e11]; simp [eqM, e11]
  rw [if_pos e11]
  simp [eqM, e0, e1, e2, e3, e4, e5, e6, e7, e8, e9, e10, e11]
theorem eqP12 (k1 a1 s1 p1 q1 n1 t1 i1 y1 z1 v1 k2 a2 s2 p2 q2 n2 t2 i2 y2 z2 v2 : Int) (x1 x2 : Bool) (w : World) : (binOp .eql 50 (.agg #[.int .i64 k1, .int .i64 a1, .int .i64 s1, .bool x1, .int .i64 p1, .int .i64 q1, .int .i64 n1, .int .i64 t1, .int .i64 i1, .int .i64 y1, .int .i64 z1, .int .i64 v1]) (.agg #[.int .i64 k2, .int .i64 a2, .int .i64 s2, .bool x2, .int .i64 p2, .int .i64 q2, .int .i64 n2, .int .i64 t2, .int .i64 i2, .int .i64 y2, .int .i64 z2, .int .i64 v2])).run Try.prog w = .ok (.bool (eqM ⟨k1, a1, s1, x1, p1, q1, n1, t1, i1, y1, z1, v1⟩ ⟨k2, a2, s2, x2, p2, q2, n2, t2, i2, y2, z2, v2⟩)) w :=
  eqP w ⟨k1, a1, s1, x1, p1, q1, n1, t1, i1, y1, z1, v1⟩ ⟨k2, a2, s2, x2, p2, q2, n2, t2, i2, y2, z2, v2⟩
def MadeM (m : M) (w : World) (e : Ending) (w' : World) : Prop := e = .returned (mvl m) ∧ Below w.heap.size w w'
set_option maxHeartbeats 4000000 in
theorem alone_any (m : M) (w : World) : Calls Try.prog 47 #[mvl m] w (MadeM (alM m) w) := by
  obtain ⟨k, a, s, x, p, q, n, t, i, y, z, v⟩ := m
  show Calls Try.prog 47 #[.agg #[.int .i64 k, .int .i64 a, .int .i64 s, .bool x, .int .i64 p, .int .i64 q, .int .i64 n, .int .i64 t, .int .i64 i, .int .i64 y, .int .i64 z, .int .i64 v]] w (MadeM (alM ⟨k, a, s, x, p, q, n, t, i, y, z, v⟩) w)
  by_cases k0 : k = 0
  · have q0 : (k == 0) = true := beq_iff_eq.2 k0
    have hal : alM ⟨k, a, s, x, p, q, n, t, i, y, z, v⟩ = ⟨k, a, s, x, p, q, n, t, 0, 0, 0, 0⟩ := by unfold alM; rw [if_pos k0]; rfl
    rw [hal]
    go_enter Try.func47, Try.ntmps47
    go_wp2_with fail
    exact bodyPost_ret (v := .agg #[.int .i64 k, .int .i64 a, .int .i64 s, .bool x, .int .i64 p, .int .i64 q, .int .i64 n, .int .i64 t, .int .i64 0, .int .i64 0, .int .i64 0, .int .i64 0]) (by simp [results, Try.results47, go_sem, k0]) rfl ⟨rfl, ((Below.refl _ _).alloc (Nat.le_refl _) _).alloc (by simp) _⟩
  · have q0 : (k == 0) = false := beq_eq_false_iff_ne.2 k0
    by_cases k1 : k = 1
    · have q1 : (k == 1) = true := beq_iff_eq.2 k1
      have hal : alM ⟨k, a, s, x, p, q, n, t, i, y, z, v⟩ = ⟨k, 0, 0, false, 0, 0, 0, 0, i, 0, 0, 0⟩ := by unfold alM; rw [if_neg k0, if_pos (.inl k1)]; rfl
      rw [hal]
      go_enter Try.func47, Try.ntmps47
      go_wp2_with fail
      exact bodyPost_ret (v := .agg #[.int .i64 k, .int .i64 0, .int .i64 0, .bool false, .int .i64 0, .int .i64 0, .int .i64 0, .int .i64 0, .int .i64 i, .int .i64 0, .int .i64 0, .int .i64 0]) (by simp [results, Try.results47, go_sem, k1]) rfl ⟨rfl, ((Below.refl _ _).alloc (Nat.le_refl _) _).alloc (by simp) _⟩
    · have q1 : (k == 1) = false := beq_eq_false_iff_ne.2 k1
      by_cases k3 : k = 3
      · have q3 : (k == 3) = true := beq_iff_eq.2 k3
        have hal : alM ⟨k, a, s, x, p, q, n, t, i, y, z, v⟩ = ⟨k, 0, 0, false, 0, 0, 0, 0, i, 0, 0, 0⟩ := by unfold alM; rw [if_neg k0, if_pos (.inr k3)]; rfl
        rw [hal]
        go_enter Try.func47, Try.ntmps47
        go_wp2_with fail
        exact bodyPost_ret (v := .agg #[.int .i64 k, .int .i64 0, .int .i64 0, .bool false, .int .i64 0, .int .i64 0, .int .i64 0, .int .i64 0, .int .i64 i, .int .i64 0, .int .i64 0, .int .i64 0]) (by simp [results, Try.results47, go_sem, k3]) rfl ⟨rfl, ((Below.refl _ _).alloc (Nat.le_refl _) _).alloc (by simp) _⟩
      · have q3 : (k == 3) = false := beq_eq_false_iff_ne.2 k3
        have k13 : ¬ (k = 1 ∨ k = 3) := by omega
        by_cases k2 : k = 2
        · have q2 : (k == 2) = true := beq_iff_eq.2 k2
          have hal : alM ⟨k, a, s, x, p, q, n, t, i, y, z, v⟩ = ⟨k, 0, 0, false, 0, 0, 0, 0, i, y, 0, 0⟩ := by unfold alM; rw [if_neg k0, if_neg k13, if_pos k2]; rfl
          rw [hal]
          go_enter Try.func47, Try.ntmps47
          go_wp2_with fail
          exact bodyPost_ret (v := .agg #[.int .i64 k, .int .i64 0, .int .i64 0, .bool false, .int .i64 0, .int .i64 0, .int .i64 0, .int .i64 0, .int .i64 i, .int .i64 y, .int .i64 0, .int .i64 0]) (by simp [results, Try.results47, go_sem, k2]) rfl ⟨rfl, ((Below.refl _ _).alloc (Nat.le_refl _) _).alloc (by simp) _⟩
        · have q2 : (k == 2) = false := beq_eq_false_iff_ne.2 k2
          by_cases k6 : k = 6
          · have q6 : (k == 6) = true := beq_iff_eq.2 k6
            have hal : alM ⟨k, a, s, x, p, q, n, t, i, y, z, v⟩ = ⟨k, 0, 0, false, 0, 0, 0, 0, 0, 0, z, v⟩ := by unfold alM; rw [if_neg k0, if_neg k13, if_neg k2, if_pos k6]; rfl
            rw [hal]
            go_enter Try.func47, Try.ntmps47
            go_wp2_with fail
            exact bodyPost_ret (v := .agg #[.int .i64 k, .int .i64 0, .int .i64 0, .bool false, .int .i64 0, .int .i64 0, .int .i64 0, .int .i64 0, .int .i64 0, .int .i64 0, .int .i64 z, .int .i64 v]) (by simp [results, Try.results47, go_sem, k6]) rfl ⟨rfl, ((Below.refl _ _).alloc (Nat.le_refl _) _).alloc (by simp) _⟩
          · have q6 : (k == 6) = false := beq_eq_false_iff_ne.2 k6
            have hal : alM ⟨k, a, s, x, p, q, n, t, i, y, z, v⟩ = ⟨k, 0, 0, false, 0, 0, 0, 0, 0, 0, 0, 0⟩ := by unfold alM; rw [if_neg k0, if_neg k13, if_neg k2, if_neg k6]; rfl
            rw [hal]
            go_enter Try.func47, Try.ntmps47
            go_wp2_with fail
            exact bodyPost_ret (v := .agg #[.int .i64 k, .int .i64 0, .int .i64 0, .bool false, .int .i64 0, .int .i64 0, .int .i64 0, .int .i64 0, .int .i64 0, .int .i64 0, .int .i64 0, .int .i64 0]) (by simp [results, Try.results47, go_sem, k0]) rfl ⟨rfl, ((Below.refl _ _).alloc (Nat.le_refl _) _).alloc (by simp) _⟩
end Go.Proofs.Ytkmkaidhpbjbnaa.Wmr
