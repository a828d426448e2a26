/- Texts side by side: each has its own first line. -/
import Derived.Deep.DeepCutAuto
import Derived.Test.YtkmkaidhpbjbnaaQb
import Derived.Test.YtkmkaidhpbjbnaaQd
/- Contract of a Model's order. Condition: the Model lies in memory and is one that may be. -/
namespace Go.Proofs.Ytkmkaidhpbjbnaa.Mdo
set_option maxRecDepth 100000
open Go.ChangeShapes Go.WideShapes Go.ChangeAt Go.RowKit Mem Tre Ref3 Law3 Fix3 Cfg Crd CrdB CrdC Rr4 Rul3 Res Rsf Bkp Bks Bkf Bcl Dlk Stk Apt Bko Bku Bka Bkc Bki Bkq Mdp Mdz Mds Lat
open Rul1 hiding below_step
set_option linter.unusedVariables false
set_option linter.unusedSimpArgs false
theorem Bm_st4 {w : World} {base gB : Nat} {A C : Option Addr} {rl : List Rc} {b : Bk} (h : Bm w A C rl b) (hf : Fb base A C rl) (hg : gB < base) (v0 v1 v2 v3 : Value) : Bm (st4 w gB v0 v1 v2 v3) A C rl b := by
  have k : ∀ {X : Option Addr} {xs : List Value}, Rd w w.heap.size X xs → (∀ a, X = some a → base ≤ a.block) → Rd (st4 w gB v0 v1 v2 v3) (st4 w gB v0 v1 v2 v3).heap.size X xs := by
    intro X xs hx hn
    have hne : ∀ a, X = some a → a.block ≠ gB := fun a ha => by have := hn a ha; omega
    unfold st4
    exact Rd.keep' (Rd.keep' (Rd.keep' (Rd.keep' hx (Nat.lt_succ_self _) hne _) (Nat.lt_succ_self _) hne _) (Nat.lt_succ_self _) hne _) (Nat.lt_succ_self _) hne _
  exact ⟨k h.r hf.1, h.e, fun i hi => k (h.n i hi) (hf.2.2 i hi), k h.o hf.2.1⟩
theorem wpL_two {P : Program} {ops : Array Oper} {Q : Exit → Act → World → Prop} {md : Region.Mode} {T : World → Prop} {st : List Nat} {m n k : Nat} {om on : Oper} {up : Array Bool} {a : Act} {w : World} (hr : Region.ready md ops up = [m, n]) (hm : ops[m]? = some om) (hn : ops[n]? = some on)
    (h1 : ∀ K : Act → World → Prop, Shut (∀ a w, T w → wpL P md ops Q T st k (up.setIfInBounds m true) a w → K a w) → if Region.wanted om (yielded ops a.tmps) = true then Oper.wp P om a w K Q else K (a.put om.dst undef) w)
    (h2 : ∀ K : Act → World → Prop, Shut (∀ a w, T w → wpL P md ops Q T st k (up.setIfInBounds n true) a w → K a w) → if Region.wanted on (yielded ops a.tmps) = true then Oper.wp P on a w K Q else K (a.put on.dst undef) w) :
    wpL P md ops Q T st (k + 1) up a w := by
  refine ⟨fun h0 => (by rw [hr] at h0; cases h0), ?_⟩
  rw [hr]
  intro j hj
  simp only [List.mem_cons, List.not_mem_nil, or_false] at hj
  rcases hj with rfl | rfl
  · exact wpOp_step hm (fun K hK => h1 K (fun a w hT hW => hK a w ⟨fun _ => hT, hW⟩))
  · exact wpOp_step hn (fun K hK => h2 K (fun a w hT hW => hK a w ⟨fun _ => hT, hW⟩))
def bk0 : Bk := ⟨0, 0, [], []⟩
def gB (l : List Bk) (i : Nat) : Bk := l.getD i bk0
def worF (p : Pm) (o : Od) : Int × Int := lokF p.ac p.sy o.a o.s o.p o.q o.n o.t
def shaP (p : Pm) (o : Od) : Nat := (shaF p.sh p.ac.length o.a).toNat
def ordF (p : Pm) (o : Od) : Pm × (Int × Int × List (Int × Int)) :=
  if p.off = true then (p, (2, 0, []))
  else if (worF p o).1 ≠ 0 then (p, ((worF p o).1, 0, []))
  else if lookF p.ra p.ta (gB p.bs (shaP p o)) o ≠ 0 then (p, (lookF p.ra p.ta (gB p.bs (shaP p o)) o, 0, []))
  else if (Cpl.resF p.cl p.cu (gI p.ac o.a.toNat) (worF p o).2).1 ≠ 0 then (p, ((Cpl.resF p.cl p.cu (gI p.ac o.a.toNat) (worF p o).2).1, 0, []))
  else ({ p with bs := p.bs.set (shaP p o) (Bks.addF p.sh p.wi (gB p.bs (shaP p o)) o p.ep), cu := Cpl.resU p.cl p.cu (gI p.ac o.a.toNat) (worF p o).2 },
    (0, (gB p.bs (shaP p o)).sh + p.sh * (gB p.bs (shaP p o)).ca, [(0, (gB p.bs (shaP p o)).sh + p.sh * (gB p.bs (shaP p o)).ca)]))
theorem ord_off {p : Pm} {o : Od} (h : p.off = true) : ordF p o = (p, (2, 0, [])) := by unfold ordF; rw [if_pos h]
theorem ord_lok {p : Pm} {o : Od} (h : p.off = false) (h1 : (worF p o).1 ≠ 0) : ordF p o = (p, ((worF p o).1, 0, [])) := by unfold ordF; rw [if_neg (by rw [h]; decide), if_pos h1]
theorem ord_look {p : Pm} {o : Od} (h : p.off = false) (h1 : ¬ (worF p o).1 ≠ 0) (h2 : lookF p.ra p.ta (gB p.bs (shaP p o)) o ≠ 0) : ordF p o = (p, (lookF p.ra p.ta (gB p.bs (shaP p o)) o, 0, [])) := by unfold ordF; rw [if_neg (by rw [h]; decide), if_neg h1, if_pos h2]
theorem ord_res {p : Pm} {o : Od} (h : p.off = false) (h1 : ¬ (worF p o).1 ≠ 0) (h2 : ¬ lookF p.ra p.ta (gB p.bs (shaP p o)) o ≠ 0) (h3 : (Cpl.resF p.cl p.cu (gI p.ac o.a.toNat) (worF p o).2).1 ≠ 0) :
    ordF p o = (p, ((Cpl.resF p.cl p.cu (gI p.ac o.a.toNat) (worF p o).2).1, 0, [])) := by unfold ordF; rw [if_neg (by rw [h]; decide), if_neg h1, if_neg h2, if_pos h3]
theorem ord_res' {p : Pm} {o : Od} {r1 : Int} (h : p.off = false) (h1 : ¬ (worF p o).1 ≠ 0) (h2 : ¬ lookF p.ra p.ta (gB p.bs (shaP p o)) o ≠ 0) (hr : (Cpl.resF p.cl p.cu (gI p.ac o.a.toNat) (worF p o).2).1 = r1) (h3 : r1 ≠ 0) : ordF p o = (p, (r1, 0, [])) := by
  have := ord_res h h1 h2 (by rw [hr]; exact h3)
  rw [hr] at this
  exact this
theorem ord_new {p : Pm} {o : Od} (h : p.off = false) (h1 : ¬ (worF p o).1 ≠ 0) (h2 : ¬ lookF p.ra p.ta (gB p.bs (shaP p o)) o ≠ 0) (h3 : ¬ (Cpl.resF p.cl p.cu (gI p.ac o.a.toNat) (worF p o).2).1 ≠ 0) :
    ordF p o = ({ p with bs := p.bs.set (shaP p o) (Bks.addF p.sh p.wi (gB p.bs (shaP p o)) o p.ep), cu := Cpl.resU p.cl p.cu (gI p.ac o.a.toNat) (worF p o).2 },
    (0, (gB p.bs (shaP p o)).sh + p.sh * (gB p.bs (shaP p o)).ca, [(0, (gB p.bs (shaP p o)).sh + p.sh * (gB p.bs (shaP p o)).ca)])) := by unfold ordF; rw [if_neg (by rw [h]; decide), if_neg h1, if_neg h2, if_neg h3]
/-- a Model that may be -/
structure Vq (m : Nat) (q : Mq) : Prop where
  nl : q.nl ≤ 100
  al : q.al ≤ 100
  al1 : 1 ≤ q.al
  sl : q.sl ≤ 100
  ws : WfS q.sy
  wa : WfI q.ac
  sh : 1 ≤ q.sh ∧ q.sh ≤ 1000
  nb : (q.nb : Int) = q.sh
  wi : 0 ≤ q.wi ∧ q.wi ≤ 1000
  bk : ∀ i, i < q.xs.length → Fw m (gX q.xs i).b ∧ (gX q.xs i).b.rows.length = q.al
  cr : GoodSt q.cl q.cu
theorem lok_ok {ac : List Int} {sy : List (Int × Int × Int × Nat)} {a s p q n t : Int} (h : ¬ (lokF ac sy a s p q n t).1 ≠ 0) : inR ac.length a = true ∧ -9223372036854775808 ≤ (lokF ac sy a s p q n t).2 ∧ (lokF ac sy a s p q n t).2 ≤ 9223372036854775807 := by
  have h' : (lokF ac sy a s p q n t).1 = 0 := by omega
  unfold lokF at h' ⊢
  split at h'
  · simp at h'
  · rename_i c1
    rw [if_neg c1]
    split at h'
    · simp at h'
    · rename_i c2
      rw [if_neg c2]
      split at h'
      · simp at h'
      · rename_i c3
        rw [if_neg c3]
        split at h'
        · simp at h'
        · rename_i c4
          rw [if_neg c4]
          split at h'
          · simp at h'
          · rename_i c5
            rw [if_neg c5]
            split at h'
            · simp at h'
            · rename_i c6
              rw [if_neg c6]
              split at h'
              · simp at h'
              · rename_i c7
                rw [if_neg c7]
                have h5 : Fix.inB (p * q) = true := by simpa using c5
                simp only [Fix.inB, Bool.and_eq_true, decide_eq_true_eq] at h5
                exact ⟨by simpa using c2, h5.1, h5.2⟩
set_option maxHeartbeats 8000000 in
theorem order_any (base g m : Nat) (q : Mq) (oa os op oq on ot : Int) (ox : Bool) (w : World) (h : Hid (Mm base w g q)) (hv : Hid (Vq m q)) (hm : m ≤ 900) (hp : inI op) (hq : inI oq) :
    Calls Try.prog 26 #[.pointer (some ⟨g, 0, none⟩), .agg #[.int .i64 oa, .int .i64 os, .bool ox, .int .i64 op, .int .i64 oq, .int .i64 on, .int .i64 ot]] w (MadeDo base g q (ordF (plO q) ⟨oa, os, ox, op, oq, on, ot⟩).1 (ordF (plO q) ⟨oa, os, ox, op, oq, on, ot⟩).2.1 (ordF (plO q) ⟨oa, os, ox, op, oq, on, ot⟩).2.2.1 (ordF (plO q) ⟨oa, os, ox, op, oq, on, ot⟩).2.2.2 w) := by
  obtain ⟨sh, wi, ra, ta, A, B, C, nl, al, sl, c, d, f, nd, ac, sy, Ab, nb, cb, xs, An, Au, n1, n2, d1, d2, cl, cu, ep, off⟩ := q
  obtain ⟨v1, v2, va1, v3, v4, v5, v6, v7, v8, v9, v10⟩ := hv.out
  obtain ⟨l1, l2, l3, l4, l5, l6⟩ := (⟨h.out.l1, h.out.l2, h.out.l3, h.out.l4, h.out.l5, h.out.l6⟩ : nl = nd.length ∧ al = ac.length ∧ sl = sy.length ∧ nb = xs.length ∧ n1 = cl.length ∧ n2 = cu.length)
  have L1 := Lib.hid l1
  have L2 := Lib.hid l2
  have L3 := Lib.hid l3
  have L4 := Lib.hid l4
  have L5 := Lib.hid l5
  have L6 := Lib.hid l6
  have V4 := Lib.hid v4
  have V5 := Lib.hid v5
  have V7 := Lib.hid v7
  have V9 := Lib.hid v9
  have V10 := Lib.hid v10
  simp only at v1 v2 va1 v3 v6 v8
  obtain ⟨gb, hgb⟩ := own_at h.out.row (by show 0 < nb; simp only at v7; omega)
  obtain ⟨b5, o5, hb5, hb5l, hac⟩ := Ris.at (i := 0) h.out.ris (by show 0 < ac.length; omega)
  simp only at hgb hb5
  subst hgb
  subst hb5
  obtain ⟨wn, hwn⟩ : ∃ k : Nat, wi = k := ⟨wi.toNat, by omega⟩
  have hwn9 : wn ≤ 1000 := by omega
  subst hwn
  have HAC := Lib.hid hac
  clear l1 l2 l3 l4 l5 l6 v4 v5 v7 v9 v10 hac
  have U0 : Hid (Below w.heap.size w ((w.alloc (.cells #[.int .i64 oa, .int .i64 os, .bool ox, .int .i64 op, .int .i64 oq, .int .i64 on, .int .i64 ot] 48)).alloc (.cells #[.int .i64 0, .int .i64 0] 43))) := ((Below.refl _ _).alloc (Nat.le_refl _) _).alloc (by simp) _
  have O0 : Hid (Blk ((w.alloc (.cells #[.int .i64 oa, .int .i64 os, .bool ox, .int .i64 op, .int .i64 oq, .int .i64 on, .int .i64 ot] 48)).alloc (.cells #[.int .i64 0, .int .i64 0] 43)) w.heap.size 48 #[.int .i64 oa, .int .i64 os, .bool ox, .int .i64 op, .int .i64 oq, .int .i64 on, .int .i64 ot]) := (Blk.fresh w _ _).alloc _
  have Z0 : Hid (Blk ((w.alloc (.cells #[.int .i64 oa, .int .i64 os, .bool ox, .int .i64 op, .int .i64 oq, .int .i64 on, .int .i64 ot] 48)).alloc (.cells #[.int .i64 0, .int .i64 0] 43)) (w.heap.size + 1) 43 #[.int .i64 0, .int .i64 0]) := blk_hd (by simp)
  have M0 : Hid (Mm base ((w.alloc (.cells #[.int .i64 oa, .int .i64 os, .bool ox, .int .i64 op, .int .i64 oq, .int .i64 on, .int .i64 ot] 48)).alloc (.cells #[.int .i64 0, .int .i64 0] 43)) g ⟨sh, (wn : Int), ra, ta, A, some ⟨b5, o5, none⟩, C, nl, al, sl, c, d, f, nd, ac, sy, some ⟨gb, 0, none⟩, nb, cb, xs, An, Au, n1, n2, d1, d2, cl, cu, ep, off⟩) := Mm_below h.out U0.out
  have MZ0 : Hid (Mz (w.heap.size + 1) g ⟨sh, (wn : Int), ra, ta, A, some ⟨b5, o5, none⟩, C, nl, al, sl, c, d, f, nd, ac, sy, some ⟨gb, 0, none⟩, nb, cb, xs, An, Au, n1, n2, d1, d2, cl, cu, ep, off⟩) := Mz_of h.out (by omega)
  have hgl : Hid (g < w.heap.size) := (Mm_lt h.out).1
  go_enter Try.func26, Try.ntmps26
  go_upto_region 1 with fail
  obtain ⟨gO, hgO⟩ : ∃ k, k = w.heap.size := ⟨_, rfl⟩
  obtain ⟨gZ, hgZ⟩ : ∃ k, k = w.heap.size + 1 := ⟨_, rfl⟩
  have O1 : Hid (Blk ((w.alloc (.cells #[.int .i64 oa, .int .i64 os, .bool ox, .int .i64 op, .int .i64 oq, .int .i64 on, .int .i64 ot] 48)).alloc (.cells #[.int .i64 0, .int .i64 0] 43)) gO 48 #[.int .i64 oa, .int .i64 os, .bool ox, .int .i64 op, .int .i64 oq, .int .i64 on, .int .i64 ot]) := by rw [hgO]; exact O0.out
  have Z1 : Hid (Blk ((w.alloc (.cells #[.int .i64 oa, .int .i64 os, .bool ox, .int .i64 op, .int .i64 oq, .int .i64 on, .int .i64 ot] 48)).alloc (.cells #[.int .i64 0, .int .i64 0] 43)) gZ 43 #[.int .i64 0, .int .i64 0]) := by rw [hgZ]; exact Z0.out
  have MZ : Hid (Mz gZ g ⟨sh, (wn : Int), ra, ta, A, some ⟨b5, o5, none⟩, C, nl, al, sl, c, d, f, nd, ac, sy, some ⟨gb, 0, none⟩, nb, cb, xs, An, Au, n1, n2, d1, d2, cl, cu, ep, off⟩) := by rw [hgZ]; exact MZ0.out
  have HGZ : Hid (w.heap.size ≤ gZ) := by show _ ≤ _; omega
  simp only [← hgZ]
  simp only [← hgO]
  clear hgO hgZ O0 Z0 MZ0
  generalize ((w.alloc (.cells #[.int .i64 oa, .int .i64 os, .bool ox, .int .i64 op, .int .i64 oq, .int .i64 on, .int .i64 ot] 48)).alloc (.cells #[.int .i64 0, .int .i64 0] 43)) = w0 at O1 Z1 U0 M0 ⊢
  have K0 : Hid (Blk w0 g 82 #[.int .i64 sh, .int .i64 (wn : Int), .int .i64 ra, .int .i64 ta, .slice A nl c, .slice (some ⟨b5, o5, none⟩) al d, .slice C sl f, .slice (some ⟨gb, 0, none⟩) nb cb, .slice An n1 d1, .slice Au n2 d2, .int .i64 ep, .bool off]) := M0.out.blk
  obtain ⟨k0, k1, k2, k3, k4, k5, k6, k7, k8, k9, k10, k11, f0, f1, f2, f3, f4, f5, f6, f7, f8, f9, f10, f11⟩ := q12_of K0.out
  by_cases hoff : off = true
  case pos =>
    subst hoff
    have HP0 : Hid (ordF (plO ⟨sh, (wn : Int), ra, ta, A, some ⟨b5, o5, none⟩, C, nl, al, sl, c, d, f, nd, ac, sy, some ⟨gb, 0, none⟩, nb, cb, xs, An, Au, n1, n2, d1, d2, cl, cu, ep, true⟩) ⟨oa, os, ox, op, oq, on, ot⟩ = ((plO ⟨sh, (wn : Int), ra, ta, A, some ⟨b5, o5, none⟩, C, nl, al, sl, c, d, f, nd, ac, sy, some ⟨gb, 0, none⟩, nb, cb, xs, An, Au, n1, n2, d1, d2, cl, cu, ep, true⟩), (2, 0, []))) := ord_off rfl
    go_wp2_with fail
    refine (refused_any 2 _).mono ?_
    rintro e wR ⟨rfl, hbR⟩
    have HBR := Lib.hid (CrdB.below_step (Lib.hid (Below.refl w0.heap.size w0)).out hbR)
    have M1 : Hid (Mm base wR g ⟨sh, (wn : Int), ra, ta, A, some ⟨b5, o5, none⟩, C, nl, al, sl, c, d, f, nd, ac, sy, some ⟨gb, 0, none⟩, nb, cb, xs, An, Au, n1, n2, d1, d2, cl, cu, ep, true⟩) := Mm_below M0.out HBR.out
    have Z2 : Hid (Blk wR gZ 43 #[.int .i64 0, .int .i64 0]) := Blk.below' Z1.out HBR.out
    have U1 : Hid (Kp w wR g (some ⟨gb, 0, none⟩)) := Kp_of_below (CrdB.below_step U0.out HBR.out)
    clear hbR
    obtain ⟨z0, z1, z2, z3⟩ := q2b Z2.out
    have F3 : Blk (st2 wR gZ (.int .i64 2) (.int .i64 0)) gZ 43 #[.int .i64 2, .int .i64 0] := st2_blk Z2.out
    have hfin : MadeDo base g ⟨sh, (wn : Int), ra, ta, A, some ⟨b5, o5, none⟩, C, nl, al, sl, c, d, f, nd, ac, sy, some ⟨gb, 0, none⟩, nb, cb, xs, An, Au, n1, n2, d1, d2, cl, cu, ep, true⟩ (plO ⟨sh, (wn : Int), ra, ta, A, some ⟨b5, o5, none⟩, C, nl, al, sl, c, d, f, nd, ac, sy, some ⟨gb, 0, none⟩, nb, cb, xs, An, Au, n1, n2, d1, d2, cl, cu, ep, true⟩) 2 0 [] w (.returned (.tuple #[.agg #[.int .i64 2, .int .i64 0], .slice none 0 0])) (st2 wR gZ (.int .i64 2) (.int .i64 0)) := by
      unfold st2
      refine madeDo_no (q := ⟨sh, (wn : Int), ra, ta, A, some ⟨b5, o5, none⟩, C, nl, al, sl, c, d, f, nd, ac, sy, some ⟨gb, 0, none⟩, nb, cb, xs, An, Au, n1, n2, d1, d2, cl, cu, ep, true⟩) (Mm_setz (Mm_setz M1.out MZ.out Z2.out (by decide) 0 _) MZ.out (blk_st Z2.out 0 _) (by decide) 1 _) rfl rfl ?_ (fun z _ h => Mz_same h)
      exact Kp_past (Kp_past U1.out (HGZ.out) 0 _) (HGZ.out) 1 _
    have HF := Lib.hid hfin
    clear hfin
    go_wp2_with fail
    obtain ⟨e0, e1, _, _⟩ := q2b F3
    clear F3
    unfold st2 at e0 e1 HF
    exact bodyPost_ret (v := .tuple #[.agg #[.int .i64 2, .int .i64 0], .slice none 0 0]) (by simp [results, Try.results26, go_sem, e0, e1]) rfl (by rw [HP0.out]; exact HF.out)
  case neg =>
    have hoff' : off = false := by simpa using hoff
    subst hoff'
    clear hoff
    go_upto_region 3 with fail
    clear k0 k1 k2 k3 k4 k5 k6 k7 k8 k9 k10 k11 f0 f1 f2 f3 f4 f5 f6 f7 f8 f9 f10 f11 K0
    obtain ⟨wc, ww, hww⟩ : ∃ a b, worF (plO ⟨sh, (wn : Int), ra, ta, A, some ⟨b5, o5, none⟩, C, nl, al, sl, c, d, f, nd, ac, sy, some ⟨gb, 0, none⟩, nb, cb, xs, An, Au, n1, n2, d1, d2, cl, cu, ep, false⟩) ⟨oa, os, ox, op, oq, on, ot⟩ = (a, b) := ⟨_, _, rfl⟩
    have LK := look_any sh (wn : Int) ra ta A (some ⟨b5, o5, none⟩) C c d f nd ac sy oa os ox op oq on ot w0.drew M0.out.smb V4 hp hq (by rw [← L2.out]; omega) (by rw [← L3.out]; omega)
    rw [show lokF ac sy oa os op oq on ot = (wc, ww) from hww, ← L1.out, ← L2.out, ← L3.out] at LK
    have HWW := Lib.hid hww
    clear hww
    have HT : Hid (w0.drew.cell? ⟨g, 0, none⟩ = some (.int .i64 sh) ∧ w0.drew.cell? ⟨g, 1, none⟩ = some (.int .i64 (wn : Int)) ∧ w0.drew.cell? ⟨g, 2, none⟩ = some (.int .i64 ra) ∧ w0.drew.cell? ⟨g, 3, none⟩ = some (.int .i64 ta) ∧ w0.drew.cell? ⟨g, 4, none⟩ = some (.slice A nl c) ∧ w0.drew.cell? ⟨g, 5, none⟩ = some (.slice (some ⟨b5, o5, none⟩) al d) ∧ w0.drew.cell? ⟨g, 6, none⟩ = some (.slice C sl f) ∧ w0.drew.cell? ⟨gO, 0, none⟩ = some (.int .i64 oa) ∧ w0.drew.cell? ⟨gO, 1, none⟩ = some (.int .i64 os) ∧ w0.drew.cell? ⟨gO, 2, none⟩ = some (.bool ox) ∧ w0.drew.cell? ⟨gO, 3, none⟩ = some (.int .i64 op) ∧ w0.drew.cell? ⟨gO, 4, none⟩ = some (.int .i64 oq) ∧ w0.drew.cell? ⟨gO, 5, none⟩ = some (.int .i64 on) ∧ w0.drew.cell? ⟨gO, 6, none⟩ = some (.int .i64 ot)) := ⟨M0.out.blk.cell 0, M0.out.blk.cell 1, M0.out.blk.cell 2, M0.out.blk.cell 3, M0.out.blk.cell 4, M0.out.blk.cell 5, M0.out.blk.cell 6, O1.out.cell 0, O1.out.cell 1, O1.out.cell 2, O1.out.cell 3, O1.out.cell 4, O1.out.cell 5, O1.out.cell 6⟩
    refine wp_region_noPanic ?_
    refine wp_region_L (T := (fun w' => w'.cell? ⟨g, 0, none⟩ = some (.int .i64 sh) ∧ w'.cell? ⟨g, 1, none⟩ = some (.int .i64 (wn : Int)) ∧ w'.cell? ⟨g, 2, none⟩ = some (.int .i64 ra) ∧ w'.cell? ⟨g, 3, none⟩ = some (.int .i64 ta) ∧ w'.cell? ⟨g, 4, none⟩ = some (.slice A nl c) ∧ w'.cell? ⟨g, 5, none⟩ = some (.slice (some ⟨b5, o5, none⟩) al d) ∧ w'.cell? ⟨g, 6, none⟩ = some (.slice C sl f) ∧ w'.cell? ⟨gO, 0, none⟩ = some (.int .i64 oa) ∧ w'.cell? ⟨gO, 1, none⟩ = some (.int .i64 os) ∧ w'.cell? ⟨gO, 2, none⟩ = some (.bool ox) ∧ w'.cell? ⟨gO, 3, none⟩ = some (.int .i64 op) ∧ w'.cell? ⟨gO, 4, none⟩ = some (.int .i64 oq) ∧ w'.cell? ⟨gO, 5, none⟩ = some (.int .i64 on) ∧ w'.cell? ⟨gO, 6, none⟩ = some (.int .i64 ot))) (st := []) (by kernel_rfl) ?_
    refine wpL_word (i := 0) (v := ?_) rfl (by kernel_rfl) (fun _ _ _ h => h) (by kernel_rfl) _ _ _ _ (by kernel_rfl) (by kernel_rfl) (Or.inl ⟨by rfl, ?_⟩) (fun _ => HT.out) ?_
    rotate_left
    · intro w' _
      go_simp
      try with_reducible rfl
    (try simp only [Act.put, List.getElem_toArray, List.getElem_cons_succ, List.getElem_cons_zero, List.setIfInBounds_toArray, List.set_cons_zero, List.set_cons_succ])
    refine wpL_word (i := 1) (v := ?_) rfl (by kernel_rfl) (fun _ _ _ h => h) (by kernel_rfl) _ _ _ _ (by kernel_rfl) (by kernel_rfl) (Or.inl ⟨by rfl, ?_⟩) (fun _ => HT.out) ?_
    rotate_left
    · intro w' _
      go_simp
      try with_reducible rfl
    (try simp only [Act.put, List.getElem_toArray, List.getElem_cons_succ, List.getElem_cons_zero, List.setIfInBounds_toArray, List.set_cons_zero, List.set_cons_succ])
    refine wpL_word (i := 2) (v := ?_) rfl (by kernel_rfl) (fun _ _ _ h => h) (by kernel_rfl) _ _ _ _ (by kernel_rfl) (by kernel_rfl) (Or.inl ⟨by rfl, ?_⟩) (fun _ => HT.out) ?_
    rotate_left
    · intro w' _
      go_simp
      try with_reducible rfl
    (try simp only [Act.put, List.getElem_toArray, List.getElem_cons_succ, List.getElem_cons_zero, List.setIfInBounds_toArray, List.set_cons_zero, List.set_cons_succ])
    refine wpL_load (i := 3) (v := ?_) rfl (by kernel_rfl) (fun _ _ _ h => h) (by kernel_rfl) (by kernel_rfl) _ _ _ _ (by kernel_rfl) (by kernel_rfl) (Or.inl ⟨by rfl, ?_⟩) (by kernel_rfl) HT.out ?_
    rotate_left
    · intro w' hS
      (try dsimp only at hS)
      obtain ⟨x1, x2, x3, x4, x5, x6, x7, x8, x9, x10, x11, x12, x13, x14⟩ := hS
      go_simp
      try with_reducible rfl
    (try simp only [Act.put, List.getElem_toArray, List.getElem_cons_succ, List.getElem_cons_zero, List.setIfInBounds_toArray, List.set_cons_zero, List.set_cons_succ])
    refine wpL_load (i := 4) (v := ?_) rfl (by kernel_rfl) (fun _ _ _ h => h) (by kernel_rfl) (by kernel_rfl) _ _ _ _ (by kernel_rfl) (by kernel_rfl) (Or.inl ⟨by rfl, ?_⟩) (by kernel_rfl) HT.out ?_
    rotate_left
    · intro w' hS
      (try dsimp only at hS)
      obtain ⟨x1, x2, x3, x4, x5, x6, x7, x8, x9, x10, x11, x12, x13, x14⟩ := hS
      go_simp
      try with_reducible rfl
    (try simp only [Act.put, List.getElem_toArray, List.getElem_cons_succ, List.getElem_cons_zero, List.setIfInBounds_toArray, List.set_cons_zero, List.set_cons_succ])
    refine wpL_next (n := 5) (by kernel_rfl) rfl (fun K' hK => ?_)
    go_simp
    refine LK.mono ?_
    rintro e w1 ⟨rfl, hb1⟩
    have HB1 : Hid (Below w0.heap.size w0 w1) := CrdB.below_step (Below.drew (Below.refl _ _)) hb1
    have M1 := Lib.hid (Mm_below M0.out HB1.out)
    have O2 := Lib.hid (Blk.below' O1.out HB1.out)
    have HT2 : Hid (w1.cell? ⟨g, 0, none⟩ = some (.int .i64 sh) ∧ w1.cell? ⟨g, 1, none⟩ = some (.int .i64 (wn : Int)) ∧ w1.cell? ⟨g, 2, none⟩ = some (.int .i64 ra) ∧ w1.cell? ⟨g, 3, none⟩ = some (.int .i64 ta) ∧ w1.cell? ⟨g, 4, none⟩ = some (.slice A nl c) ∧ w1.cell? ⟨g, 5, none⟩ = some (.slice (some ⟨b5, o5, none⟩) al d) ∧ w1.cell? ⟨g, 6, none⟩ = some (.slice C sl f) ∧ w1.cell? ⟨gO, 0, none⟩ = some (.int .i64 oa) ∧ w1.cell? ⟨gO, 1, none⟩ = some (.int .i64 os) ∧ w1.cell? ⟨gO, 2, none⟩ = some (.bool ox) ∧ w1.cell? ⟨gO, 3, none⟩ = some (.int .i64 op) ∧ w1.cell? ⟨gO, 4, none⟩ = some (.int .i64 oq) ∧ w1.cell? ⟨gO, 5, none⟩ = some (.int .i64 on) ∧ w1.cell? ⟨gO, 6, none⟩ = some (.int .i64 ot)) := ⟨M1.out.blk.cell 0, M1.out.blk.cell 1, M1.out.blk.cell 2, M1.out.blk.cell 3, M1.out.blk.cell 4, M1.out.blk.cell 5, M1.out.blk.cell 6, O2.out.cell 0, O2.out.cell 1, O2.out.cell 2, O2.out.cell 3, O2.out.cell 4, O2.out.cell 5, O2.out.cell 6⟩
    clear hb1 LK
    go_wp2_with fail
    refine hK.out _ _ HT2.out ?_
    clear hK K'
    (try simp only [Act.put, List.getElem_toArray, List.getElem_cons_succ, List.getElem_cons_zero, List.setIfInBounds_toArray, List.set_cons_zero, List.set_cons_succ])
    refine wpL_word (i := 6) (v := ?_) rfl (by kernel_rfl) (fun _ _ _ h => h) (by kernel_rfl) _ _ _ _ (by kernel_rfl) (by kernel_rfl) (Or.inl ⟨by rfl, ?_⟩) (fun _ => HT2.out) ?_
    rotate_left
    · intro w' _
      go_simp
      try with_reducible rfl
    (try simp only [Act.put, List.getElem_toArray, List.getElem_cons_succ, List.getElem_cons_zero, List.setIfInBounds_toArray, List.set_cons_zero, List.set_cons_succ])
    refine wpL_word (i := 7) (v := ?_) rfl (by kernel_rfl) (fun _ _ _ h => h) (by kernel_rfl) _ _ _ _ (by kernel_rfl) (by kernel_rfl) (Or.inl ⟨by rfl, ?_⟩) (fun _ => HT2.out) ?_
    rotate_left
    · intro w' _
      go_simp
      try with_reducible rfl
    (try simp only [Act.put, List.getElem_toArray, List.getElem_cons_succ, List.getElem_cons_zero, List.setIfInBounds_toArray, List.set_cons_zero, List.set_cons_succ])
    refine wpL_word (i := 8) (v := ?_) rfl (by kernel_rfl) (fun _ _ _ h => h) (by kernel_rfl) _ _ _ _ (by kernel_rfl) (by kernel_rfl) (Or.inl ⟨by rfl, ?_⟩) (fun _ => HT2.out) ?_
    rotate_left
    · intro w' _
      go_simp
      try with_reducible rfl
    (try simp only [Act.put, List.getElem_toArray, List.getElem_cons_succ, List.getElem_cons_zero, List.setIfInBounds_toArray, List.set_cons_zero, List.set_cons_succ])
    refine wpL_word (i := 9) (v := ?_) rfl (by kernel_rfl) (fun _ _ _ h => h) (by kernel_rfl) _ _ _ _ (by kernel_rfl) (by kernel_rfl) (Or.inl ⟨by rfl, ?_⟩) (fun _ => HT2.out) ?_
    rotate_left
    · intro w' _
      go_simp
      try with_reducible rfl
    (try simp only [Act.put, List.getElem_toArray, List.getElem_cons_succ, List.getElem_cons_zero, List.setIfInBounds_toArray, List.set_cons_zero, List.set_cons_succ])
    refine wpL_word (i := 10) (v := ?_) rfl (by kernel_rfl) (fun _ _ _ h => h) (by kernel_rfl) _ _ _ _ (by kernel_rfl) (by kernel_rfl) (Or.inl ⟨by rfl, ?_⟩) (fun _ => HT2.out) ?_
    rotate_left
    · intro w' _
      go_simp
      try with_reducible rfl
    (try simp only [Act.put, List.getElem_toArray, List.getElem_cons_succ, List.getElem_cons_zero, List.setIfInBounds_toArray, List.set_cons_zero, List.set_cons_succ])
    refine wpL_done (by kernel_rfl) ?_ _
    refine NoPanic.normal ?_
    clear HT HT2
    by_cases hwc : wc = 0
    case neg =>
      have t1 : (wc != 0) = true := by simp [hwc]
      have hw1 : (worF (plO ⟨sh, (wn : Int), ra, ta, A, some ⟨b5, o5, none⟩, C, nl, al, sl, c, d, f, nd, ac, sy, some ⟨gb, 0, none⟩, nb, cb, xs, An, Au, n1, n2, d1, d2, cl, cu, ep, false⟩) ⟨oa, os, ox, op, oq, on, ot⟩).1 = wc := by rw [HWW.out]
      go_upto_region 5 with fail
      have HP0 : Hid (ordF (plO ⟨sh, (wn : Int), ra, ta, A, some ⟨b5, o5, none⟩, C, nl, al, sl, c, d, f, nd, ac, sy, some ⟨gb, 0, none⟩, nb, cb, xs, An, Au, n1, n2, d1, d2, cl, cu, ep, false⟩) ⟨oa, os, ox, op, oq, on, ot⟩ = ((plO ⟨sh, (wn : Int), ra, ta, A, some ⟨b5, o5, none⟩, C, nl, al, sl, c, d, f, nd, ac, sy, some ⟨gb, 0, none⟩, nb, cb, xs, An, Au, n1, n2, d1, d2, cl, cu, ep, false⟩), (wc, 0, []))) := by have := ord_lok (p := (plO ⟨sh, (wn : Int), ra, ta, A, some ⟨b5, o5, none⟩, C, nl, al, sl, c, d, f, nd, ac, sy, some ⟨gb, 0, none⟩, nb, cb, xs, An, Au, n1, n2, d1, d2, cl, cu, ep, false⟩)) (o := ⟨oa, os, ox, op, oq, on, ot⟩) rfl (by rw [hw1]; exact hwc); rw [hw1] at this; exact this
      go_wp2_with fail
      refine (refused_any wc _).mono ?_
      rintro e wR ⟨rfl, hbR⟩
      have HBR := Lib.hid (CrdB.below_step HB1.out hbR)
      have M1' : Hid (Mm base wR g ⟨sh, (wn : Int), ra, ta, A, some ⟨b5, o5, none⟩, C, nl, al, sl, c, d, f, nd, ac, sy, some ⟨gb, 0, none⟩, nb, cb, xs, An, Au, n1, n2, d1, d2, cl, cu, ep, false⟩) := Mm_below M0.out HBR.out
      have Z2 : Hid (Blk wR gZ 43 #[.int .i64 0, .int .i64 0]) := Blk.below' Z1.out HBR.out
      have U1 : Hid (Kp w wR g (some ⟨gb, 0, none⟩)) := Kp_of_below (CrdB.below_step U0.out HBR.out)
      clear hbR
      obtain ⟨z0, z1, z2, z3⟩ := q2b Z2.out
      have F3 : Blk (st2 wR gZ (.int .i64 wc) (.int .i64 0)) gZ 43 #[.int .i64 wc, .int .i64 0] := st2_blk Z2.out
      have hfin : MadeDo base g ⟨sh, (wn : Int), ra, ta, A, some ⟨b5, o5, none⟩, C, nl, al, sl, c, d, f, nd, ac, sy, some ⟨gb, 0, none⟩, nb, cb, xs, An, Au, n1, n2, d1, d2, cl, cu, ep, false⟩ (plO ⟨sh, (wn : Int), ra, ta, A, some ⟨b5, o5, none⟩, C, nl, al, sl, c, d, f, nd, ac, sy, some ⟨gb, 0, none⟩, nb, cb, xs, An, Au, n1, n2, d1, d2, cl, cu, ep, false⟩) wc 0 [] w (.returned (.tuple #[.agg #[.int .i64 wc, .int .i64 0], .slice none 0 0])) (st2 wR gZ (.int .i64 wc) (.int .i64 0)) := by
        unfold st2
        refine madeDo_no (q := ⟨sh, (wn : Int), ra, ta, A, some ⟨b5, o5, none⟩, C, nl, al, sl, c, d, f, nd, ac, sy, some ⟨gb, 0, none⟩, nb, cb, xs, An, Au, n1, n2, d1, d2, cl, cu, ep, false⟩) (Mm_setz (Mm_setz M1'.out MZ.out Z2.out (by decide) 0 _) MZ.out (blk_st Z2.out 0 _) (by decide) 1 _) rfl rfl ?_ (fun z _ h => Mz_same h)
        exact Kp_past (Kp_past U1.out (HGZ.out) 0 _) (HGZ.out) 1 _
      have HF := Lib.hid hfin
      clear hfin
      go_wp2_with fail
      obtain ⟨e0, e1, _, _⟩ := q2b F3
      clear F3
      unfold st2 at e0 e1 HF
      exact bodyPost_ret (v := .tuple #[.agg #[.int .i64 wc, .int .i64 0], .slice none 0 0]) (by simp [results, Try.results26, go_sem, e0, e1]) rfl (by rw [HP0.out]; exact HF.out)
    case pos =>
      have t1 : (wc != 0) = false := by simp [hwc]
      obtain ⟨hinr, hww1, hww2⟩ := lok_ok (ac := ac) (sy := sy) (a := oa) (s := os) (p := op) (q := oq) (n := on) (t := ot) (by rw [show lokF ac sy oa os op oq on ot = (wc, ww) from HWW.out]; simp [hwc])
      rw [show lokF ac sy oa os op oq on ot = (wc, ww) from HWW.out] at hww1 hww2
      obtain ⟨hoa0, hoa1⟩ := inR_of hinr
      obtain ⟨aN, haN⟩ : ∃ k : Nat, oa = k := ⟨oa.toNat, by omega⟩
      subst haN
      have HW0 : Hid (¬ (worF (plO ⟨sh, (wn : Int), ra, ta, A, some ⟨b5, o5, none⟩, C, nl, al, sl, c, d, f, nd, ac, sy, some ⟨gb, 0, none⟩, nb, cb, xs, An, Au, n1, n2, d1, d2, cl, cu, ep, false⟩) ⟨(aN : Int), os, ox, op, oq, on, ot⟩).1 ≠ 0) := by show ¬ _; rw [HWW.out]; simp [hwc]
      have haN' : aN < al := by rw [L2.out]; omega
      subst hwc
      have hsm : shaF sh ac.length (aN : Int) = (aN : Int) % sh := by unfold shaF; rw [if_neg (by rw [hinr]; simp; omega)]
      obtain ⟨sN, hsN⟩ : ∃ k : Nat, (aN : Int) % sh = k := ⟨((aN : Int) % sh).toNat, by have := Int.emod_nonneg (aN : Int) (show sh ≠ 0 by omega); omega⟩
      have hsN1 : (sN : Int) < sh := by rw [← hsN]; exact Int.emod_lt_of_pos _ (by omega)
      have hsNb : sN < nb := by have := V7.out; omega
      have HSH : Hid (shaP (plO ⟨sh, (wn : Int), ra, ta, A, some ⟨b5, o5, none⟩, C, nl, al, sl, c, d, f, nd, ac, sy, some ⟨gb, 0, none⟩, nb, cb, xs, An, Au, n1, n2, d1, d2, cl, cu, ep, false⟩) ⟨(aN : Int), os, ox, op, oq, on, ot⟩ = sN) := by
        show (shaF sh ac.length (aN : Int)).toNat = sN
        rw [hsm, hsN]; rfl
      have SHA := shard_any sh (wn : Int) ra ta A (some ⟨b5, o5, none⟩) C c d f nd ac sy (aN : Int) w1.drew (by exact ⟨by omega, by omega⟩) (by rw [← L2.out]; omega)
      rw [hsm, hsN, ← L1.out, ← L2.out, ← L3.out] at SHA
      have HOA1 := Lib.hid hoa1
      clear hsm hsN hinr hoa1
      go_upto_region 6 with fail
      have HT : Hid (w1.drew.cell? ⟨g, 0, none⟩ = some (.int .i64 sh) ∧ w1.drew.cell? ⟨g, 1, none⟩ = some (.int .i64 (wn : Int)) ∧ w1.drew.cell? ⟨g, 2, none⟩ = some (.int .i64 ra) ∧ w1.drew.cell? ⟨g, 3, none⟩ = some (.int .i64 ta) ∧ w1.drew.cell? ⟨g, 4, none⟩ = some (.slice A nl c) ∧ w1.drew.cell? ⟨g, 5, none⟩ = some (.slice (some ⟨b5, o5, none⟩) al d) ∧ w1.drew.cell? ⟨g, 6, none⟩ = some (.slice C sl f) ∧ w1.drew.cell? ⟨gO, 0, none⟩ = some (.int .i64 (aN : Int))) := ⟨M1.out.blk.cell 0, M1.out.blk.cell 1, M1.out.blk.cell 2, M1.out.blk.cell 3, M1.out.blk.cell 4, M1.out.blk.cell 5, M1.out.blk.cell 6, O2.out.cell 0⟩
      refine wp_region_noPanic ?_
      refine wp_region_L (T := (fun w' => w'.cell? ⟨g, 0, none⟩ = some (.int .i64 sh) ∧ w'.cell? ⟨g, 1, none⟩ = some (.int .i64 (wn : Int)) ∧ w'.cell? ⟨g, 2, none⟩ = some (.int .i64 ra) ∧ w'.cell? ⟨g, 3, none⟩ = some (.int .i64 ta) ∧ w'.cell? ⟨g, 4, none⟩ = some (.slice A nl c) ∧ w'.cell? ⟨g, 5, none⟩ = some (.slice (some ⟨b5, o5, none⟩) al d) ∧ w'.cell? ⟨g, 6, none⟩ = some (.slice C sl f) ∧ w'.cell? ⟨gO, 0, none⟩ = some (.int .i64 (aN : Int)))) (st := []) (by kernel_rfl) ?_
      refine wpL_word (i := 0) (v := ?_) rfl (by kernel_rfl) (fun _ _ _ h => h) (by kernel_rfl) _ _ _ _ (by kernel_rfl) (by kernel_rfl) (Or.inl ⟨by rfl, ?_⟩) (fun _ => HT.out) ?_
      rotate_left
      · intro w' _
        go_simp
        try with_reducible rfl
      (try simp only [Act.put, List.getElem_toArray, List.getElem_cons_succ, List.getElem_cons_zero, List.setIfInBounds_toArray, List.set_cons_zero, List.set_cons_succ])
      refine wpL_word (i := 1) (v := ?_) rfl (by kernel_rfl) (fun _ _ _ h => h) (by kernel_rfl) _ _ _ _ (by kernel_rfl) (by kernel_rfl) (Or.inl ⟨by rfl, ?_⟩) (fun _ => HT.out) ?_
      rotate_left
      · intro w' _
        go_simp
        try with_reducible rfl
      (try simp only [Act.put, List.getElem_toArray, List.getElem_cons_succ, List.getElem_cons_zero, List.setIfInBounds_toArray, List.set_cons_zero, List.set_cons_succ])
      refine wpL_word (i := 2) (v := ?_) rfl (by kernel_rfl) (fun _ _ _ h => h) (by kernel_rfl) _ _ _ _ (by kernel_rfl) (by kernel_rfl) (Or.inl ⟨by rfl, ?_⟩) (fun _ => HT.out) ?_
      rotate_left
      · intro w' _
        go_simp
        try with_reducible rfl
      (try simp only [Act.put, List.getElem_toArray, List.getElem_cons_succ, List.getElem_cons_zero, List.setIfInBounds_toArray, List.set_cons_zero, List.set_cons_succ])
      refine wpL_load (i := 3) (v := ?_) rfl (by kernel_rfl) (fun _ _ _ h => h) (by kernel_rfl) (by kernel_rfl) _ _ _ _ (by kernel_rfl) (by kernel_rfl) (Or.inl ⟨by rfl, ?_⟩) (by kernel_rfl) HT.out ?_
      rotate_left
      · intro w' hS
        (try dsimp only at hS)
        obtain ⟨x1, x2, x3, x4, x5, x6, x7, x8⟩ := hS
        go_simp
        try with_reducible rfl
      (try simp only [Act.put, List.getElem_toArray, List.getElem_cons_succ, List.getElem_cons_zero, List.setIfInBounds_toArray, List.set_cons_zero, List.set_cons_succ])
      refine wpL_word (i := 4) (v := ?_) rfl (by kernel_rfl) (fun _ _ _ h => h) (by kernel_rfl) _ _ _ _ (by kernel_rfl) (by kernel_rfl) (Or.inl ⟨by rfl, ?_⟩) (fun _ => HT.out) ?_
      rotate_left
      · intro w' _
        go_simp
        try with_reducible rfl
      (try simp only [Act.put, List.getElem_toArray, List.getElem_cons_succ, List.getElem_cons_zero, List.setIfInBounds_toArray, List.set_cons_zero, List.set_cons_succ])
      refine wpL_load (i := 5) (v := ?_) rfl (by kernel_rfl) (fun _ _ _ h => h) (by kernel_rfl) (by kernel_rfl) _ _ _ _ (by kernel_rfl) (by kernel_rfl) (Or.inl ⟨by rfl, ?_⟩) (by kernel_rfl) HT.out ?_
      rotate_left
      · intro w' hS
        (try dsimp only at hS)
        obtain ⟨x1, x2, x3, x4, x5, x6, x7, x8⟩ := hS
        go_simp
        try with_reducible rfl
      (try simp only [Act.put, List.getElem_toArray, List.getElem_cons_succ, List.getElem_cons_zero, List.setIfInBounds_toArray, List.set_cons_zero, List.set_cons_succ])
      refine wpL_next (n := 6) (by kernel_rfl) rfl (fun K' hK => ?_)
      go_simp
      refine SHA.mono ?_
      rintro e w2 ⟨rfl, hb2⟩
      have HB2 : Hid (Below w0.heap.size w0 w2) := CrdB.below_step HB1.out (CrdB.below_step (Below.drew (Below.refl _ _)) hb2)
      have M2 := Lib.hid (Mm_below M0.out HB2.out)
      have O3 := Lib.hid (Blk.below' O1.out HB2.out)
      have HT2 : Hid (w2.cell? ⟨g, 0, none⟩ = some (.int .i64 sh) ∧ w2.cell? ⟨g, 1, none⟩ = some (.int .i64 (wn : Int)) ∧ w2.cell? ⟨g, 2, none⟩ = some (.int .i64 ra) ∧ w2.cell? ⟨g, 3, none⟩ = some (.int .i64 ta) ∧ w2.cell? ⟨g, 4, none⟩ = some (.slice A nl c) ∧ w2.cell? ⟨g, 5, none⟩ = some (.slice (some ⟨b5, o5, none⟩) al d) ∧ w2.cell? ⟨g, 6, none⟩ = some (.slice C sl f) ∧ w2.cell? ⟨gO, 0, none⟩ = some (.int .i64 (aN : Int))) := ⟨M2.out.blk.cell 0, M2.out.blk.cell 1, M2.out.blk.cell 2, M2.out.blk.cell 3, M2.out.blk.cell 4, M2.out.blk.cell 5, M2.out.blk.cell 6, O3.out.cell 0⟩
      clear hb2 SHA M1 O2
      go_wp2_with fail
      refine hK.out _ _ HT2.out ?_
      clear hK K'
      (try simp only [Act.put, List.getElem_toArray, List.getElem_cons_succ, List.getElem_cons_zero, List.setIfInBounds_toArray, List.set_cons_zero, List.set_cons_succ])
      refine wpL_word (i := 7) (v := ?_) rfl (by kernel_rfl) (fun _ _ _ h => h) (by kernel_rfl) _ _ _ _ (by kernel_rfl) (by kernel_rfl) (Or.inl ⟨by rfl, ?_⟩) (fun _ => HT2.out) ?_
      rotate_left
      · intro w' _
        go_simp
        try with_reducible rfl
      (try simp only [Act.put, List.getElem_toArray, List.getElem_cons_succ, List.getElem_cons_zero, List.setIfInBounds_toArray, List.set_cons_zero, List.set_cons_succ])
      refine wpL_done (by kernel_rfl) ?_ _
      refine NoPanic.normal ?_
      clear HT HT2
      have hsx : Hid (sN < xs.length) := by show _ < _; rw [← L4.out]; exact hsNb
      have RM2 := own_room M2.out.row
      have c0 := RM2.2.2.2.2.2 (sN * 4) _ (by have := bxs_get xs sN 0 hsx.out (by decide); exact this)
      have c1 := RM2.2.2.2.2.2 (sN * 4 + 1) _ (by have := bxs_get xs sN 1 hsx.out (by decide); exact this)
      have c2 := RM2.2.2.2.2.2 (sN * 4 + 2) _ (by have := bxs_get xs sN 2 hsx.out (by decide); exact this)
      have c3 := RM2.2.2.2.2.2 (sN * 4 + 3) _ (by have := bxs_get xs sN 3 hsx.out (by decide); exact this)
      clear RM2
      have BM0 := Lib.hid (M0.out.bm sN hsx.out)
      have VB := Lib.hid (V9.out sN hsx.out)
      have HGB : Hid (gB (plO ⟨sh, (wn : Int), ra, ta, A, some ⟨b5, o5, none⟩, C, nl, al, sl, c, d, f, nd, ac, sy, some ⟨gb, 0, none⟩, nb, cb, xs, An, Au, n1, n2, d1, d2, cl, cu, ep, false⟩).bs sN = (gX xs sN).b) := by
        show (xs.map Bx.b).getD sN bk0 = _
        have h1 := hsx.out
        simp [gX, h1]
      obtain ⟨X, hX⟩ : ∃ X, X = gX xs sN := ⟨_, rfl⟩
      rw [← hX] at HGB
      simp only at BM0 VB
      rw [← hX] at c0 c1 c2 c3 BM0 VB
      have HX := Lib.hid hX
      clear hX
      obtain ⟨XA, XC, xc, xd, xrl, xb⟩ := X
      obtain ⟨bsh, hbsh⟩ : ∃ v, v = xb.sh := ⟨_, rfl⟩
      obtain ⟨bca, hbca⟩ : ∃ v, v = xb.ca := ⟨_, rfl⟩
      obtain ⟨nr2, hnr2⟩ : ∃ v, v = xb.rows.length := ⟨_, rfl⟩
      obtain ⟨no2, hno2⟩ : ∃ v, v = xb.op.length := ⟨_, rfl⟩
      simp only [bxV, List.getElem?_cons_zero, List.getElem?_cons_succ] at c0 c1 c2 c3
      have HSHB : Hid (bsh = xb.sh ∧ bca = xb.ca) := ⟨hbsh, hbca⟩
      have HNR2 := Lib.hid hnr2
      have HNO2 := Lib.hid hno2
      simp only at VB BM0 HGB
      have FEW := Lib.hid (VB.out.1.few (by omega))
      rw [← hbsh] at c0
      rw [← hbca] at c1
      rw [← hnr2] at c2
      rw [← hno2] at c3
      clear hbsh hbca hnr2 hno2
      have LK2 := Bki.look_any sh (wn : Int) ra ta A (some ⟨b5, o5, none⟩) C nl al sl c d f XA XC nr2 no2 xc xd xrl xb ⟨(aN : Int), os, ox, op, oq, on, ot⟩ w2.drew bsh bca HSHB HNR2 HNO2 (Lib.hid (BM0.out.below (Below.drew HB2.out))) FEW
      rw [show odA ⟨(aN : Int), os, ox, op, oq, on, ot⟩ = .agg #[.int .i64 (aN : Int), .int .i64 os, .bool ox, .int .i64 op, .int .i64 oq, .int .i64 on, .int .i64 ot] from rfl] at LK2
      obtain ⟨lc, hlc⟩ : ∃ v, v = lookF ra ta xb ⟨(aN : Int), os, ox, op, oq, on, ot⟩ := ⟨_, rfl⟩
      rw [← hlc] at LK2
      have HLC : Hid (lookF ((plO ⟨sh, (wn : Int), ra, ta, A, some ⟨b5, o5, none⟩, C, nl, al, sl, c, d, f, nd, ac, sy, some ⟨gb, 0, none⟩, nb, cb, xs, An, Au, n1, n2, d1, d2, cl, cu, ep, false⟩)).ra ((plO ⟨sh, (wn : Int), ra, ta, A, some ⟨b5, o5, none⟩, C, nl, al, sl, c, d, f, nd, ac, sy, some ⟨gb, 0, none⟩, nb, cb, xs, An, Au, n1, n2, d1, d2, cl, cu, ep, false⟩)).ta (gB ((plO ⟨sh, (wn : Int), ra, ta, A, some ⟨b5, o5, none⟩, C, nl, al, sl, c, d, f, nd, ac, sy, some ⟨gb, 0, none⟩, nb, cb, xs, An, Au, n1, n2, d1, d2, cl, cu, ep, false⟩)).bs (shaP (plO ⟨sh, (wn : Int), ra, ta, A, some ⟨b5, o5, none⟩, C, nl, al, sl, c, d, f, nd, ac, sy, some ⟨gb, 0, none⟩, nb, cb, xs, An, Au, n1, n2, d1, d2, cl, cu, ep, false⟩) ⟨(aN : Int), os, ox, op, oq, on, ot⟩)) ⟨(aN : Int), os, ox, op, oq, on, ot⟩ = lc) := by
        show _ = _
        rw [HSH.out, HGB.out]; exact hlc.symm
      clear hlc
      have tsn : decide ((sN : Int) < (nb : Int)) = true := by simp; omega
      go_upto_region 7 with fail
      have HT : Hid (w2.drew.cell? ⟨g, 0, none⟩ = some (.int .i64 sh) ∧ w2.drew.cell? ⟨g, 1, none⟩ = some (.int .i64 (wn : Int)) ∧ w2.drew.cell? ⟨g, 2, none⟩ = some (.int .i64 ra) ∧ w2.drew.cell? ⟨g, 3, none⟩ = some (.int .i64 ta) ∧ w2.drew.cell? ⟨g, 4, none⟩ = some (.slice A nl c) ∧ w2.drew.cell? ⟨g, 5, none⟩ = some (.slice (some ⟨b5, o5, none⟩) al d) ∧ w2.drew.cell? ⟨g, 6, none⟩ = some (.slice C sl f) ∧ w2.drew.cell? ⟨g, 7, none⟩ = some (.slice (some ⟨gb, 0, none⟩) nb cb) ∧ w2.drew.cell? ⟨gb, sN * 4, none⟩ = some (.int .i64 bsh) ∧ w2.drew.cell? ⟨gb, sN * 4 + 1, none⟩ = some (.int .i64 bca) ∧ w2.drew.cell? ⟨gb, sN * 4 + 2, none⟩ = some (.slice XA nr2 xc) ∧ w2.drew.cell? ⟨gb, sN * 4 + 3, none⟩ = some (.slice XC no2 xd) ∧ w2.drew.cell? ⟨gO, 0, none⟩ = some (.int .i64 (aN : Int)) ∧ w2.drew.cell? ⟨gO, 1, none⟩ = some (.int .i64 os) ∧ w2.drew.cell? ⟨gO, 2, none⟩ = some (.bool ox) ∧ w2.drew.cell? ⟨gO, 3, none⟩ = some (.int .i64 op) ∧ w2.drew.cell? ⟨gO, 4, none⟩ = some (.int .i64 oq) ∧ w2.drew.cell? ⟨gO, 5, none⟩ = some (.int .i64 on) ∧ w2.drew.cell? ⟨gO, 6, none⟩ = some (.int .i64 ot)) := ⟨M2.out.blk.cell 0, M2.out.blk.cell 1, M2.out.blk.cell 2, M2.out.blk.cell 3, M2.out.blk.cell 4, M2.out.blk.cell 5, M2.out.blk.cell 6, M2.out.blk.cell 7, c0, c1, c2, c3, O3.out.cell 0, O3.out.cell 1, O3.out.cell 2, O3.out.cell 3, O3.out.cell 4, O3.out.cell 5, O3.out.cell 6⟩
      refine wp_region_noPanic ?_
      refine wp_region_L (T := (fun w' => w'.cell? ⟨g, 0, none⟩ = some (.int .i64 sh) ∧ w'.cell? ⟨g, 1, none⟩ = some (.int .i64 (wn : Int)) ∧ w'.cell? ⟨g, 2, none⟩ = some (.int .i64 ra) ∧ w'.cell? ⟨g, 3, none⟩ = some (.int .i64 ta) ∧ w'.cell? ⟨g, 4, none⟩ = some (.slice A nl c) ∧ w'.cell? ⟨g, 5, none⟩ = some (.slice (some ⟨b5, o5, none⟩) al d) ∧ w'.cell? ⟨g, 6, none⟩ = some (.slice C sl f) ∧ w'.cell? ⟨g, 7, none⟩ = some (.slice (some ⟨gb, 0, none⟩) nb cb) ∧ w'.cell? ⟨gb, sN * 4, none⟩ = some (.int .i64 bsh) ∧ w'.cell? ⟨gb, sN * 4 + 1, none⟩ = some (.int .i64 bca) ∧ w'.cell? ⟨gb, sN * 4 + 2, none⟩ = some (.slice XA nr2 xc) ∧ w'.cell? ⟨gb, sN * 4 + 3, none⟩ = some (.slice XC no2 xd) ∧ w'.cell? ⟨gO, 0, none⟩ = some (.int .i64 (aN : Int)) ∧ w'.cell? ⟨gO, 1, none⟩ = some (.int .i64 os) ∧ w'.cell? ⟨gO, 2, none⟩ = some (.bool ox) ∧ w'.cell? ⟨gO, 3, none⟩ = some (.int .i64 op) ∧ w'.cell? ⟨gO, 4, none⟩ = some (.int .i64 oq) ∧ w'.cell? ⟨gO, 5, none⟩ = some (.int .i64 on) ∧ w'.cell? ⟨gO, 6, none⟩ = some (.int .i64 ot))) (st := []) (by kernel_rfl) ?_
      refine wpL_word (i := 0) (v := ?_) rfl (by kernel_rfl) (fun _ _ _ h => h) (by kernel_rfl) _ _ _ _ (by kernel_rfl) (by kernel_rfl) (Or.inl ⟨by rfl, ?_⟩) (fun _ => HT.out) ?_
      rotate_left
      · intro w' _
        go_simp
        try with_reducible rfl
      (try simp only [Act.put, List.getElem_toArray, List.getElem_cons_succ, List.getElem_cons_zero, List.setIfInBounds_toArray, List.set_cons_zero, List.set_cons_succ])
      refine wpL_word (i := 1) (v := ?_) rfl (by kernel_rfl) (fun _ _ _ h => h) (by kernel_rfl) _ _ _ _ (by kernel_rfl) (by kernel_rfl) (Or.inl ⟨by rfl, ?_⟩) (fun _ => HT.out) ?_
      rotate_left
      · intro w' _
        go_simp
        try with_reducible rfl
      (try simp only [Act.put, List.getElem_toArray, List.getElem_cons_succ, List.getElem_cons_zero, List.setIfInBounds_toArray, List.set_cons_zero, List.set_cons_succ])
      refine wpL_word (i := 2) (v := ?_) rfl (by kernel_rfl) (fun _ _ _ h => h) (by kernel_rfl) _ _ _ _ (by kernel_rfl) (by kernel_rfl) (Or.inl ⟨by rfl, ?_⟩) (fun _ => HT.out) ?_
      rotate_left
      · intro w' _
        go_simp
        try with_reducible rfl
      (try simp only [Act.put, List.getElem_toArray, List.getElem_cons_succ, List.getElem_cons_zero, List.setIfInBounds_toArray, List.set_cons_zero, List.set_cons_succ])
      refine wpL_load (i := 3) (v := ?_) rfl (by kernel_rfl) (fun _ _ _ h => h) (by kernel_rfl) (by kernel_rfl) _ _ _ _ (by kernel_rfl) (by kernel_rfl) (Or.inl ⟨by rfl, ?_⟩) (by kernel_rfl) HT.out ?_
      rotate_left
      · intro w' hS
        (try dsimp only at hS)
        obtain ⟨x1, x2, x3, x4, x5, x6, x7, x8, x9, x10, x11, x12, x13, x14, x15, x16, x17, x18, x19⟩ := hS
        go_simp
        try with_reducible rfl
      (try simp only [Act.put, List.getElem_toArray, List.getElem_cons_succ, List.getElem_cons_zero, List.setIfInBounds_toArray, List.set_cons_zero, List.set_cons_succ])
      refine wpL_word (i := 4) (v := ?_) rfl (by kernel_rfl) (fun _ _ _ h => h) (by kernel_rfl) _ _ _ _ (by kernel_rfl) (by kernel_rfl) (Or.inl ⟨by rfl, ?_⟩) (fun _ => HT.out) ?_
      rotate_left
      · intro w' _
        go_simp
        try with_reducible rfl
      (try simp only [Act.put, List.getElem_toArray, List.getElem_cons_succ, List.getElem_cons_zero, List.setIfInBounds_toArray, List.set_cons_zero, List.set_cons_succ])
      refine wpL_word (i := 5) (v := ?_) rfl (by kernel_rfl) (fun _ _ _ h => h) (by kernel_rfl) _ _ _ _ (by kernel_rfl) (by kernel_rfl) (Or.inl ⟨by rfl, ?_⟩) (fun _ => HT.out) ?_
      rotate_left
      · intro w' _
        go_simp
        try with_reducible rfl
      (try simp only [Act.put, List.getElem_toArray, List.getElem_cons_succ, List.getElem_cons_zero, List.setIfInBounds_toArray, List.set_cons_zero, List.set_cons_succ])
      refine wpL_word (i := 6) (v := ?_) rfl (by kernel_rfl) (fun _ _ _ h => h) (by kernel_rfl) _ _ _ _ (by kernel_rfl) (by kernel_rfl) (Or.inl ⟨by rfl, ?_⟩) (fun _ => HT.out) ?_
      rotate_left
      · intro w' _
        go_simp
        try with_reducible rfl
      (try simp only [Act.put, List.getElem_toArray, List.getElem_cons_succ, List.getElem_cons_zero, List.setIfInBounds_toArray, List.set_cons_zero, List.set_cons_succ])
      refine wpL_load (i := 7) (v := ?_) rfl (by kernel_rfl) (fun _ _ _ h => h) (by kernel_rfl) (by kernel_rfl) _ _ _ _ (by kernel_rfl) (by kernel_rfl) (Or.inl ⟨by rfl, ?_⟩) (by kernel_rfl) HT.out ?_
      rotate_left
      · intro w' hS
        (try dsimp only at hS)
        obtain ⟨x1, x2, x3, x4, x5, x6, x7, x8, x9, x10, x11, x12, x13, x14, x15, x16, x17, x18, x19⟩ := hS
        go_simp
        try with_reducible rfl
      (try simp only [Act.put, List.getElem_toArray, List.getElem_cons_succ, List.getElem_cons_zero, List.setIfInBounds_toArray, List.set_cons_zero, List.set_cons_succ])
      refine wpL_word (i := 8) (v := ?_) rfl (by kernel_rfl) (fun _ _ _ h => h) (by kernel_rfl) _ _ _ _ (by kernel_rfl) (by kernel_rfl) (Or.inl ⟨by rfl, ?_⟩) (fun _ => HT.out) ?_
      rotate_left
      · intro w' _
        go_simp
        try with_reducible rfl
      (try simp only [Act.put, List.getElem_toArray, List.getElem_cons_succ, List.getElem_cons_zero, List.setIfInBounds_toArray, List.set_cons_zero, List.set_cons_succ])
      refine wpL_word (i := 9) (v := ?_) rfl (by kernel_rfl) (fun _ _ _ h => h) (by kernel_rfl) _ _ _ _ (by kernel_rfl) (by kernel_rfl) (Or.inl ⟨by rfl, ?_⟩) (fun _ => HT.out) ?_
      rotate_left
      · intro w' _
        go_simp
        try with_reducible rfl
      (try simp only [Act.put, List.getElem_toArray, List.getElem_cons_succ, List.getElem_cons_zero, List.setIfInBounds_toArray, List.set_cons_zero, List.set_cons_succ])
      refine wpL_load (i := 10) (v := ?_) rfl (by kernel_rfl) (fun _ _ _ h => h) (by kernel_rfl) (by kernel_rfl) _ _ _ _ (by kernel_rfl) (by kernel_rfl) (Or.inl ⟨by rfl, ?_⟩) (by kernel_rfl) HT.out ?_
      rotate_left
      · intro w' hS
        (try dsimp only at hS)
        obtain ⟨x1, x2, x3, x4, x5, x6, x7, x8, x9, x10, x11, x12, x13, x14, x15, x16, x17, x18, x19⟩ := hS
        go_simp
        try with_reducible rfl
      (try simp only [Act.put, List.getElem_toArray, List.getElem_cons_succ, List.getElem_cons_zero, List.setIfInBounds_toArray, List.set_cons_zero, List.set_cons_succ])
      refine wpL_load (i := 11) (v := ?_) rfl (by kernel_rfl) (fun _ _ _ h => h) (by kernel_rfl) (by kernel_rfl) _ _ _ _ (by kernel_rfl) (by kernel_rfl) (Or.inl ⟨by rfl, ?_⟩) (by kernel_rfl) HT.out ?_
      rotate_left
      · intro w' hS
        (try dsimp only at hS)
        obtain ⟨x1, x2, x3, x4, x5, x6, x7, x8, x9, x10, x11, x12, x13, x14, x15, x16, x17, x18, x19⟩ := hS
        go_simp
        try with_reducible rfl
      (try simp only [Act.put, List.getElem_toArray, List.getElem_cons_succ, List.getElem_cons_zero, List.setIfInBounds_toArray, List.set_cons_zero, List.set_cons_succ])
      refine wpL_next (n := 12) (by kernel_rfl) rfl (fun K' hK => ?_)
      go_simp
      refine LK2.mono ?_
      rintro e w3 ⟨rfl, hb3⟩
      have HB3 : Hid (Below w0.heap.size w0 w3) := CrdB.below_step HB2.out (CrdB.below_step (Below.drew (Below.refl _ _)) hb3)
      have M3 := Lib.hid (Mm_below M0.out HB3.out)
      have O4 := Lib.hid (Blk.below' O1.out HB3.out)
      have RMdd := own_room M3.out.row
      have dd0 := RMdd.2.2.2.2.2 (sN * 4) _ (by have := bxs_get xs sN 0 hsx.out (by decide); rw [← HX.out] at this; exact this)
      have dd1 := RMdd.2.2.2.2.2 (sN * 4 + 1) _ (by have := bxs_get xs sN 1 hsx.out (by decide); rw [← HX.out] at this; exact this)
      have dd2 := RMdd.2.2.2.2.2 (sN * 4 + 2) _ (by have := bxs_get xs sN 2 hsx.out (by decide); rw [← HX.out] at this; exact this)
      have dd3 := RMdd.2.2.2.2.2 (sN * 4 + 3) _ (by have := bxs_get xs sN 3 hsx.out (by decide); rw [← HX.out] at this; exact this)
      simp only [bxV, List.getElem?_cons_zero, List.getElem?_cons_succ] at dd0 dd1 dd2 dd3
      rw [← HSHB.out.1] at dd0
      rw [← HSHB.out.2] at dd1
      rw [← HNR2.out] at dd2
      rw [← HNO2.out] at dd3
      clear RMdd
      have HT2 : Hid (w3.cell? ⟨g, 0, none⟩ = some (.int .i64 sh) ∧ w3.cell? ⟨g, 1, none⟩ = some (.int .i64 (wn : Int)) ∧ w3.cell? ⟨g, 2, none⟩ = some (.int .i64 ra) ∧ w3.cell? ⟨g, 3, none⟩ = some (.int .i64 ta) ∧ w3.cell? ⟨g, 4, none⟩ = some (.slice A nl c) ∧ w3.cell? ⟨g, 5, none⟩ = some (.slice (some ⟨b5, o5, none⟩) al d) ∧ w3.cell? ⟨g, 6, none⟩ = some (.slice C sl f) ∧ w3.cell? ⟨g, 7, none⟩ = some (.slice (some ⟨gb, 0, none⟩) nb cb) ∧ w3.cell? ⟨gb, sN * 4, none⟩ = some (.int .i64 bsh) ∧ w3.cell? ⟨gb, sN * 4 + 1, none⟩ = some (.int .i64 bca) ∧ w3.cell? ⟨gb, sN * 4 + 2, none⟩ = some (.slice XA nr2 xc) ∧ w3.cell? ⟨gb, sN * 4 + 3, none⟩ = some (.slice XC no2 xd) ∧ w3.cell? ⟨gO, 0, none⟩ = some (.int .i64 (aN : Int)) ∧ w3.cell? ⟨gO, 1, none⟩ = some (.int .i64 os) ∧ w3.cell? ⟨gO, 2, none⟩ = some (.bool ox) ∧ w3.cell? ⟨gO, 3, none⟩ = some (.int .i64 op) ∧ w3.cell? ⟨gO, 4, none⟩ = some (.int .i64 oq) ∧ w3.cell? ⟨gO, 5, none⟩ = some (.int .i64 on) ∧ w3.cell? ⟨gO, 6, none⟩ = some (.int .i64 ot)) := ⟨M3.out.blk.cell 0, M3.out.blk.cell 1, M3.out.blk.cell 2, M3.out.blk.cell 3, M3.out.blk.cell 4, M3.out.blk.cell 5, M3.out.blk.cell 6, M3.out.blk.cell 7, dd0, dd1, dd2, dd3, O4.out.cell 0, O4.out.cell 1, O4.out.cell 2, O4.out.cell 3, O4.out.cell 4, O4.out.cell 5, O4.out.cell 6⟩
      clear hb3 LK2 M2 O3
      go_wp2_with fail
      refine hK.out _ _ HT2.out ?_
      clear hK K'
      (try simp only [Act.put, List.getElem_toArray, List.getElem_cons_succ, List.getElem_cons_zero, List.setIfInBounds_toArray, List.set_cons_zero, List.set_cons_succ])
      refine wpL_word (i := 13) (v := ?_) rfl (by kernel_rfl) (fun _ _ _ h => h) (by kernel_rfl) _ _ _ _ (by kernel_rfl) (by kernel_rfl) (Or.inl ⟨by rfl, ?_⟩) (fun _ => HT2.out) ?_
      rotate_left
      · intro w' _
        go_simp
        try with_reducible rfl
      (try simp only [Act.put, List.getElem_toArray, List.getElem_cons_succ, List.getElem_cons_zero, List.setIfInBounds_toArray, List.set_cons_zero, List.set_cons_succ])
      refine wpL_done (by kernel_rfl) ?_ _
      refine NoPanic.normal ?_
      clear HT HT2 c0 c1 c2 c3
      by_cases hlc : lc = 0
      case neg =>
        have t1 : (lc != 0) = true := by simp [hlc]
        go_upto_region 9 with fail
        clear dd0 dd1 dd2 dd3
        have HP0 : Hid (ordF (plO ⟨sh, (wn : Int), ra, ta, A, some ⟨b5, o5, none⟩, C, nl, al, sl, c, d, f, nd, ac, sy, some ⟨gb, 0, none⟩, nb, cb, xs, An, Au, n1, n2, d1, d2, cl, cu, ep, false⟩) ⟨(aN : Int), os, ox, op, oq, on, ot⟩ = ((plO ⟨sh, (wn : Int), ra, ta, A, some ⟨b5, o5, none⟩, C, nl, al, sl, c, d, f, nd, ac, sy, some ⟨gb, 0, none⟩, nb, cb, xs, An, Au, n1, n2, d1, d2, cl, cu, ep, false⟩), (lc, 0, []))) := by have := ord_look (p := (plO ⟨sh, (wn : Int), ra, ta, A, some ⟨b5, o5, none⟩, C, nl, al, sl, c, d, f, nd, ac, sy, some ⟨gb, 0, none⟩, nb, cb, xs, An, Au, n1, n2, d1, d2, cl, cu, ep, false⟩)) (o := ⟨(aN : Int), os, ox, op, oq, on, ot⟩) rfl HW0.out (by rw [HLC.out]; exact hlc); rw [HLC.out] at this; exact this
        go_wp2_with fail
        refine (refused_any lc _).mono ?_
        rintro e wR ⟨rfl, hbR⟩
        have HBR := Lib.hid (CrdB.below_step HB3.out hbR)
        have M1' : Hid (Mm base wR g ⟨sh, (wn : Int), ra, ta, A, some ⟨b5, o5, none⟩, C, nl, al, sl, c, d, f, nd, ac, sy, some ⟨gb, 0, none⟩, nb, cb, xs, An, Au, n1, n2, d1, d2, cl, cu, ep, false⟩) := Mm_below M0.out HBR.out
        have Z2 : Hid (Blk wR gZ 43 #[.int .i64 0, .int .i64 0]) := Blk.below' Z1.out HBR.out
        have U1 : Hid (Kp w wR g (some ⟨gb, 0, none⟩)) := Kp_of_below (CrdB.below_step U0.out HBR.out)
        clear hbR
        obtain ⟨z0, z1, z2, z3⟩ := q2b Z2.out
        have F3 : Blk (st2 wR gZ (.int .i64 lc) (.int .i64 0)) gZ 43 #[.int .i64 lc, .int .i64 0] := st2_blk Z2.out
        have hfin : MadeDo base g ⟨sh, (wn : Int), ra, ta, A, some ⟨b5, o5, none⟩, C, nl, al, sl, c, d, f, nd, ac, sy, some ⟨gb, 0, none⟩, nb, cb, xs, An, Au, n1, n2, d1, d2, cl, cu, ep, false⟩ (plO ⟨sh, (wn : Int), ra, ta, A, some ⟨b5, o5, none⟩, C, nl, al, sl, c, d, f, nd, ac, sy, some ⟨gb, 0, none⟩, nb, cb, xs, An, Au, n1, n2, d1, d2, cl, cu, ep, false⟩) lc 0 [] w (.returned (.tuple #[.agg #[.int .i64 lc, .int .i64 0], .slice none 0 0])) (st2 wR gZ (.int .i64 lc) (.int .i64 0)) := by
          unfold st2
          refine madeDo_no (q := ⟨sh, (wn : Int), ra, ta, A, some ⟨b5, o5, none⟩, C, nl, al, sl, c, d, f, nd, ac, sy, some ⟨gb, 0, none⟩, nb, cb, xs, An, Au, n1, n2, d1, d2, cl, cu, ep, false⟩) (Mm_setz (Mm_setz M1'.out MZ.out Z2.out (by decide) 0 _) MZ.out (blk_st Z2.out 0 _) (by decide) 1 _) rfl rfl ?_ (fun z _ h => Mz_same h)
          exact Kp_past (Kp_past U1.out (HGZ.out) 0 _) (HGZ.out) 1 _
        have HF := Lib.hid hfin
        clear hfin
        go_wp2_with fail
        obtain ⟨e0, e1, _, _⟩ := q2b F3
        clear F3
        unfold st2 at e0 e1 HF
        exact bodyPost_ret (v := .tuple #[.agg #[.int .i64 lc, .int .i64 0], .slice none 0 0]) (by simp [results, Try.results26, go_sem, e0, e1]) rfl (by rw [HP0.out]; exact HF.out)
      case pos =>
        have t1 : (lc != 0) = false := by simp [hlc]
        go_upto_region 10 with fail
        clear dd0 dd1 dd2 dd3
        have HL0 : Hid (¬ lookF ((plO ⟨sh, (wn : Int), ra, ta, A, some ⟨b5, o5, none⟩, C, nl, al, sl, c, d, f, nd, ac, sy, some ⟨gb, 0, none⟩, nb, cb, xs, An, Au, n1, n2, d1, d2, cl, cu, ep, false⟩)).ra ((plO ⟨sh, (wn : Int), ra, ta, A, some ⟨b5, o5, none⟩, C, nl, al, sl, c, d, f, nd, ac, sy, some ⟨gb, 0, none⟩, nb, cb, xs, An, Au, n1, n2, d1, d2, cl, cu, ep, false⟩)).ta (gB ((plO ⟨sh, (wn : Int), ra, ta, A, some ⟨b5, o5, none⟩, C, nl, al, sl, c, d, f, nd, ac, sy, some ⟨gb, 0, none⟩, nb, cb, xs, An, Au, n1, n2, d1, d2, cl, cu, ep, false⟩)).bs (shaP (plO ⟨sh, (wn : Int), ra, ta, A, some ⟨b5, o5, none⟩, C, nl, al, sl, c, d, f, nd, ac, sy, some ⟨gb, 0, none⟩, nb, cb, xs, An, Au, n1, n2, d1, d2, cl, cu, ep, false⟩) ⟨(aN : Int), os, ox, op, oq, on, ot⟩)) ⟨(aN : Int), os, ox, op, oq, on, ot⟩ ≠ 0) := by show ¬ _; rw [HLC.out]; simp [hlc]
        clear hlc
        obtain ⟨r1, r2, hrr⟩ : ∃ a b, Cpl.resF cl cu (gI ac aN) ww = (a, b) := ⟨_, _, rfl⟩
        obtain ⟨UU, hUU⟩ : ∃ u, u = Cpl.resU cl cu (gI ac aN) ww := ⟨_, rfl⟩
        obtain ⟨nU, hnU⟩ : ∃ k, k = UU.length := ⟨_, rfl⟩
        have GS := V10.out
        have GS : GoodSt cl cu := GS
        have hin : inI (gI ac aN) := V5.out aN (by rw [← L2.out]; exact haN')
        have RS := fun W hn hu => reserve_fresh An Au d1 d2 cl cu (gI ac aN) ww W hn hu GS hin hww1 hww2
        unfold MadeResF at RS
        rw [hrr, ← hUU, ← L5.out, ← L6.out] at RS
        simp only [← hnU] at RS
        have HNU := Lib.hid hnU
        have ABT := (HAC.out aN (by have := L2.out; omega))
        have hb5n : Hid (b5 < w.heap.size) := hb5l
        have HABT : Hid (∀ W, Below w.heap.size w W → W.cell? ⟨b5, o5 + aN, none⟩ = some (.int .i64 (gI ac aN))) := fun W hb => (hb.cell (p := ⟨b5, o5 + aN, none⟩) hb5l).trans ABT
        have HRR0 : Hid (Cpl.resF cl cu (gI ac aN) ww = (r1, r2)) := hrr
        have HUU0 : Hid (UU = Cpl.resU cl cu (gI ac aN) ww) := hUU
        obtain ⟨av, hav⟩ : ∃ v, v = gI ac aN := ⟨_, rfl⟩
        rw [← hav] at RS HABT hin
        clear hav
        have hw03 : Hid (Below w.heap.size w w3) := CrdB.below_step U0.out HB3.out
        have taN : decide ((aN : Int) < (al : Int)) = true := by simp; omega
        clear hrr hUU hnU ABT hin GS
        go_cut [10, 6] (fun sS sC wx => ∃ (gS : Nat) (A5 A6 : Option Addr) (d5 d6 : Nat), sS = .pointer (some ⟨gS, 0, none⟩) ∧ sC = .int .i64 r1 ∧ Hid (Blk wx gS 62 #[.slice A5 n1 d5, .slice A6 nU d6]) ∧ Hid (Nds wx wx.heap.size A5 cl) ∧ Hid (Ris wx wx.heap.size A6 UU) ∧ Hid (∀ a, A5 = some a → w3.heap.size ≤ a.block) ∧ Hid (∀ a, A6 = some a → w3.heap.size ≤ a.block) ∧ Hid (Below w0.heap.size w0 wx) ∧ Hid (w3.heap.size ≤ gS))
        case first =>
          have HT : Hid (w3.drew.cell? ⟨g, 8, none⟩ = some (.slice An n1 d1) ∧ w3.drew.cell? ⟨g, 9, none⟩ = some (.slice Au n2 d2) ∧ w3.drew.cell? ⟨g, 5, none⟩ = some (.slice (some ⟨b5, o5, none⟩) al d) ∧ w3.drew.cell? ⟨gO, 0, none⟩ = some (.int .i64 (aN : Int)) ∧ w3.drew.cell? ⟨b5, o5 + aN, none⟩ = some (.int .i64 av)) := ⟨M3.out.blk.cell 8, M3.out.blk.cell 9, M3.out.blk.cell 5, O4.out.cell 0, HABT.out _ (Below.drew hw03.out)⟩
          have HBa : Hid (Below w0.heap.size w0 (w3.drew.alloc (.cells #[.slice none 0 0, .slice none 0 0] 62))) := (Below.drew HB3.out).alloc HB3.out.size _
          have Ma := Lib.hid (Mm_below M0.out HBa.out)
          have Oa := Lib.hid (Blk.below' O1.out HBa.out)
          have HTa : Hid ((w3.drew.alloc (.cells #[.slice none 0 0, .slice none 0 0] 62)).cell? ⟨g, 8, none⟩ = some (.slice An n1 d1) ∧ (w3.drew.alloc (.cells #[.slice none 0 0, .slice none 0 0] 62)).cell? ⟨g, 9, none⟩ = some (.slice Au n2 d2) ∧ (w3.drew.alloc (.cells #[.slice none 0 0, .slice none 0 0] 62)).cell? ⟨g, 5, none⟩ = some (.slice (some ⟨b5, o5, none⟩) al d) ∧ (w3.drew.alloc (.cells #[.slice none 0 0, .slice none 0 0] 62)).cell? ⟨gO, 0, none⟩ = some (.int .i64 (aN : Int)) ∧ (w3.drew.alloc (.cells #[.slice none 0 0, .slice none 0 0] 62)).cell? ⟨b5, o5 + aN, none⟩ = some (.int .i64 av)) := ⟨Ma.out.blk.cell 8, Ma.out.blk.cell 9, Ma.out.blk.cell 5, Oa.out.cell 0, HABT.out _ (CrdB.below_step U0.out HBa.out)⟩
          have Sa : Hid (Blk (w3.drew.alloc (.cells #[.slice none 0 0, .slice none 0 0] 62)) w3.heap.size 62 #[.slice none 0 0, .slice none 0 0]) := Blk.fresh w3.drew _ _
          refine wp_region_noPanic ?_
          refine wp_region_L (T := (fun w' => w'.cell? ⟨g, 8, none⟩ = some (.slice An n1 d1) ∧ w'.cell? ⟨g, 9, none⟩ = some (.slice Au n2 d2) ∧ w'.cell? ⟨g, 5, none⟩ = some (.slice (some ⟨b5, o5, none⟩) al d) ∧ w'.cell? ⟨gO, 0, none⟩ = some (.int .i64 (aN : Int)) ∧ w'.cell? ⟨b5, o5 + aN, none⟩ = some (.int .i64 av))) (st := [20]) (by kernel_rfl) ?_
          refine wpL_word (i := 0) (v := ?_) rfl (by kernel_rfl) (fun _ _ _ h => h) (by kernel_rfl) _ _ _ _ (by kernel_rfl) (by kernel_rfl) (Or.inl ⟨by rfl, ?_⟩) (fun _ => HT.out) ?_
          rotate_left
          · intro w' _
            go_simp
            try with_reducible rfl
          (try simp only [Act.put, List.getElem_toArray, List.getElem_cons_succ, List.getElem_cons_zero, List.setIfInBounds_toArray, List.set_cons_zero, List.set_cons_succ])
          refine wpL_word (i := 1) (v := ?_) rfl (by kernel_rfl) (fun _ _ _ h => h) (by kernel_rfl) _ _ _ _ (by kernel_rfl) (by kernel_rfl) (Or.inl ⟨by rfl, ?_⟩) (fun _ => HT.out) ?_
          rotate_left
          · intro w' _
            go_simp
            try with_reducible rfl
          (try simp only [Act.put, List.getElem_toArray, List.getElem_cons_succ, List.getElem_cons_zero, List.setIfInBounds_toArray, List.set_cons_zero, List.set_cons_succ])
          refine wpL_word (i := 2) (v := ?_) rfl (by kernel_rfl) (fun _ _ _ h => h) (by kernel_rfl) _ _ _ _ (by kernel_rfl) (by kernel_rfl) (Or.inl ⟨by rfl, ?_⟩) (fun _ => HT.out) ?_
          rotate_left
          · intro w' _
            go_simp
            try with_reducible rfl
          (try simp only [Act.put, List.getElem_toArray, List.getElem_cons_succ, List.getElem_cons_zero, List.setIfInBounds_toArray, List.set_cons_zero, List.set_cons_succ])
          refine wpL_load (i := 3) (v := ?_) rfl (by kernel_rfl) (fun _ _ _ h => h) (by kernel_rfl) (by kernel_rfl) _ _ _ _ (by kernel_rfl) (by kernel_rfl) (Or.inl ⟨by rfl, ?_⟩) (by kernel_rfl) HT.out ?_
          rotate_left
          · intro w' hS
            (try dsimp only at hS)
            obtain ⟨x1, x2, x3, x4, x5⟩ := hS
            go_simp
            try with_reducible rfl
          (try simp only [Act.put, List.getElem_toArray, List.getElem_cons_succ, List.getElem_cons_zero, List.setIfInBounds_toArray, List.set_cons_zero, List.set_cons_succ])
          refine wpL_word (i := 4) (v := ?_) rfl (by kernel_rfl) (fun _ _ _ h => h) (by kernel_rfl) _ _ _ _ (by kernel_rfl) (by kernel_rfl) (Or.inl ⟨by rfl, ?_⟩) (fun _ => HT.out) ?_
          rotate_left
          · intro w' _
            go_simp
            try with_reducible rfl
          (try simp only [Act.put, List.getElem_toArray, List.getElem_cons_succ, List.getElem_cons_zero, List.setIfInBounds_toArray, List.set_cons_zero, List.set_cons_succ])
          refine wpL_word (i := 5) (v := ?_) rfl (by kernel_rfl) (fun _ _ _ h => h) (by kernel_rfl) _ _ _ _ (by kernel_rfl) (by kernel_rfl) (Or.inl ⟨by rfl, ?_⟩) (fun _ => HT.out) ?_
          rotate_left
          · intro w' _
            go_simp
            try with_reducible rfl
          (try simp only [Act.put, List.getElem_toArray, List.getElem_cons_succ, List.getElem_cons_zero, List.setIfInBounds_toArray, List.set_cons_zero, List.set_cons_succ])
          refine wpL_word (i := 6) (v := ?_) rfl (by kernel_rfl) (fun _ _ _ h => h) (by kernel_rfl) _ _ _ _ (by kernel_rfl) (by kernel_rfl) (Or.inl ⟨by rfl, ?_⟩) (fun _ => HT.out) ?_
          rotate_left
          · intro w' _
            go_simp
            try with_reducible rfl
          (try simp only [Act.put, List.getElem_toArray, List.getElem_cons_succ, List.getElem_cons_zero, List.setIfInBounds_toArray, List.set_cons_zero, List.set_cons_succ])
          refine wpL_word (i := 7) (v := ?_) rfl (by kernel_rfl) (fun _ _ _ h => h) (by kernel_rfl) _ _ _ _ (by kernel_rfl) (by kernel_rfl) (Or.inl ⟨by rfl, ?_⟩) (fun _ => HT.out) ?_
          rotate_left
          · intro w' _
            go_simp
            try with_reducible rfl
          (try simp only [Act.put, List.getElem_toArray, List.getElem_cons_succ, List.getElem_cons_zero, List.setIfInBounds_toArray, List.set_cons_zero, List.set_cons_succ])
          refine wpL_load (i := 8) (v := ?_) rfl (by kernel_rfl) (fun _ _ _ h => h) (by kernel_rfl) (by kernel_rfl) _ _ _ _ (by kernel_rfl) (by kernel_rfl) (Or.inl ⟨by rfl, ?_⟩) (by kernel_rfl) HT.out ?_
          rotate_left
          · intro w' hS
            (try dsimp only at hS)
            obtain ⟨x1, x2, x3, x4, x5⟩ := hS
            go_simp
            try with_reducible rfl
          (try simp only [Act.put, List.getElem_toArray, List.getElem_cons_succ, List.getElem_cons_zero, List.setIfInBounds_toArray, List.set_cons_zero, List.set_cons_succ])
          refine wpL_word (i := 9) (v := ?_) rfl (by kernel_rfl) (fun _ _ _ h => h) (by kernel_rfl) _ _ _ _ (by kernel_rfl) (by kernel_rfl) (Or.inl ⟨by rfl, ?_⟩) (fun _ => HT.out) ?_
          rotate_left
          · intro w' _
            go_simp
            try with_reducible rfl
          (try simp only [Act.put, List.getElem_toArray, List.getElem_cons_succ, List.getElem_cons_zero, List.setIfInBounds_toArray, List.set_cons_zero, List.set_cons_succ])
          refine wpL_load (i := 10) (v := ?_) rfl (by kernel_rfl) (fun _ _ _ h => h) (by kernel_rfl) (by kernel_rfl) _ _ _ _ (by kernel_rfl) (by kernel_rfl) (Or.inl ⟨by rfl, ?_⟩) (by kernel_rfl) HT.out ?_
          rotate_left
          · intro w' hS
            (try dsimp only at hS)
            obtain ⟨x1, x2, x3, x4, x5⟩ := hS
            go_simp
            try with_reducible rfl
          (try simp only [Act.put, List.getElem_toArray, List.getElem_cons_succ, List.getElem_cons_zero, List.setIfInBounds_toArray, List.set_cons_zero, List.set_cons_succ])
          refine wpL_word (i := 11) (v := ?_) rfl (by kernel_rfl) (fun _ _ _ h => h) (by kernel_rfl) _ _ _ _ (by kernel_rfl) (by kernel_rfl) (Or.inl ⟨by rfl, ?_⟩) (fun _ => HT.out) ?_
          rotate_left
          · intro w' _
            go_simp
            try with_reducible rfl
          (try simp only [Act.put, List.getElem_toArray, List.getElem_cons_succ, List.getElem_cons_zero, List.setIfInBounds_toArray, List.set_cons_zero, List.set_cons_succ])
          refine wpL_load (i := 12) (v := ?_) rfl (by kernel_rfl) (fun _ _ _ h => h) (by kernel_rfl) (by kernel_rfl) _ _ _ _ (by kernel_rfl) (by kernel_rfl) (Or.inl ⟨by rfl, ?_⟩) (by kernel_rfl) HT.out ?_
          rotate_left
          · intro w' hS
            (try dsimp only at hS)
            obtain ⟨x1, x2, x3, x4, x5⟩ := hS
            go_simp
            try with_reducible rfl
          (try simp only [Act.put, List.getElem_toArray, List.getElem_cons_succ, List.getElem_cons_zero, List.setIfInBounds_toArray, List.set_cons_zero, List.set_cons_succ])
          refine wpL_word (i := 13) (v := ?_) rfl (by kernel_rfl) (fun _ _ _ h => h) (by kernel_rfl) _ _ _ _ (by kernel_rfl) (by kernel_rfl) (Or.inl ⟨by rfl, ?_⟩) (fun _ => HT.out) ?_
          rotate_left
          · intro w' _
            go_simp
            try with_reducible rfl
          (try simp only [Act.put, List.getElem_toArray, List.getElem_cons_succ, List.getElem_cons_zero, List.setIfInBounds_toArray, List.set_cons_zero, List.set_cons_succ])
          refine wpL_two (m := 14) (n := 19) (by kernel_rfl) rfl rfl ?_ ?_
          · intro K' hK
            go_simp
            refine (RS _ (Lib.hid (Mm_below M0.out (Below.drew HB3.out)).cn) (Lib.hid (Mm_below M0.out (Below.drew HB3.out)).cr)).mono ?_
            rintro e w4 ⟨A5, d5, A6, d6, rfl, hn5, hu5, hb4, fa5, fb5⟩
            have HB4 : Hid (Below w0.heap.size w0 w4) := CrdB.below_step (Below.drew HB3.out) hb4
            have M4 := Lib.hid (Mm_below M0.out HB4.out)
            have O5 := Lib.hid (Blk.below' O1.out HB4.out)
            have HT2 : Hid (w4.cell? ⟨g, 8, none⟩ = some (.slice An n1 d1) ∧ w4.cell? ⟨g, 9, none⟩ = some (.slice Au n2 d2) ∧ w4.cell? ⟨g, 5, none⟩ = some (.slice (some ⟨b5, o5, none⟩) al d) ∧ w4.cell? ⟨gO, 0, none⟩ = some (.int .i64 (aN : Int)) ∧ w4.cell? ⟨b5, o5 + aN, none⟩ = some (.int .i64 av)) := ⟨M4.out.blk.cell 8, M4.out.blk.cell 9, M4.out.blk.cell 5, O5.out.cell 0, HABT.out _ (CrdB.below_step U0.out HB4.out)⟩
            have hb34 : Hid (w3.heap.size ≤ w4.heap.size) := hb4.size
            have N5 := Lib.hid hn5
            have R5 := Lib.hid hu5
            have F5 : Hid (∀ a, A5 = some a → w3.heap.size ≤ a.block) := fa5
            have F6 : Hid (∀ a, A6 = some a → w3.heap.size ≤ a.block) := fb5
            clear hn5 hu5 hb4 fa5 fb5
            go_wp2_with fail
            refine hK.out _ _ HT2.out ?_
            clear hK K'
            (try simp only [Act.put, List.getElem_toArray, List.getElem_cons_succ, List.getElem_cons_zero, List.setIfInBounds_toArray, List.set_cons_zero, List.set_cons_succ])
            refine wpL_word (i := 15) (v := ?_) rfl (by kernel_rfl) (fun _ _ _ h => h) (by kernel_rfl) _ _ _ _ (by kernel_rfl) (by kernel_rfl) (Or.inl ⟨by rfl, ?_⟩) (fun _ => HT2.out) ?_
            rotate_left
            · intro w' _
              go_simp
              try with_reducible rfl
            (try simp only [Act.put, List.getElem_toArray, List.getElem_cons_succ, List.getElem_cons_zero, List.setIfInBounds_toArray, List.set_cons_zero, List.set_cons_succ])
            refine wpL_word (i := 16) (v := ?_) rfl (by kernel_rfl) (fun _ _ _ h => h) (by kernel_rfl) _ _ _ _ (by kernel_rfl) (by kernel_rfl) (Or.inl ⟨by rfl, ?_⟩) (fun _ => HT2.out) ?_
            rotate_left
            · intro w' _
              go_simp
              try with_reducible rfl
            (try simp only [Act.put, List.getElem_toArray, List.getElem_cons_succ, List.getElem_cons_zero, List.setIfInBounds_toArray, List.set_cons_zero, List.set_cons_succ])
            refine wpL_word (i := 17) (v := ?_) rfl (by kernel_rfl) (fun _ _ _ h => h) (by kernel_rfl) _ _ _ _ (by kernel_rfl) (by kernel_rfl) (Or.inl ⟨by rfl, ?_⟩) (fun _ => HT2.out) ?_
            rotate_left
            · intro w' _
              go_simp
              try with_reducible rfl
            (try simp only [Act.put, List.getElem_toArray, List.getElem_cons_succ, List.getElem_cons_zero, List.setIfInBounds_toArray, List.set_cons_zero, List.set_cons_succ])
            refine wpL_word (i := 18) (v := ?_) rfl (by kernel_rfl) (fun _ _ _ h => h) (by kernel_rfl) _ _ _ _ (by kernel_rfl) (by kernel_rfl) (Or.inl ⟨by rfl, ?_⟩) (fun _ => HT2.out) ?_
            rotate_left
            · intro w' _
              go_simp
              try with_reducible rfl
            (try simp only [Act.put, List.getElem_toArray, List.getElem_cons_succ, List.getElem_cons_zero, List.setIfInBounds_toArray, List.set_cons_zero, List.set_cons_succ])
            have HBb : Hid (Below w0.heap.size w0 (w4.alloc (.cells #[.slice none 0 0, .slice none 0 0] 62))) := HB4.out.alloc HB4.out.size _
            have Mb := Lib.hid (Mm_below M0.out HBb.out)
            have Ob := Lib.hid (Blk.below' O1.out HBb.out)
            have HTb : Hid ((w4.alloc (.cells #[.slice none 0 0, .slice none 0 0] 62)).cell? ⟨g, 8, none⟩ = some (.slice An n1 d1) ∧ (w4.alloc (.cells #[.slice none 0 0, .slice none 0 0] 62)).cell? ⟨g, 9, none⟩ = some (.slice Au n2 d2) ∧ (w4.alloc (.cells #[.slice none 0 0, .slice none 0 0] 62)).cell? ⟨g, 5, none⟩ = some (.slice (some ⟨b5, o5, none⟩) al d) ∧ (w4.alloc (.cells #[.slice none 0 0, .slice none 0 0] 62)).cell? ⟨gO, 0, none⟩ = some (.int .i64 (aN : Int)) ∧ (w4.alloc (.cells #[.slice none 0 0, .slice none 0 0] 62)).cell? ⟨b5, o5 + aN, none⟩ = some (.int .i64 av)) := ⟨Mb.out.blk.cell 8, Mb.out.blk.cell 9, Mb.out.blk.cell 5, Ob.out.cell 0, HABT.out _ (CrdB.below_step U0.out HBb.out)⟩
            refine wpL_next (n := 19) (by kernel_rfl) rfl (fun K' hK => ?_)
            go_simp
            refine hK.out _ _ HTb.out ?_
            clear hK K'
            (try simp only [Act.put, List.getElem_toArray, List.getElem_cons_succ, List.getElem_cons_zero, List.setIfInBounds_toArray, List.set_cons_zero, List.set_cons_succ])
            refine wpL_late (n := 20) (by kernel_rfl) rfl (by kernel_rfl) (fun K' hK => ?_)
            go_simp
            refine hK.out _ _ ?_
            clear hK K'
            (try simp only [Act.put, List.getElem_toArray, List.getElem_cons_succ, List.getElem_cons_zero, List.setIfInBounds_toArray, List.set_cons_zero, List.set_cons_succ])
            refine wpL_word (i := 21) (v := ?_) rfl (by kernel_rfl) (fun _ _ _ h => h) (by kernel_rfl) _ _ _ _ (by kernel_rfl) (by kernel_rfl) (Or.inl ⟨by rfl, ?_⟩) (fun h => absurd h (by decide +kernel)) ?_
            rotate_left
            · intro w' _
              go_simp
              try with_reducible rfl
            (try simp only [Act.put, List.getElem_toArray, List.getElem_cons_succ, List.getElem_cons_zero, List.setIfInBounds_toArray, List.set_cons_zero, List.set_cons_succ])
            refine wpL_word (i := 22) (v := ?_) rfl (by kernel_rfl) (fun _ _ _ h => h) (by kernel_rfl) _ _ _ _ (by kernel_rfl) (by kernel_rfl) (Or.inl ⟨by rfl, ?_⟩) (fun h => absurd h (by decide +kernel)) ?_
            rotate_left
            · intro w' _
              go_simp
              try with_reducible rfl
            (try simp only [Act.put, List.getElem_toArray, List.getElem_cons_succ, List.getElem_cons_zero, List.setIfInBounds_toArray, List.set_cons_zero, List.set_cons_succ])
            refine wpL_done (by kernel_rfl) ?_ _
            refine NoPanic.normal ?_
            have hT : Hid (Blk (w4.alloc (.cells #[.slice A5 n1 d5, .slice A6 nU d6] 62)) w4.heap.size 62 #[.slice A5 n1 d5, .slice A6 nU d6]) := Blk.fresh _ _ _
            have hU : Below w4.heap.size w4 (w4.alloc (.cells #[.slice A5 n1 d5, .slice A6 nU d6] 62)) := (Below.refl _ _).alloc (Nat.le_refl _) _
            go_wp2_with fail
            go_meet
            exact ⟨w4.heap.size, A5, A6, d5, d6, rfl, rfl, hT, Rd.below' N5.out hU hU.size, Rd.below' R5.out hU hU.size, F5, F6, CrdB.below_step HB4.out hU, hb34⟩
          · intro K' hK
            go_simp
            refine hK.out _ _ HTa.out ?_
            clear hK K'
            (try simp only [Act.put, List.getElem_toArray, List.getElem_cons_succ, List.getElem_cons_zero, List.setIfInBounds_toArray, List.set_cons_zero, List.set_cons_succ])
            refine wpL_next (n := 14) (by kernel_rfl) rfl (fun K' hK => ?_)
            go_simp
            refine (RS _ (Lib.hid Ma.out.cn) (Lib.hid Ma.out.cr)).mono ?_
            rintro e w4 ⟨A5, d5, A6, d6, rfl, hn5, hu5, hb4, fa5, fb5⟩
            have HB4 : Hid (Below w0.heap.size w0 w4) := CrdB.below_step HBa.out hb4
            have M4 := Lib.hid (Mm_below M0.out HB4.out)
            have O5 := Lib.hid (Blk.below' O1.out HB4.out)
            have HT2 : Hid (w4.cell? ⟨g, 8, none⟩ = some (.slice An n1 d1) ∧ w4.cell? ⟨g, 9, none⟩ = some (.slice Au n2 d2) ∧ w4.cell? ⟨g, 5, none⟩ = some (.slice (some ⟨b5, o5, none⟩) al d) ∧ w4.cell? ⟨gO, 0, none⟩ = some (.int .i64 (aN : Int)) ∧ w4.cell? ⟨b5, o5 + aN, none⟩ = some (.int .i64 av)) := ⟨M4.out.blk.cell 8, M4.out.blk.cell 9, M4.out.blk.cell 5, O5.out.cell 0, HABT.out _ (CrdB.below_step U0.out HB4.out)⟩
            have S4 : Hid (Blk w4 w3.heap.size 62 #[.slice none 0 0, .slice none 0 0]) := Blk.below' Sa.out hb4
            have N5 := Lib.hid hn5
            have R5 := Lib.hid hu5
            have G5 : Hid (∀ a, A5 = some a → w3.heap.size + 1 ≤ a.block) := fun a ha => by have h8 := fa5 a ha; have h9 : (w3.drew.alloc (.cells #[.slice none 0 0, .slice none 0 0] 62)).heap.size = w3.heap.size + 1 := World.size_alloc _ _; omega
            have G6 : Hid (∀ a, A6 = some a → w3.heap.size + 1 ≤ a.block) := fun a ha => by have h8 := fb5 a ha; have h9 : (w3.drew.alloc (.cells #[.slice none 0 0, .slice none 0 0] 62)).heap.size = w3.heap.size + 1 := World.size_alloc _ _; omega
            clear hn5 hu5 hb4 fa5 fb5
            obtain ⟨p0, p1, p2, p3⟩ := q2b S4.out
            have p4 : (w4.setCell ⟨w3.heap.size, 0, none⟩ (.slice A5 n1 d5)).cell? ⟨w3.heap.size, 1, none⟩ = some (.slice none 0 0) := (blk_st S4.out 0 (.slice A5 n1 d5)).cell 1
            have p5 : (w4.setCell ⟨w3.heap.size, 0, none⟩ (.slice A5 n1 d5)).frozen? ⟨w3.heap.size, 1, none⟩ = false := (blk_st S4.out 0 (.slice A5 n1 d5)).thaw 1
            go_wp2_with fail
            refine hK.out _ _ HT2.out ?_
            clear hK K'
            (try simp only [Act.put, List.getElem_toArray, List.getElem_cons_succ, List.getElem_cons_zero, List.setIfInBounds_toArray, List.set_cons_zero, List.set_cons_succ])
            refine wpL_word (i := 15) (v := ?_) rfl (by kernel_rfl) (fun _ _ _ h => h) (by kernel_rfl) _ _ _ _ (by kernel_rfl) (by kernel_rfl) (Or.inl ⟨by rfl, ?_⟩) (fun _ => HT2.out) ?_
            rotate_left
            · intro w' _
              go_simp
              try with_reducible rfl
            (try simp only [Act.put, List.getElem_toArray, List.getElem_cons_succ, List.getElem_cons_zero, List.setIfInBounds_toArray, List.set_cons_zero, List.set_cons_succ])
            refine wpL_word (i := 16) (v := ?_) rfl (by kernel_rfl) (fun _ _ _ h => h) (by kernel_rfl) _ _ _ _ (by kernel_rfl) (by kernel_rfl) (Or.inl ⟨by rfl, ?_⟩) (fun _ => HT2.out) ?_
            rotate_left
            · intro w' _
              go_simp
              try with_reducible rfl
            (try simp only [Act.put, List.getElem_toArray, List.getElem_cons_succ, List.getElem_cons_zero, List.setIfInBounds_toArray, List.set_cons_zero, List.set_cons_succ])
            refine wpL_word (i := 17) (v := ?_) rfl (by kernel_rfl) (fun _ _ _ h => h) (by kernel_rfl) _ _ _ _ (by kernel_rfl) (by kernel_rfl) (Or.inl ⟨by rfl, ?_⟩) (fun _ => HT2.out) ?_
            rotate_left
            · intro w' _
              go_simp
              try with_reducible rfl
            (try simp only [Act.put, List.getElem_toArray, List.getElem_cons_succ, List.getElem_cons_zero, List.setIfInBounds_toArray, List.set_cons_zero, List.set_cons_succ])
            refine wpL_word (i := 18) (v := ?_) rfl (by kernel_rfl) (fun _ _ _ h => h) (by kernel_rfl) _ _ _ _ (by kernel_rfl) (by kernel_rfl) (Or.inl ⟨by rfl, ?_⟩) (fun _ => HT2.out) ?_
            rotate_left
            · intro w' _
              go_simp
              try with_reducible rfl
            (try simp only [Act.put, List.getElem_toArray, List.getElem_cons_succ, List.getElem_cons_zero, List.setIfInBounds_toArray, List.set_cons_zero, List.set_cons_succ])
            refine wpL_late (n := 20) (by kernel_rfl) rfl (by kernel_rfl) (fun K' hK => ?_)
            go_simp
            refine hK.out _ _ ?_
            clear hK K'
            (try simp only [Act.put, List.getElem_toArray, List.getElem_cons_succ, List.getElem_cons_zero, List.setIfInBounds_toArray, List.set_cons_zero, List.set_cons_succ])
            refine wpL_word (i := 21) (v := ?_) rfl (by kernel_rfl) (fun _ _ _ h => h) (by kernel_rfl) _ _ _ _ (by kernel_rfl) (by kernel_rfl) (Or.inl ⟨by rfl, ?_⟩) (fun h => absurd h (by decide +kernel)) ?_
            rotate_left
            · intro w' _
              go_simp
              try with_reducible rfl
            (try simp only [Act.put, List.getElem_toArray, List.getElem_cons_succ, List.getElem_cons_zero, List.setIfInBounds_toArray, List.set_cons_zero, List.set_cons_succ])
            refine wpL_word (i := 22) (v := ?_) rfl (by kernel_rfl) (fun _ _ _ h => h) (by kernel_rfl) _ _ _ _ (by kernel_rfl) (by kernel_rfl) (Or.inl ⟨by rfl, ?_⟩) (fun h => absurd h (by decide +kernel)) ?_
            rotate_left
            · intro w' _
              go_simp
              try with_reducible rfl
            (try simp only [Act.put, List.getElem_toArray, List.getElem_cons_succ, List.getElem_cons_zero, List.setIfInBounds_toArray, List.set_cons_zero, List.set_cons_succ])
            refine wpL_done (by kernel_rfl) ?_ _
            refine NoPanic.normal ?_
            have hT : Hid (Blk (st2 w4 w3.heap.size (.slice A5 n1 d5) (.slice A6 nU d6)) w3.heap.size 62 #[.slice A5 n1 d5, .slice A6 nU d6]) := st2_blk S4.out
            have hN : Hid (Nds (st2 w4 w3.heap.size (.slice A5 n1 d5) (.slice A6 nU d6)) (st2 w4 w3.heap.size (.slice A5 n1 d5) (.slice A6 nU d6)).heap.size A5 cl) := Rd.keep' (Rd.keep' N5.out (Nat.lt_succ_self _) (fun a ha => by have := G5.out a ha; omega) _) (Nat.lt_succ_self _) (fun a ha => by have := G5.out a ha; omega) _
            have hR : Hid (Ris (st2 w4 w3.heap.size (.slice A5 n1 d5) (.slice A6 nU d6)) (st2 w4 w3.heap.size (.slice A5 n1 d5) (.slice A6 nU d6)).heap.size A6 UU) := Rd.keep' (Rd.keep' R5.out (Nat.lt_succ_self _) (fun a ha => by have := G6.out a ha; omega) _) (Nat.lt_succ_self _) (fun a ha => by have := G6.out a ha; omega) _
            have hB : Hid (Below w0.heap.size w0 (st2 w4 w3.heap.size (.slice A5 n1 d5) (.slice A6 nU d6))) := st2_below HB4.out HB3.out.size
            have F5 : Hid (∀ a, A5 = some a → w3.heap.size ≤ a.block) := fun a ha => by have := G5.out a ha; omega
            have F6 : Hid (∀ a, A6 = some a → w3.heap.size ≤ a.block) := fun a ha => by have := G6.out a ha; omega
            clear p0 p1 p2 p3 p4 p5
            go_wp2_with fail
            go_meet
            exact ⟨w3.heap.size, A5, A6, d5, d6, rfl, rfl, hT, hN, hR, F5, F6, hB, Nat.le_refl _⟩
        case rest =>
          obtain ⟨gS, A5, A6, d5, d6, rfl, rfl, S6, N6, R6, F5, F6, HB6, hgS⟩ := hcut
          rename World => w6
          have hw36 : Hid (Below w3.heap.size w3 w6 → True) := fun _ => trivial
          clear hw36
          by_cases hr1 : r1 = 0
          case neg =>
            have t1 : (r1 != 0) = true := by simp [hr1]
            go_upto_region 12 with fail
            have HP0 : Hid (ordF (plO ⟨sh, (wn : Int), ra, ta, A, some ⟨b5, o5, none⟩, C, nl, al, sl, c, d, f, nd, ac, sy, some ⟨gb, 0, none⟩, nb, cb, xs, An, Au, n1, n2, d1, d2, cl, cu, ep, false⟩) ⟨(aN : Int), os, ox, op, oq, on, ot⟩ = ((plO ⟨sh, (wn : Int), ra, ta, A, some ⟨b5, o5, none⟩, C, nl, al, sl, c, d, f, nd, ac, sy, some ⟨gb, 0, none⟩, nb, cb, xs, An, Au, n1, n2, d1, d2, cl, cu, ep, false⟩), (r1, 0, []))) := ord_res' (p := (plO ⟨sh, (wn : Int), ra, ta, A, some ⟨b5, o5, none⟩, C, nl, al, sl, c, d, f, nd, ac, sy, some ⟨gb, 0, none⟩, nb, cb, xs, An, Au, n1, n2, d1, d2, cl, cu, ep, false⟩)) (o := ⟨(aN : Int), os, ox, op, oq, on, ot⟩) rfl HW0.out HL0.out (by rw [show (worF (plO ⟨sh, (wn : Int), ra, ta, A, some ⟨b5, o5, none⟩, C, nl, al, sl, c, d, f, nd, ac, sy, some ⟨gb, 0, none⟩, nb, cb, xs, An, Au, n1, n2, d1, d2, cl, cu, ep, false⟩) ⟨(aN : Int), os, ox, op, oq, on, ot⟩).2 = ww from by rw [HWW.out]]; show (Cpl.resF cl cu (gI ac aN) ww).1 = r1; rw [HRR0.out]) hr1
            go_wp2_with fail
            refine (refused_any r1 _).mono ?_
            rintro e wR ⟨rfl, hbR⟩
            have HBR := Lib.hid (CrdB.below_step HB6.out hbR)
            have M1' : Hid (Mm base wR g ⟨sh, (wn : Int), ra, ta, A, some ⟨b5, o5, none⟩, C, nl, al, sl, c, d, f, nd, ac, sy, some ⟨gb, 0, none⟩, nb, cb, xs, An, Au, n1, n2, d1, d2, cl, cu, ep, false⟩) := Mm_below M0.out HBR.out
            have Z2 : Hid (Blk wR gZ 43 #[.int .i64 0, .int .i64 0]) := Blk.below' Z1.out HBR.out
            have U1 : Hid (Kp w wR g (some ⟨gb, 0, none⟩)) := Kp_of_below (CrdB.below_step U0.out HBR.out)
            clear hbR
            obtain ⟨z0, z1, z2, z3⟩ := q2b Z2.out
            have F3 : Blk (st2 wR gZ (.int .i64 r1) (.int .i64 0)) gZ 43 #[.int .i64 r1, .int .i64 0] := st2_blk Z2.out
            have hfin : MadeDo base g ⟨sh, (wn : Int), ra, ta, A, some ⟨b5, o5, none⟩, C, nl, al, sl, c, d, f, nd, ac, sy, some ⟨gb, 0, none⟩, nb, cb, xs, An, Au, n1, n2, d1, d2, cl, cu, ep, false⟩ (plO ⟨sh, (wn : Int), ra, ta, A, some ⟨b5, o5, none⟩, C, nl, al, sl, c, d, f, nd, ac, sy, some ⟨gb, 0, none⟩, nb, cb, xs, An, Au, n1, n2, d1, d2, cl, cu, ep, false⟩) r1 0 [] w (.returned (.tuple #[.agg #[.int .i64 r1, .int .i64 0], .slice none 0 0])) (st2 wR gZ (.int .i64 r1) (.int .i64 0)) := by
              unfold st2
              refine madeDo_no (q := ⟨sh, (wn : Int), ra, ta, A, some ⟨b5, o5, none⟩, C, nl, al, sl, c, d, f, nd, ac, sy, some ⟨gb, 0, none⟩, nb, cb, xs, An, Au, n1, n2, d1, d2, cl, cu, ep, false⟩) (Mm_setz (Mm_setz M1'.out MZ.out Z2.out (by decide) 0 _) MZ.out (blk_st Z2.out 0 _) (by decide) 1 _) rfl rfl ?_ (fun z _ h => Mz_same h)
              exact Kp_past (Kp_past U1.out (HGZ.out) 0 _) (HGZ.out) 1 _
            have HF := Lib.hid hfin
            clear hfin
            go_wp2_with fail
            obtain ⟨e0, e1, _, _⟩ := q2b F3
            clear F3
            unfold st2 at e0 e1 HF
            exact bodyPost_ret (v := .tuple #[.agg #[.int .i64 r1, .int .i64 0], .slice none 0 0]) (by simp [results, Try.results26, go_sem, e0, e1]) rfl (by rw [HP0.out]; exact HF.out)
          case pos =>
            have t1 : (r1 != 0) = false := by simp [hr1]
            have M6 := Lib.hid (Mm_below M0.out HB6.out)
            have O6 := Lib.hid (Blk.below' O1.out HB6.out)
            have HNO0 := Lib.hid (ord_new (p := (plO ⟨sh, (wn : Int), ra, ta, A, some ⟨b5, o5, none⟩, C, nl, al, sl, c, d, f, nd, ac, sy, some ⟨gb, 0, none⟩, nb, cb, xs, An, Au, n1, n2, d1, d2, cl, cu, ep, false⟩)) (o := ⟨(aN : Int), os, ox, op, oq, on, ot⟩) rfl HW0.out HL0.out (by rw [show (worF (plO ⟨sh, (wn : Int), ra, ta, A, some ⟨b5, o5, none⟩, C, nl, al, sl, c, d, f, nd, ac, sy, some ⟨gb, 0, none⟩, nb, cb, xs, An, Au, n1, n2, d1, d2, cl, cu, ep, false⟩) ⟨(aN : Int), os, ox, op, oq, on, ot⟩).2 = ww from by rw [HWW.out]]; show ¬ (Cpl.resF cl cu (gI ac aN) ww).1 ≠ 0; rw [HRR0.out]; simp [hr1]))
            clear hr1
            obtain ⟨NB, hNB⟩ : ∃ b, b = Bks.addF sh (wn : Int) xb ⟨(aN : Int), os, ox, op, oq, on, ot⟩ ep := ⟨_, rfl⟩
            obtain ⟨idv, hidv⟩ : ∃ v, v = xb.sh + sh * xb.ca := ⟨_, rfl⟩
            obtain ⟨nsh, hnsh⟩ : ∃ v, v = NB.sh := ⟨_, rfl⟩
            obtain ⟨nca, hnca⟩ : ∃ v, v = NB.ca := ⟨_, rfl⟩
            obtain ⟨nr7, hnr7⟩ : ∃ v, v = NB.rows.length := ⟨_, rfl⟩
            obtain ⟨no7, hno7⟩ : ∃ v, v = NB.op.length := ⟨_, rfl⟩
            have hanr : aN < nr2 := by rw [HNR2.out, VB.out.2]; exact haN'
            have hsh2 : 1 ≤ sh ∧ sh ≤ 1000 := v6
            have AX := fun W hbm => add_any sh ra ta wn A (some ⟨b5, o5, none⟩) C nl al sl c d f bsh bca XA XC nr2 no2 xc xd xrl xb aN os op oq on ot ox ep W HSHB HNR2 HNO2 hbm FEW hsh2.1 hsh2.2 hwn9 hanr
            unfold MadeB2 at AX
            rw [← hNB, ← hidv] at AX
            have hbk : ∀ A7 C7 c7 d7, bkA A7 C7 c7 d7 NB = .agg #[.int .i64 nsh, .int .i64 nca, .slice A7 nr7 c7, .slice C7 no7 d7] := by
              intro A7 C7 c7 d7
              unfold bkA
              rw [hnsh, hnca, hnr7, hno7]
            simp only [hbk] at AX
            have HNB := Lib.hid hNB
            have HID := Lib.hid hidv
            have HN7 : Hid (nsh = NB.sh ∧ nca = NB.ca ∧ nr7 = NB.rows.length ∧ no7 = NB.op.length) := ⟨hnsh, hnca, hnr7, hno7⟩
            clear hNB hidv hnsh hnca hnr7 hno7 hbk RS
            go_upto_region 13 with fail
            go_cut [12, 13] (fun sV sI wx => ∃ (gV : Nat) (A7 C7 : Option Addr) (c7 d7 : Nat) (rl7 : List Rc), sV = .pointer (some ⟨gV, 0, none⟩) ∧ sI = .int .i64 idv ∧ Hid (Blk wx gV 58 #[.int .i64 nsh, .int .i64 nca, .slice A7 nr7 c7, .slice C7 no7 d7]) ∧ Hid (Bm wx A7 C7 rl7 NB) ∧ Hid (Fb w6.heap.size A7 C7 rl7) ∧ Hid (Below w6.heap.size w6 wx) ∧ Hid (w6.heap.size ≤ gV))
            case first =>
              have hB6d : Hid (Below w0.heap.size w0 w6.drew) := Below.drew HB6.out
              have M6d := Lib.hid (Mm_below M0.out hB6d.out)
              have RMaa := own_room M6d.out.row
              have aa0 := RMaa.2.2.2.2.2 (sN * 4) _ (by have := bxs_get xs sN 0 hsx.out (by decide); rw [← HX.out] at this; exact this)
              have aa1 := RMaa.2.2.2.2.2 (sN * 4 + 1) _ (by have := bxs_get xs sN 1 hsx.out (by decide); rw [← HX.out] at this; exact this)
              have aa2 := RMaa.2.2.2.2.2 (sN * 4 + 2) _ (by have := bxs_get xs sN 2 hsx.out (by decide); rw [← HX.out] at this; exact this)
              have aa3 := RMaa.2.2.2.2.2 (sN * 4 + 3) _ (by have := bxs_get xs sN 3 hsx.out (by decide); rw [← HX.out] at this; exact this)
              simp only [bxV, List.getElem?_cons_zero, List.getElem?_cons_succ] at aa0 aa1 aa2 aa3
              rw [← HSHB.out.1] at aa0
              rw [← HSHB.out.2] at aa1
              rw [← HNR2.out] at aa2
              rw [← HNO2.out] at aa3
              clear RMaa
              have HT : Hid (w6.drew.cell? ⟨g, 0, none⟩ = some (.int .i64 sh) ∧ w6.drew.cell? ⟨g, 1, none⟩ = some (.int .i64 (wn : Int)) ∧ w6.drew.cell? ⟨g, 2, none⟩ = some (.int .i64 ra) ∧ w6.drew.cell? ⟨g, 3, none⟩ = some (.int .i64 ta) ∧ w6.drew.cell? ⟨g, 4, none⟩ = some (.slice A nl c) ∧ w6.drew.cell? ⟨g, 5, none⟩ = some (.slice (some ⟨b5, o5, none⟩) al d) ∧ w6.drew.cell? ⟨g, 6, none⟩ = some (.slice C sl f) ∧ w6.drew.cell? ⟨g, 7, none⟩ = some (.slice (some ⟨gb, 0, none⟩) nb cb) ∧ w6.drew.cell? ⟨gb, sN * 4, none⟩ = some (.int .i64 bsh) ∧ w6.drew.cell? ⟨gb, sN * 4 + 1, none⟩ = some (.int .i64 bca) ∧ w6.drew.cell? ⟨gb, sN * 4 + 2, none⟩ = some (.slice XA nr2 xc) ∧ w6.drew.cell? ⟨gb, sN * 4 + 3, none⟩ = some (.slice XC no2 xd) ∧ w6.drew.cell? ⟨gO, 0, none⟩ = some (.int .i64 (aN : Int)) ∧ w6.drew.cell? ⟨gO, 1, none⟩ = some (.int .i64 os) ∧ w6.drew.cell? ⟨gO, 2, none⟩ = some (.bool ox) ∧ w6.drew.cell? ⟨gO, 3, none⟩ = some (.int .i64 op) ∧ w6.drew.cell? ⟨gO, 4, none⟩ = some (.int .i64 oq) ∧ w6.drew.cell? ⟨gO, 5, none⟩ = some (.int .i64 on) ∧ w6.drew.cell? ⟨gO, 6, none⟩ = some (.int .i64 ot) ∧ w6.drew.cell? ⟨g, 10, none⟩ = some (.int .i64 ep)) := ⟨M6.out.blk.cell 0, M6.out.blk.cell 1, M6.out.blk.cell 2, M6.out.blk.cell 3, M6.out.blk.cell 4, M6.out.blk.cell 5, M6.out.blk.cell 6, M6.out.blk.cell 7, aa0, aa1, aa2, aa3, O6.out.cell 0, O6.out.cell 1, O6.out.cell 2, O6.out.cell 3, O6.out.cell 4, O6.out.cell 5, O6.out.cell 6, M6.out.blk.cell 10⟩
              have hBz : Hid (Below w0.heap.size w0 (w6.drew.alloc (.cells #[.int .i64 0, .int .i64 0, .slice none 0 0, .slice none 0 0] 58))) := hB6d.out.alloc hB6d.out.size _
              have Mz6 := Lib.hid (Mm_below M0.out hBz.out)
              have Oz6 := Lib.hid (Blk.below' O1.out hBz.out)
              have RMbb := own_room Mz6.out.row
              have bb0 := RMbb.2.2.2.2.2 (sN * 4) _ (by have := bxs_get xs sN 0 hsx.out (by decide); rw [← HX.out] at this; exact this)
              have bb1 := RMbb.2.2.2.2.2 (sN * 4 + 1) _ (by have := bxs_get xs sN 1 hsx.out (by decide); rw [← HX.out] at this; exact this)
              have bb2 := RMbb.2.2.2.2.2 (sN * 4 + 2) _ (by have := bxs_get xs sN 2 hsx.out (by decide); rw [← HX.out] at this; exact this)
              have bb3 := RMbb.2.2.2.2.2 (sN * 4 + 3) _ (by have := bxs_get xs sN 3 hsx.out (by decide); rw [← HX.out] at this; exact this)
              simp only [bxV, List.getElem?_cons_zero, List.getElem?_cons_succ] at bb0 bb1 bb2 bb3
              rw [← HSHB.out.1] at bb0
              rw [← HSHB.out.2] at bb1
              rw [← HNR2.out] at bb2
              rw [← HNO2.out] at bb3
              clear RMbb
              have HTa : Hid ((w6.drew.alloc (.cells #[.int .i64 0, .int .i64 0, .slice none 0 0, .slice none 0 0] 58)).cell? ⟨g, 0, none⟩ = some (.int .i64 sh) ∧ (w6.drew.alloc (.cells #[.int .i64 0, .int .i64 0, .slice none 0 0, .slice none 0 0] 58)).cell? ⟨g, 1, none⟩ = some (.int .i64 (wn : Int)) ∧ (w6.drew.alloc (.cells #[.int .i64 0, .int .i64 0, .slice none 0 0, .slice none 0 0] 58)).cell? ⟨g, 2, none⟩ = some (.int .i64 ra) ∧ (w6.drew.alloc (.cells #[.int .i64 0, .int .i64 0, .slice none 0 0, .slice none 0 0] 58)).cell? ⟨g, 3, none⟩ = some (.int .i64 ta) ∧ (w6.drew.alloc (.cells #[.int .i64 0, .int .i64 0, .slice none 0 0, .slice none 0 0] 58)).cell? ⟨g, 4, none⟩ = some (.slice A nl c) ∧ (w6.drew.alloc (.cells #[.int .i64 0, .int .i64 0, .slice none 0 0, .slice none 0 0] 58)).cell? ⟨g, 5, none⟩ = some (.slice (some ⟨b5, o5, none⟩) al d) ∧ (w6.drew.alloc (.cells #[.int .i64 0, .int .i64 0, .slice none 0 0, .slice none 0 0] 58)).cell? ⟨g, 6, none⟩ = some (.slice C sl f) ∧ (w6.drew.alloc (.cells #[.int .i64 0, .int .i64 0, .slice none 0 0, .slice none 0 0] 58)).cell? ⟨g, 7, none⟩ = some (.slice (some ⟨gb, 0, none⟩) nb cb) ∧ (w6.drew.alloc (.cells #[.int .i64 0, .int .i64 0, .slice none 0 0, .slice none 0 0] 58)).cell? ⟨gb, sN * 4, none⟩ = some (.int .i64 bsh) ∧ (w6.drew.alloc (.cells #[.int .i64 0, .int .i64 0, .slice none 0 0, .slice none 0 0] 58)).cell? ⟨gb, sN * 4 + 1, none⟩ = some (.int .i64 bca) ∧ (w6.drew.alloc (.cells #[.int .i64 0, .int .i64 0, .slice none 0 0, .slice none 0 0] 58)).cell? ⟨gb, sN * 4 + 2, none⟩ = some (.slice XA nr2 xc) ∧ (w6.drew.alloc (.cells #[.int .i64 0, .int .i64 0, .slice none 0 0, .slice none 0 0] 58)).cell? ⟨gb, sN * 4 + 3, none⟩ = some (.slice XC no2 xd) ∧ (w6.drew.alloc (.cells #[.int .i64 0, .int .i64 0, .slice none 0 0, .slice none 0 0] 58)).cell? ⟨gO, 0, none⟩ = some (.int .i64 (aN : Int)) ∧ (w6.drew.alloc (.cells #[.int .i64 0, .int .i64 0, .slice none 0 0, .slice none 0 0] 58)).cell? ⟨gO, 1, none⟩ = some (.int .i64 os) ∧ (w6.drew.alloc (.cells #[.int .i64 0, .int .i64 0, .slice none 0 0, .slice none 0 0] 58)).cell? ⟨gO, 2, none⟩ = some (.bool ox) ∧ (w6.drew.alloc (.cells #[.int .i64 0, .int .i64 0, .slice none 0 0, .slice none 0 0] 58)).cell? ⟨gO, 3, none⟩ = some (.int .i64 op) ∧ (w6.drew.alloc (.cells #[.int .i64 0, .int .i64 0, .slice none 0 0, .slice none 0 0] 58)).cell? ⟨gO, 4, none⟩ = some (.int .i64 oq) ∧ (w6.drew.alloc (.cells #[.int .i64 0, .int .i64 0, .slice none 0 0, .slice none 0 0] 58)).cell? ⟨gO, 5, none⟩ = some (.int .i64 on) ∧ (w6.drew.alloc (.cells #[.int .i64 0, .int .i64 0, .slice none 0 0, .slice none 0 0] 58)).cell? ⟨gO, 6, none⟩ = some (.int .i64 ot) ∧ (w6.drew.alloc (.cells #[.int .i64 0, .int .i64 0, .slice none 0 0, .slice none 0 0] 58)).cell? ⟨g, 10, none⟩ = some (.int .i64 ep)) := ⟨Mz6.out.blk.cell 0, Mz6.out.blk.cell 1, Mz6.out.blk.cell 2, Mz6.out.blk.cell 3, Mz6.out.blk.cell 4, Mz6.out.blk.cell 5, Mz6.out.blk.cell 6, Mz6.out.blk.cell 7, bb0, bb1, bb2, bb3, Oz6.out.cell 0, Oz6.out.cell 1, Oz6.out.cell 2, Oz6.out.cell 3, Oz6.out.cell 4, Oz6.out.cell 5, Oz6.out.cell 6, Mz6.out.blk.cell 10⟩
              have Sa : Hid (Blk (w6.drew.alloc (.cells #[.int .i64 0, .int .i64 0, .slice none 0 0, .slice none 0 0] 58)) w6.heap.size 58 #[.int .i64 0, .int .i64 0, .slice none 0 0, .slice none 0 0]) := Blk.fresh w6.drew _ _
              refine wp_region_noPanic ?_
              refine wp_region_L (T := (fun w' => w'.cell? ⟨g, 0, none⟩ = some (.int .i64 sh) ∧ w'.cell? ⟨g, 1, none⟩ = some (.int .i64 (wn : Int)) ∧ w'.cell? ⟨g, 2, none⟩ = some (.int .i64 ra) ∧ w'.cell? ⟨g, 3, none⟩ = some (.int .i64 ta) ∧ w'.cell? ⟨g, 4, none⟩ = some (.slice A nl c) ∧ w'.cell? ⟨g, 5, none⟩ = some (.slice (some ⟨b5, o5, none⟩) al d) ∧ w'.cell? ⟨g, 6, none⟩ = some (.slice C sl f) ∧ w'.cell? ⟨g, 7, none⟩ = some (.slice (some ⟨gb, 0, none⟩) nb cb) ∧ w'.cell? ⟨gb, sN * 4, none⟩ = some (.int .i64 bsh) ∧ w'.cell? ⟨gb, sN * 4 + 1, none⟩ = some (.int .i64 bca) ∧ w'.cell? ⟨gb, sN * 4 + 2, none⟩ = some (.slice XA nr2 xc) ∧ w'.cell? ⟨gb, sN * 4 + 3, none⟩ = some (.slice XC no2 xd) ∧ w'.cell? ⟨gO, 0, none⟩ = some (.int .i64 (aN : Int)) ∧ w'.cell? ⟨gO, 1, none⟩ = some (.int .i64 os) ∧ w'.cell? ⟨gO, 2, none⟩ = some (.bool ox) ∧ w'.cell? ⟨gO, 3, none⟩ = some (.int .i64 op) ∧ w'.cell? ⟨gO, 4, none⟩ = some (.int .i64 oq) ∧ w'.cell? ⟨gO, 5, none⟩ = some (.int .i64 on) ∧ w'.cell? ⟨gO, 6, none⟩ = some (.int .i64 ot) ∧ w'.cell? ⟨g, 10, none⟩ = some (.int .i64 ep))) (st := [21]) (by kernel_rfl) ?_
              refine wpL_word (i := 0) (v := ?_) rfl (by kernel_rfl) (fun _ _ _ h => h) (by kernel_rfl) _ _ _ _ (by kernel_rfl) (by kernel_rfl) (Or.inl ⟨by rfl, ?_⟩) (fun _ => HT.out) ?_
              rotate_left
              · intro w' _
                go_simp
                try with_reducible rfl
              (try simp only [Act.put, List.getElem_toArray, List.getElem_cons_succ, List.getElem_cons_zero, List.setIfInBounds_toArray, List.set_cons_zero, List.set_cons_succ])
              refine wpL_word (i := 1) (v := ?_) rfl (by kernel_rfl) (fun _ _ _ h => h) (by kernel_rfl) _ _ _ _ (by kernel_rfl) (by kernel_rfl) (Or.inl ⟨by rfl, ?_⟩) (fun _ => HT.out) ?_
              rotate_left
              · intro w' _
                go_simp
                try with_reducible rfl
              (try simp only [Act.put, List.getElem_toArray, List.getElem_cons_succ, List.getElem_cons_zero, List.setIfInBounds_toArray, List.set_cons_zero, List.set_cons_succ])
              refine wpL_word (i := 2) (v := ?_) rfl (by kernel_rfl) (fun _ _ _ h => h) (by kernel_rfl) _ _ _ _ (by kernel_rfl) (by kernel_rfl) (Or.inl ⟨by rfl, ?_⟩) (fun _ => HT.out) ?_
              rotate_left
              · intro w' _
                go_simp
                try with_reducible rfl
              (try simp only [Act.put, List.getElem_toArray, List.getElem_cons_succ, List.getElem_cons_zero, List.setIfInBounds_toArray, List.set_cons_zero, List.set_cons_succ])
              refine wpL_load (i := 3) (v := ?_) rfl (by kernel_rfl) (fun _ _ _ h => h) (by kernel_rfl) (by kernel_rfl) _ _ _ _ (by kernel_rfl) (by kernel_rfl) (Or.inl ⟨by rfl, ?_⟩) (by kernel_rfl) HT.out ?_
              rotate_left
              · intro w' hS
                (try dsimp only at hS)
                obtain ⟨x1, x2, x3, x4, x5, x6, x7, x8, x9, x10, x11, x12, x13, x14, x15, x16, x17, x18, x19, x20⟩ := hS
                go_simp
                try with_reducible rfl
              (try simp only [Act.put, List.getElem_toArray, List.getElem_cons_succ, List.getElem_cons_zero, List.setIfInBounds_toArray, List.set_cons_zero, List.set_cons_succ])
              refine wpL_word (i := 4) (v := ?_) rfl (by kernel_rfl) (fun _ _ _ h => h) (by kernel_rfl) _ _ _ _ (by kernel_rfl) (by kernel_rfl) (Or.inl ⟨by rfl, ?_⟩) (fun _ => HT.out) ?_
              rotate_left
              · intro w' _
                go_simp
                try with_reducible rfl
              (try simp only [Act.put, List.getElem_toArray, List.getElem_cons_succ, List.getElem_cons_zero, List.setIfInBounds_toArray, List.set_cons_zero, List.set_cons_succ])
              refine wpL_word (i := 5) (v := ?_) rfl (by kernel_rfl) (fun _ _ _ h => h) (by kernel_rfl) _ _ _ _ (by kernel_rfl) (by kernel_rfl) (Or.inl ⟨by rfl, ?_⟩) (fun _ => HT.out) ?_
              rotate_left
              · intro w' _
                go_simp
                try with_reducible rfl
              (try simp only [Act.put, List.getElem_toArray, List.getElem_cons_succ, List.getElem_cons_zero, List.setIfInBounds_toArray, List.set_cons_zero, List.set_cons_succ])
              refine wpL_word (i := 6) (v := ?_) rfl (by kernel_rfl) (fun _ _ _ h => h) (by kernel_rfl) _ _ _ _ (by kernel_rfl) (by kernel_rfl) (Or.inl ⟨by rfl, ?_⟩) (fun _ => HT.out) ?_
              rotate_left
              · intro w' _
                go_simp
                try with_reducible rfl
              (try simp only [Act.put, List.getElem_toArray, List.getElem_cons_succ, List.getElem_cons_zero, List.setIfInBounds_toArray, List.set_cons_zero, List.set_cons_succ])
              refine wpL_load (i := 7) (v := ?_) rfl (by kernel_rfl) (fun _ _ _ h => h) (by kernel_rfl) (by kernel_rfl) _ _ _ _ (by kernel_rfl) (by kernel_rfl) (Or.inl ⟨by rfl, ?_⟩) (by kernel_rfl) HT.out ?_
              rotate_left
              · intro w' hS
                (try dsimp only at hS)
                obtain ⟨x1, x2, x3, x4, x5, x6, x7, x8, x9, x10, x11, x12, x13, x14, x15, x16, x17, x18, x19, x20⟩ := hS
                go_simp
                try with_reducible rfl
              (try simp only [Act.put, List.getElem_toArray, List.getElem_cons_succ, List.getElem_cons_zero, List.setIfInBounds_toArray, List.set_cons_zero, List.set_cons_succ])
              refine wpL_word (i := 8) (v := ?_) rfl (by kernel_rfl) (fun _ _ _ h => h) (by kernel_rfl) _ _ _ _ (by kernel_rfl) (by kernel_rfl) (Or.inl ⟨by rfl, ?_⟩) (fun _ => HT.out) ?_
              rotate_left
              · intro w' _
                go_simp
                try with_reducible rfl
              (try simp only [Act.put, List.getElem_toArray, List.getElem_cons_succ, List.getElem_cons_zero, List.setIfInBounds_toArray, List.set_cons_zero, List.set_cons_succ])
              refine wpL_word (i := 9) (v := ?_) rfl (by kernel_rfl) (fun _ _ _ h => h) (by kernel_rfl) _ _ _ _ (by kernel_rfl) (by kernel_rfl) (Or.inl ⟨by rfl, ?_⟩) (fun _ => HT.out) ?_
              rotate_left
              · intro w' _
                go_simp
                try with_reducible rfl
              (try simp only [Act.put, List.getElem_toArray, List.getElem_cons_succ, List.getElem_cons_zero, List.setIfInBounds_toArray, List.set_cons_zero, List.set_cons_succ])
              refine wpL_load (i := 10) (v := ?_) rfl (by kernel_rfl) (fun _ _ _ h => h) (by kernel_rfl) (by kernel_rfl) _ _ _ _ (by kernel_rfl) (by kernel_rfl) (Or.inl ⟨by rfl, ?_⟩) (by kernel_rfl) HT.out ?_
              rotate_left
              · intro w' hS
                (try dsimp only at hS)
                obtain ⟨x1, x2, x3, x4, x5, x6, x7, x8, x9, x10, x11, x12, x13, x14, x15, x16, x17, x18, x19, x20⟩ := hS
                go_simp
                try with_reducible rfl
              (try simp only [Act.put, List.getElem_toArray, List.getElem_cons_succ, List.getElem_cons_zero, List.setIfInBounds_toArray, List.set_cons_zero, List.set_cons_succ])
              refine wpL_load (i := 11) (v := ?_) rfl (by kernel_rfl) (fun _ _ _ h => h) (by kernel_rfl) (by kernel_rfl) _ _ _ _ (by kernel_rfl) (by kernel_rfl) (Or.inl ⟨by rfl, ?_⟩) (by kernel_rfl) HT.out ?_
              rotate_left
              · intro w' hS
                (try dsimp only at hS)
                obtain ⟨x1, x2, x3, x4, x5, x6, x7, x8, x9, x10, x11, x12, x13, x14, x15, x16, x17, x18, x19, x20⟩ := hS
                go_simp
                try with_reducible rfl
              (try simp only [Act.put, List.getElem_toArray, List.getElem_cons_succ, List.getElem_cons_zero, List.setIfInBounds_toArray, List.set_cons_zero, List.set_cons_succ])
              refine wpL_word (i := 12) (v := ?_) rfl (by kernel_rfl) (fun _ _ _ h => h) (by kernel_rfl) _ _ _ _ (by kernel_rfl) (by kernel_rfl) (Or.inl ⟨by rfl, ?_⟩) (fun _ => HT.out) ?_
              rotate_left
              · intro w' _
                go_simp
                try with_reducible rfl
              (try simp only [Act.put, List.getElem_toArray, List.getElem_cons_succ, List.getElem_cons_zero, List.setIfInBounds_toArray, List.set_cons_zero, List.set_cons_succ])
              refine wpL_word (i := 13) (v := ?_) rfl (by kernel_rfl) (fun _ _ _ h => h) (by kernel_rfl) _ _ _ _ (by kernel_rfl) (by kernel_rfl) (Or.inl ⟨by rfl, ?_⟩) (fun _ => HT.out) ?_
              rotate_left
              · intro w' _
                go_simp
                try with_reducible rfl
              (try simp only [Act.put, List.getElem_toArray, List.getElem_cons_succ, List.getElem_cons_zero, List.setIfInBounds_toArray, List.set_cons_zero, List.set_cons_succ])
              refine wpL_word (i := 14) (v := ?_) rfl (by kernel_rfl) (fun _ _ _ h => h) (by kernel_rfl) _ _ _ _ (by kernel_rfl) (by kernel_rfl) (Or.inl ⟨by rfl, ?_⟩) (fun _ => HT.out) ?_
              rotate_left
              · intro w' _
                go_simp
                try with_reducible rfl
              (try simp only [Act.put, List.getElem_toArray, List.getElem_cons_succ, List.getElem_cons_zero, List.setIfInBounds_toArray, List.set_cons_zero, List.set_cons_succ])
              refine wpL_load (i := 15) (v := ?_) rfl (by kernel_rfl) (fun _ _ _ h => h) (by kernel_rfl) (by kernel_rfl) _ _ _ _ (by kernel_rfl) (by kernel_rfl) (Or.inl ⟨by rfl, ?_⟩) (by kernel_rfl) HT.out ?_
              rotate_left
              · intro w' hS
                (try dsimp only at hS)
                obtain ⟨x1, x2, x3, x4, x5, x6, x7, x8, x9, x10, x11, x12, x13, x14, x15, x16, x17, x18, x19, x20⟩ := hS
                go_simp
                try with_reducible rfl
              (try simp only [Act.put, List.getElem_toArray, List.getElem_cons_succ, List.getElem_cons_zero, List.setIfInBounds_toArray, List.set_cons_zero, List.set_cons_succ])
              refine wpL_two (m := 16) (n := 20) (by kernel_rfl) rfl rfl ?_ ?_
              · intro K' hK
                go_simp
                refine (AX _ (Lib.hid (BM0.out.below hB6d.out))).mono ?_
                rintro e w7 ⟨A7, C7, c7, d7, rl7, rfl, hm7, hf7, hb7⟩
                have HB7 : Hid (Below w0.heap.size w0 w7) := CrdB.below_step hB6d.out hb7
                have M7 := Lib.hid (Mm_below M0.out HB7.out)
                have O7 := Lib.hid (Blk.below' O1.out HB7.out)
                have RMcc := own_room M7.out.row
                have cc0 := RMcc.2.2.2.2.2 (sN * 4) _ (by have := bxs_get xs sN 0 hsx.out (by decide); rw [← HX.out] at this; exact this)
                have cc1 := RMcc.2.2.2.2.2 (sN * 4 + 1) _ (by have := bxs_get xs sN 1 hsx.out (by decide); rw [← HX.out] at this; exact this)
                have cc2 := RMcc.2.2.2.2.2 (sN * 4 + 2) _ (by have := bxs_get xs sN 2 hsx.out (by decide); rw [← HX.out] at this; exact this)
                have cc3 := RMcc.2.2.2.2.2 (sN * 4 + 3) _ (by have := bxs_get xs sN 3 hsx.out (by decide); rw [← HX.out] at this; exact this)
                simp only [bxV, List.getElem?_cons_zero, List.getElem?_cons_succ] at cc0 cc1 cc2 cc3
                rw [← HSHB.out.1] at cc0
                rw [← HSHB.out.2] at cc1
                rw [← HNR2.out] at cc2
                rw [← HNO2.out] at cc3
                clear RMcc
                have HT2 : Hid (w7.cell? ⟨g, 0, none⟩ = some (.int .i64 sh) ∧ w7.cell? ⟨g, 1, none⟩ = some (.int .i64 (wn : Int)) ∧ w7.cell? ⟨g, 2, none⟩ = some (.int .i64 ra) ∧ w7.cell? ⟨g, 3, none⟩ = some (.int .i64 ta) ∧ w7.cell? ⟨g, 4, none⟩ = some (.slice A nl c) ∧ w7.cell? ⟨g, 5, none⟩ = some (.slice (some ⟨b5, o5, none⟩) al d) ∧ w7.cell? ⟨g, 6, none⟩ = some (.slice C sl f) ∧ w7.cell? ⟨g, 7, none⟩ = some (.slice (some ⟨gb, 0, none⟩) nb cb) ∧ w7.cell? ⟨gb, sN * 4, none⟩ = some (.int .i64 bsh) ∧ w7.cell? ⟨gb, sN * 4 + 1, none⟩ = some (.int .i64 bca) ∧ w7.cell? ⟨gb, sN * 4 + 2, none⟩ = some (.slice XA nr2 xc) ∧ w7.cell? ⟨gb, sN * 4 + 3, none⟩ = some (.slice XC no2 xd) ∧ w7.cell? ⟨gO, 0, none⟩ = some (.int .i64 (aN : Int)) ∧ w7.cell? ⟨gO, 1, none⟩ = some (.int .i64 os) ∧ w7.cell? ⟨gO, 2, none⟩ = some (.bool ox) ∧ w7.cell? ⟨gO, 3, none⟩ = some (.int .i64 op) ∧ w7.cell? ⟨gO, 4, none⟩ = some (.int .i64 oq) ∧ w7.cell? ⟨gO, 5, none⟩ = some (.int .i64 on) ∧ w7.cell? ⟨gO, 6, none⟩ = some (.int .i64 ot) ∧ w7.cell? ⟨g, 10, none⟩ = some (.int .i64 ep)) := ⟨M7.out.blk.cell 0, M7.out.blk.cell 1, M7.out.blk.cell 2, M7.out.blk.cell 3, M7.out.blk.cell 4, M7.out.blk.cell 5, M7.out.blk.cell 6, M7.out.blk.cell 7, cc0, cc1, cc2, cc3, O7.out.cell 0, O7.out.cell 1, O7.out.cell 2, O7.out.cell 3, O7.out.cell 4, O7.out.cell 5, O7.out.cell 6, M7.out.blk.cell 10⟩
                have N7 := Lib.hid hm7
                have F7 : Hid (Fb w6.heap.size A7 C7 rl7) := hf7
                have B67 : Hid (Below w6.heap.size w6 w7) := CrdB.below_step (Below.drew (Below.refl _ _)) hb7
                clear hm7 hf7 hb7
                go_wp2_with fail
                refine hK.out _ _ HT2.out ?_
                clear hK K'
                (try simp only [Act.put, List.getElem_toArray, List.getElem_cons_succ, List.getElem_cons_zero, List.setIfInBounds_toArray, List.set_cons_zero, List.set_cons_succ])
                refine wpL_word (i := 17) (v := ?_) rfl (by kernel_rfl) (fun _ _ _ h => h) (by kernel_rfl) _ _ _ _ (by kernel_rfl) (by kernel_rfl) (Or.inl ⟨by rfl, ?_⟩) (fun _ => HT2.out) ?_
                rotate_left
                · intro w' _
                  go_simp
                  try with_reducible rfl
                (try simp only [Act.put, List.getElem_toArray, List.getElem_cons_succ, List.getElem_cons_zero, List.setIfInBounds_toArray, List.set_cons_zero, List.set_cons_succ])
                refine wpL_word (i := 18) (v := ?_) rfl (by kernel_rfl) (fun _ _ _ h => h) (by kernel_rfl) _ _ _ _ (by kernel_rfl) (by kernel_rfl) (Or.inl ⟨by rfl, ?_⟩) (fun _ => HT2.out) ?_
                rotate_left
                · intro w' _
                  go_simp
                  try with_reducible rfl
                (try simp only [Act.put, List.getElem_toArray, List.getElem_cons_succ, List.getElem_cons_zero, List.setIfInBounds_toArray, List.set_cons_zero, List.set_cons_succ])
                refine wpL_word (i := 19) (v := ?_) rfl (by kernel_rfl) (fun _ _ _ h => h) (by kernel_rfl) _ _ _ _ (by kernel_rfl) (by kernel_rfl) (Or.inl ⟨by rfl, ?_⟩) (fun _ => HT2.out) ?_
                rotate_left
                · intro w' _
                  go_simp
                  try with_reducible rfl
                (try simp only [Act.put, List.getElem_toArray, List.getElem_cons_succ, List.getElem_cons_zero, List.setIfInBounds_toArray, List.set_cons_zero, List.set_cons_succ])
                have hBy : Hid (Below w0.heap.size w0 (w7.alloc (.cells #[.int .i64 0, .int .i64 0, .slice none 0 0, .slice none 0 0] 58))) := HB7.out.alloc HB7.out.size _
                have My := Lib.hid (Mm_below M0.out hBy.out)
                have Oy := Lib.hid (Blk.below' O1.out hBy.out)
                have RMff := own_room My.out.row
                have ff0 := RMff.2.2.2.2.2 (sN * 4) _ (by have := bxs_get xs sN 0 hsx.out (by decide); rw [← HX.out] at this; exact this)
                have ff1 := RMff.2.2.2.2.2 (sN * 4 + 1) _ (by have := bxs_get xs sN 1 hsx.out (by decide); rw [← HX.out] at this; exact this)
                have ff2 := RMff.2.2.2.2.2 (sN * 4 + 2) _ (by have := bxs_get xs sN 2 hsx.out (by decide); rw [← HX.out] at this; exact this)
                have ff3 := RMff.2.2.2.2.2 (sN * 4 + 3) _ (by have := bxs_get xs sN 3 hsx.out (by decide); rw [← HX.out] at this; exact this)
                simp only [bxV, List.getElem?_cons_zero, List.getElem?_cons_succ] at ff0 ff1 ff2 ff3
                rw [← HSHB.out.1] at ff0
                rw [← HSHB.out.2] at ff1
                rw [← HNR2.out] at ff2
                rw [← HNO2.out] at ff3
                clear RMff
                have HTb : Hid ((w7.alloc (.cells #[.int .i64 0, .int .i64 0, .slice none 0 0, .slice none 0 0] 58)).cell? ⟨g, 0, none⟩ = some (.int .i64 sh) ∧ (w7.alloc (.cells #[.int .i64 0, .int .i64 0, .slice none 0 0, .slice none 0 0] 58)).cell? ⟨g, 1, none⟩ = some (.int .i64 (wn : Int)) ∧ (w7.alloc (.cells #[.int .i64 0, .int .i64 0, .slice none 0 0, .slice none 0 0] 58)).cell? ⟨g, 2, none⟩ = some (.int .i64 ra) ∧ (w7.alloc (.cells #[.int .i64 0, .int .i64 0, .slice none 0 0, .slice none 0 0] 58)).cell? ⟨g, 3, none⟩ = some (.int .i64 ta) ∧ (w7.alloc (.cells #[.int .i64 0, .int .i64 0, .slice none 0 0, .slice none 0 0] 58)).cell? ⟨g, 4, none⟩ = some (.slice A nl c) ∧ (w7.alloc (.cells #[.int .i64 0, .int .i64 0, .slice none 0 0, .slice none 0 0] 58)).cell? ⟨g, 5, none⟩ = some (.slice (some ⟨b5, o5, none⟩) al d) ∧ (w7.alloc (.cells #[.int .i64 0, .int .i64 0, .slice none 0 0, .slice none 0 0] 58)).cell? ⟨g, 6, none⟩ = some (.slice C sl f) ∧ (w7.alloc (.cells #[.int .i64 0, .int .i64 0, .slice none 0 0, .slice none 0 0] 58)).cell? ⟨g, 7, none⟩ = some (.slice (some ⟨gb, 0, none⟩) nb cb) ∧ (w7.alloc (.cells #[.int .i64 0, .int .i64 0, .slice none 0 0, .slice none 0 0] 58)).cell? ⟨gb, sN * 4, none⟩ = some (.int .i64 bsh) ∧ (w7.alloc (.cells #[.int .i64 0, .int .i64 0, .slice none 0 0, .slice none 0 0] 58)).cell? ⟨gb, sN * 4 + 1, none⟩ = some (.int .i64 bca) ∧ (w7.alloc (.cells #[.int .i64 0, .int .i64 0, .slice none 0 0, .slice none 0 0] 58)).cell? ⟨gb, sN * 4 + 2, none⟩ = some (.slice XA nr2 xc) ∧ (w7.alloc (.cells #[.int .i64 0, .int .i64 0, .slice none 0 0, .slice none 0 0] 58)).cell? ⟨gb, sN * 4 + 3, none⟩ = some (.slice XC no2 xd) ∧ (w7.alloc (.cells #[.int .i64 0, .int .i64 0, .slice none 0 0, .slice none 0 0] 58)).cell? ⟨gO, 0, none⟩ = some (.int .i64 (aN : Int)) ∧ (w7.alloc (.cells #[.int .i64 0, .int .i64 0, .slice none 0 0, .slice none 0 0] 58)).cell? ⟨gO, 1, none⟩ = some (.int .i64 os) ∧ (w7.alloc (.cells #[.int .i64 0, .int .i64 0, .slice none 0 0, .slice none 0 0] 58)).cell? ⟨gO, 2, none⟩ = some (.bool ox) ∧ (w7.alloc (.cells #[.int .i64 0, .int .i64 0, .slice none 0 0, .slice none 0 0] 58)).cell? ⟨gO, 3, none⟩ = some (.int .i64 op) ∧ (w7.alloc (.cells #[.int .i64 0, .int .i64 0, .slice none 0 0, .slice none 0 0] 58)).cell? ⟨gO, 4, none⟩ = some (.int .i64 oq) ∧ (w7.alloc (.cells #[.int .i64 0, .int .i64 0, .slice none 0 0, .slice none 0 0] 58)).cell? ⟨gO, 5, none⟩ = some (.int .i64 on) ∧ (w7.alloc (.cells #[.int .i64 0, .int .i64 0, .slice none 0 0, .slice none 0 0] 58)).cell? ⟨gO, 6, none⟩ = some (.int .i64 ot) ∧ (w7.alloc (.cells #[.int .i64 0, .int .i64 0, .slice none 0 0, .slice none 0 0] 58)).cell? ⟨g, 10, none⟩ = some (.int .i64 ep)) := ⟨My.out.blk.cell 0, My.out.blk.cell 1, My.out.blk.cell 2, My.out.blk.cell 3, My.out.blk.cell 4, My.out.blk.cell 5, My.out.blk.cell 6, My.out.blk.cell 7, ff0, ff1, ff2, ff3, Oy.out.cell 0, Oy.out.cell 1, Oy.out.cell 2, Oy.out.cell 3, Oy.out.cell 4, Oy.out.cell 5, Oy.out.cell 6, My.out.blk.cell 10⟩
                refine wpL_next (n := 20) (by kernel_rfl) rfl (fun K' hK => ?_)
                go_simp
                refine hK.out _ _ HTb.out ?_
                clear hK K'
                (try simp only [Act.put, List.getElem_toArray, List.getElem_cons_succ, List.getElem_cons_zero, List.setIfInBounds_toArray, List.set_cons_zero, List.set_cons_succ])
                refine wpL_late (n := 21) (by kernel_rfl) rfl (by kernel_rfl) (fun K' hK => ?_)
                go_simp
                refine hK.out _ _ ?_
                clear hK K'
                (try simp only [Act.put, List.getElem_toArray, List.getElem_cons_succ, List.getElem_cons_zero, List.setIfInBounds_toArray, List.set_cons_zero, List.set_cons_succ])
                refine wpL_word (i := 22) (v := ?_) rfl (by kernel_rfl) (fun _ _ _ h => h) (by kernel_rfl) _ _ _ _ (by kernel_rfl) (by kernel_rfl) (Or.inl ⟨by rfl, ?_⟩) (fun h => absurd h (by decide +kernel)) ?_
                rotate_left
                · intro w' _
                  go_simp
                  try with_reducible rfl
                (try simp only [Act.put, List.getElem_toArray, List.getElem_cons_succ, List.getElem_cons_zero, List.setIfInBounds_toArray, List.set_cons_zero, List.set_cons_succ])
                refine wpL_done (by kernel_rfl) ?_ _
                refine NoPanic.normal ?_
                have hT : Hid (Blk (w7.alloc (.cells #[.int .i64 nsh, .int .i64 nca, .slice A7 nr7 c7, .slice C7 no7 d7] 58)) w7.heap.size 58 #[.int .i64 nsh, .int .i64 nca, .slice A7 nr7 c7, .slice C7 no7 d7]) := Blk.fresh _ _ _
                have hU : Below w7.heap.size w7 (w7.alloc (.cells #[.int .i64 nsh, .int .i64 nca, .slice A7 nr7 c7, .slice C7 no7 d7] 58)) := (Below.refl _ _).alloc (Nat.le_refl _) _
                clear aa0 aa1 aa2 aa3 bb0 bb1 bb2 bb3 cc0 cc1 cc2 cc3 ff0 ff1 ff2 ff3 HT HTa HT2 HTb
                go_wp2_with fail
                go_meet
                exact ⟨w7.heap.size, A7, C7, c7, d7, rl7, rfl, rfl, hT, N7.out.below hU, F7, CrdB.below_step B67.out hU, B67.out.size⟩
              · intro K' hK
                go_simp
                refine hK.out _ _ HTa.out ?_
                clear hK K'
                (try simp only [Act.put, List.getElem_toArray, List.getElem_cons_succ, List.getElem_cons_zero, List.setIfInBounds_toArray, List.set_cons_zero, List.set_cons_succ])
                refine wpL_next (n := 16) (by kernel_rfl) rfl (fun K' hK => ?_)
                go_simp
                refine (AX _ (Lib.hid (BM0.out.below hBz.out))).mono ?_
                rintro e w7 ⟨A7, C7, c7, d7, rl7, rfl, hm7, hf7, hb7⟩
                have HB7 : Hid (Below w0.heap.size w0 w7) := CrdB.below_step hBz.out hb7
                have M7 := Lib.hid (Mm_below M0.out HB7.out)
                have O7 := Lib.hid (Blk.below' O1.out HB7.out)
                have RMcc := own_room M7.out.row
                have cc0 := RMcc.2.2.2.2.2 (sN * 4) _ (by have := bxs_get xs sN 0 hsx.out (by decide); rw [← HX.out] at this; exact this)
                have cc1 := RMcc.2.2.2.2.2 (sN * 4 + 1) _ (by have := bxs_get xs sN 1 hsx.out (by decide); rw [← HX.out] at this; exact this)
                have cc2 := RMcc.2.2.2.2.2 (sN * 4 + 2) _ (by have := bxs_get xs sN 2 hsx.out (by decide); rw [← HX.out] at this; exact this)
                have cc3 := RMcc.2.2.2.2.2 (sN * 4 + 3) _ (by have := bxs_get xs sN 3 hsx.out (by decide); rw [← HX.out] at this; exact this)
                simp only [bxV, List.getElem?_cons_zero, List.getElem?_cons_succ] at cc0 cc1 cc2 cc3
                rw [← HSHB.out.1] at cc0
                rw [← HSHB.out.2] at cc1
                rw [← HNR2.out] at cc2
                rw [← HNO2.out] at cc3
                clear RMcc
                have HT2 : Hid (w7.cell? ⟨g, 0, none⟩ = some (.int .i64 sh) ∧ w7.cell? ⟨g, 1, none⟩ = some (.int .i64 (wn : Int)) ∧ w7.cell? ⟨g, 2, none⟩ = some (.int .i64 ra) ∧ w7.cell? ⟨g, 3, none⟩ = some (.int .i64 ta) ∧ w7.cell? ⟨g, 4, none⟩ = some (.slice A nl c) ∧ w7.cell? ⟨g, 5, none⟩ = some (.slice (some ⟨b5, o5, none⟩) al d) ∧ w7.cell? ⟨g, 6, none⟩ = some (.slice C sl f) ∧ w7.cell? ⟨g, 7, none⟩ = some (.slice (some ⟨gb, 0, none⟩) nb cb) ∧ w7.cell? ⟨gb, sN * 4, none⟩ = some (.int .i64 bsh) ∧ w7.cell? ⟨gb, sN * 4 + 1, none⟩ = some (.int .i64 bca) ∧ w7.cell? ⟨gb, sN * 4 + 2, none⟩ = some (.slice XA nr2 xc) ∧ w7.cell? ⟨gb, sN * 4 + 3, none⟩ = some (.slice XC no2 xd) ∧ w7.cell? ⟨gO, 0, none⟩ = some (.int .i64 (aN : Int)) ∧ w7.cell? ⟨gO, 1, none⟩ = some (.int .i64 os) ∧ w7.cell? ⟨gO, 2, none⟩ = some (.bool ox) ∧ w7.cell? ⟨gO, 3, none⟩ = some (.int .i64 op) ∧ w7.cell? ⟨gO, 4, none⟩ = some (.int .i64 oq) ∧ w7.cell? ⟨gO, 5, none⟩ = some (.int .i64 on) ∧ w7.cell? ⟨gO, 6, none⟩ = some (.int .i64 ot) ∧ w7.cell? ⟨g, 10, none⟩ = some (.int .i64 ep)) := ⟨M7.out.blk.cell 0, M7.out.blk.cell 1, M7.out.blk.cell 2, M7.out.blk.cell 3, M7.out.blk.cell 4, M7.out.blk.cell 5, M7.out.blk.cell 6, M7.out.blk.cell 7, cc0, cc1, cc2, cc3, O7.out.cell 0, O7.out.cell 1, O7.out.cell 2, O7.out.cell 3, O7.out.cell 4, O7.out.cell 5, O7.out.cell 6, M7.out.blk.cell 10⟩
                have S7 : Hid (Blk w7 w6.heap.size 58 #[.int .i64 0, .int .i64 0, .slice none 0 0, .slice none 0 0]) := Blk.below' Sa.out hb7
                have N7 := Lib.hid hm7
                have G7 : Hid (Fb (w6.heap.size + 1) A7 C7 rl7) := by have h9 : (w6.drew.alloc (.cells #[.int .i64 0, .int .i64 0, .slice none 0 0, .slice none 0 0] 58)).heap.size = w6.heap.size + 1 := World.size_alloc _ _; rw [← h9]; exact hf7
                have B67 : Hid (Below w6.heap.size w6 w7) := CrdB.below_step ((Below.drew (Below.refl _ _)).alloc (Nat.le_refl _) _) hb7
                clear hm7 hf7 hb7
                obtain ⟨p0, p1, p2, p3, g0, g1, g2, g3⟩ := z4_of S7.out
                have PB0 : Blk w7 w6.heap.size 58 #[.int .i64 0, .int .i64 0, .slice none 0 0, .slice none 0 0] := S7.out
                have PB1 : Blk (w7.setCell ⟨w6.heap.size, 0, none⟩ (.int .i64 nsh)) w6.heap.size 58 #[.int .i64 nsh, .int .i64 0, .slice none 0 0, .slice none 0 0] := blk_st PB0 0 _
                have PB2 : Blk ((w7.setCell ⟨w6.heap.size, 0, none⟩ (.int .i64 nsh)).setCell ⟨w6.heap.size, 1, none⟩ (.int .i64 nca)) w6.heap.size 58 #[.int .i64 nsh, .int .i64 nca, .slice none 0 0, .slice none 0 0] := blk_st PB1 1 _
                have PB3 : Blk (((w7.setCell ⟨w6.heap.size, 0, none⟩ (.int .i64 nsh)).setCell ⟨w6.heap.size, 1, none⟩ (.int .i64 nca)).setCell ⟨w6.heap.size, 2, none⟩ (.slice A7 nr7 c7)) w6.heap.size 58 #[.int .i64 nsh, .int .i64 nca, .slice A7 nr7 c7, .slice none 0 0] := blk_st PB2 2 _
                have PC1 := PB1.cell 1
                have PC2 := PB2.cell 2
                have PC3 := PB3.cell 3
                have PF1 := PB1.thaw 1
                have PF2 := PB2.thaw 2
                have PF3 := PB3.thaw 3
                simp only [List.getElem?_toArray, List.getElem?_cons_succ, List.getElem?_cons_zero] at PC1 PC2 PC3
                clear PB0 PB1 PB2 PB3
                go_wp2_with fail
                refine hK.out _ _ HT2.out ?_
                clear hK K'
                (try simp only [Act.put, List.getElem_toArray, List.getElem_cons_succ, List.getElem_cons_zero, List.setIfInBounds_toArray, List.set_cons_zero, List.set_cons_succ])
                refine wpL_word (i := 17) (v := ?_) rfl (by kernel_rfl) (fun _ _ _ h => h) (by kernel_rfl) _ _ _ _ (by kernel_rfl) (by kernel_rfl) (Or.inl ⟨by rfl, ?_⟩) (fun _ => HT2.out) ?_
                rotate_left
                · intro w' _
                  go_simp
                  try with_reducible rfl
                (try simp only [Act.put, List.getElem_toArray, List.getElem_cons_succ, List.getElem_cons_zero, List.setIfInBounds_toArray, List.set_cons_zero, List.set_cons_succ])
                refine wpL_word (i := 18) (v := ?_) rfl (by kernel_rfl) (fun _ _ _ h => h) (by kernel_rfl) _ _ _ _ (by kernel_rfl) (by kernel_rfl) (Or.inl ⟨by rfl, ?_⟩) (fun _ => HT2.out) ?_
                rotate_left
                · intro w' _
                  go_simp
                  try with_reducible rfl
                (try simp only [Act.put, List.getElem_toArray, List.getElem_cons_succ, List.getElem_cons_zero, List.setIfInBounds_toArray, List.set_cons_zero, List.set_cons_succ])
                refine wpL_word (i := 19) (v := ?_) rfl (by kernel_rfl) (fun _ _ _ h => h) (by kernel_rfl) _ _ _ _ (by kernel_rfl) (by kernel_rfl) (Or.inl ⟨by rfl, ?_⟩) (fun _ => HT2.out) ?_
                rotate_left
                · intro w' _
                  go_simp
                  try with_reducible rfl
                (try simp only [Act.put, List.getElem_toArray, List.getElem_cons_succ, List.getElem_cons_zero, List.setIfInBounds_toArray, List.set_cons_zero, List.set_cons_succ])
                refine wpL_late (n := 21) (by kernel_rfl) rfl (by kernel_rfl) (fun K' hK => ?_)
                go_simp
                refine hK.out _ _ ?_
                clear hK K'
                (try simp only [Act.put, List.getElem_toArray, List.getElem_cons_succ, List.getElem_cons_zero, List.setIfInBounds_toArray, List.set_cons_zero, List.set_cons_succ])
                refine wpL_word (i := 22) (v := ?_) rfl (by kernel_rfl) (fun _ _ _ h => h) (by kernel_rfl) _ _ _ _ (by kernel_rfl) (by kernel_rfl) (Or.inl ⟨by rfl, ?_⟩) (fun h => absurd h (by decide +kernel)) ?_
                rotate_left
                · intro w' _
                  go_simp
                  try with_reducible rfl
                (try simp only [Act.put, List.getElem_toArray, List.getElem_cons_succ, List.getElem_cons_zero, List.setIfInBounds_toArray, List.set_cons_zero, List.set_cons_succ])
                refine wpL_done (by kernel_rfl) ?_ _
                refine NoPanic.normal ?_
                have hT : Hid (Blk (st4 w7 w6.heap.size (.int .i64 nsh) (.int .i64 nca) (.slice A7 nr7 c7) (.slice C7 no7 d7)) w6.heap.size 58 #[.int .i64 nsh, .int .i64 nca, .slice A7 nr7 c7, .slice C7 no7 d7]) := st4_blk S7.out
                have hN : Hid (Bm (st4 w7 w6.heap.size (.int .i64 nsh) (.int .i64 nca) (.slice A7 nr7 c7) (.slice C7 no7 d7)) A7 C7 rl7 NB) := Bm_st4 N7.out G7.out (Nat.lt_succ_self _) _ _ _ _
                have hB : Hid (Below w6.heap.size w6 (st4 w7 w6.heap.size (.int .i64 nsh) (.int .i64 nca) (.slice A7 nr7 c7) (.slice C7 no7 d7))) := st4_below B67.out (Nat.le_refl _)
                have F7 : Hid (Fb w6.heap.size A7 C7 rl7) := ⟨fun a ha => by have := G7.out.1 a ha; omega, fun a ha => by have := G7.out.2.1 a ha; omega, fun i hi a ha => by have := G7.out.2.2 i hi a ha; omega⟩
                clear p0 p1 p2 p3 g0 g1 g2 g3 PC1 PC2 PC3 PF1 PF2 PF3 aa0 aa1 aa2 aa3 bb0 bb1 bb2 bb3 cc0 cc1 cc2 cc3 HT HTa HT2
                go_wp2_with fail
                go_meet
                exact ⟨w6.heap.size, A7, C7, c7, d7, rl7, rfl, rfl, hT, hN, F7, hB, Nat.le_refl _⟩
            case rest =>
              obtain ⟨gV, A7, C7, c7, d7, rl7, rfl, rfl, V7b, N7, F7, B67, hgV⟩ := hcut
              rename World => w7
              have HB7 : Hid (Below w0.heap.size w0 w7.drew) := Below.drew (CrdB.below_step HB6.out B67.out)
              have M7 := Lib.hid (Mm_below M0.out HB7.out)
              have S7 : Hid (Blk w7.drew gS 62 #[.slice A5 n1 d5, .slice A6 nU d6]) := Blk.below' S6.out (Below.drew B67.out)
              have V7d : Hid (Blk w7.drew gV 58 #[.int .i64 nsh, .int .i64 nca, .slice A7 nr7 c7, .slice C7 no7 d7]) := V7b.out
              have N5d : Hid (Nds w7.drew w7.drew.heap.size A5 cl) := Rd.below' N6.out (Below.drew B67.out) B67.out.size
              have R6d : Hid (Ris w7.drew w7.drew.heap.size A6 UU) := Rd.below' R6.out (Below.drew B67.out) B67.out.size
              have LT0 := Lib.hid (Mm_lt M0.out)
              have hgb0 : Hid (gb < w0.heap.size) := LT0.out.2 ⟨gb, 0, none⟩ rfl
              have h03 : Hid (w0.heap.size ≤ w3.heap.size) := HB3.out.size
              have h06 : Hid (w0.heap.size ≤ w6.heap.size) := HB6.out.size
              have hVb : Hid (gV ≠ gb) := by show _ ≠ _; have := hgV.out; have := hgb0.out; have := h06.out; omega
              have hSb : Hid (gS ≠ gb) := by show _ ≠ _; have := hgS.out; have := hgb0.out; have := h03.out; omega
              have hVg : Hid (gV ≠ g) := by show _ ≠ _; have := hgV.out; have := LT0.out.1; have := h06.out; omega
              have hSg : Hid (gS ≠ g) := by show _ ≠ _; have := hgS.out; have := LT0.out.1; have := h03.out; omega
              have RMhh := own_room M7.out.row
              have hh0 := RMhh.2.2.2.2.2 (sN * 4) _ (by have := bxs_get xs sN 0 hsx.out (by decide); rw [← HX.out] at this; exact this)
              have hh1 := RMhh.2.2.2.2.2 (sN * 4 + 1) _ (by have := bxs_get xs sN 1 hsx.out (by decide); rw [← HX.out] at this; exact this)
              have hh2 := RMhh.2.2.2.2.2 (sN * 4 + 2) _ (by have := bxs_get xs sN 2 hsx.out (by decide); rw [← HX.out] at this; exact this)
              have hh3 := RMhh.2.2.2.2.2 (sN * 4 + 3) _ (by have := bxs_get xs sN 3 hsx.out (by decide); rw [← HX.out] at this; exact this)
              simp only [bxV, List.getElem?_cons_zero, List.getElem?_cons_succ] at hh0 hh1 hh2 hh3
              rw [← HSHB.out.1] at hh0
              rw [← HSHB.out.2] at hh1
              rw [← HNR2.out] at hh2
              rw [← HNO2.out] at hh3
              clear RMhh
              have RMf := own_room M7.out.row
              have hcb : nb ≤ cb := RMf.2.2.1
              have hf0 := (RMf.2.2.2.2.1 (sN * 4) (show sN * 4 < cb * 4 by omega)).2
              have hf1 := (RMf.2.2.2.2.1 (sN * 4 + 1) (show sN * 4 + 1 < cb * 4 by omega)).2
              have hf2 := (RMf.2.2.2.2.1 (sN * 4 + 2) (show sN * 4 + 2 < cb * 4 by omega)).2
              have hf3 := (RMf.2.2.2.2.1 (sN * 4 + 3) (show sN * 4 + 3 < cb * 4 by omega)).2
              clear RMf hcb
              have hd1 : (w7.drew.setCell ⟨gb, sN * 4, none⟩ (.int .i64 nsh)).cell? ⟨gb, sN * 4 + 1, none⟩ = some (.int .i64 bca) := ((World.cell?_setCell_other _ _ _ _ (by intro e; injection e with e1 e2; omega)).trans hh1)
              have he1 : (w7.drew.setCell ⟨gb, sN * 4, none⟩ (.int .i64 nsh)).frozen? ⟨gb, sN * 4 + 1, none⟩ = false := by rw [World.frozen?_setCell]; exact hf1
              have hd2 : ((w7.drew.setCell ⟨gb, sN * 4, none⟩ (.int .i64 nsh)).setCell ⟨gb, sN * 4 + 1, none⟩ (.int .i64 nca)).cell? ⟨gb, sN * 4 + 2, none⟩ = some (.slice XA nr2 xc) := ((World.cell?_setCell_other _ _ _ _ (by intro e; injection e with e1 e2; omega)).trans ((World.cell?_setCell_other _ _ _ _ (by intro e; injection e with e1 e2; omega)).trans hh2))
              have he2 : ((w7.drew.setCell ⟨gb, sN * 4, none⟩ (.int .i64 nsh)).setCell ⟨gb, sN * 4 + 1, none⟩ (.int .i64 nca)).frozen? ⟨gb, sN * 4 + 2, none⟩ = false := by rw [World.frozen?_setCell, World.frozen?_setCell]; exact hf2
              have hd3 : (((w7.drew.setCell ⟨gb, sN * 4, none⟩ (.int .i64 nsh)).setCell ⟨gb, sN * 4 + 1, none⟩ (.int .i64 nca)).setCell ⟨gb, sN * 4 + 2, none⟩ (.slice A7 nr7 c7)).cell? ⟨gb, sN * 4 + 3, none⟩ = some (.slice XC no2 xd) := ((World.cell?_setCell_other _ _ _ _ (by intro e; injection e with e1 e2; omega)).trans ((World.cell?_setCell_other _ _ _ _ (by intro e; injection e with e1 e2; omega)).trans ((World.cell?_setCell_other _ _ _ _ (by intro e; injection e with e1 e2; omega)).trans hh3)))
              have he3 : (((w7.drew.setCell ⟨gb, sN * 4, none⟩ (.int .i64 nsh)).setCell ⟨gb, sN * 4 + 1, none⟩ (.int .i64 nca)).setCell ⟨gb, sN * 4 + 2, none⟩ (.slice A7 nr7 c7)).frozen? ⟨gb, sN * 4 + 3, none⟩ = false := by rw [World.frozen?_setCell, World.frozen?_setCell, World.frozen?_setCell]; exact hf3
              have HT : Hid (w7.drew.cell? ⟨g, 7, none⟩ = some (.slice (some ⟨gb, 0, none⟩) nb cb) ∧ w7.drew.cell? ⟨gV, 0, none⟩ = some (.int .i64 nsh) ∧ w7.drew.cell? ⟨gV, 1, none⟩ = some (.int .i64 nca) ∧ w7.drew.cell? ⟨gV, 2, none⟩ = some (.slice A7 nr7 c7) ∧ w7.drew.cell? ⟨gV, 3, none⟩ = some (.slice C7 no7 d7) ∧ w7.drew.cell? ⟨gS, 0, none⟩ = some (.slice A5 n1 d5) ∧ w7.drew.cell? ⟨gS, 1, none⟩ = some (.slice A6 nU d6)) := ⟨M7.out.blk.cell 7, V7d.out.cell 0, V7d.out.cell 1, V7d.out.cell 2, V7d.out.cell 3, S7.out.cell 0, S7.out.cell 1⟩
              have M9 : Hid (Mm base ((((w7.drew.setCell ⟨gb, sN * 4, none⟩ (.int .i64 nsh)).setCell ⟨gb, sN * 4 + 1, none⟩ (.int .i64 nca)).setCell ⟨gb, sN * 4 + 2, none⟩ (.slice A7 nr7 c7)).setCell ⟨gb, sN * 4 + 3, none⟩ (.slice C7 no7 d7)) g ⟨sh, (wn : Int), ra, ta, A, some ⟨b5, o5, none⟩, C, nl, al, sl, c, d, f, nd, ac, sy, some ⟨gb, 0, none⟩, nb, cb, xs.set sN ⟨A7, C7, c7, d7, rl7, NB⟩, An, Au, n1, n2, d1, d2, cl, cu, ep, false⟩) := by
                have h9 := Mm_book M7.out rfl (i := sN) hsx.out (x := ⟨A7, C7, c7, d7, rl7, NB⟩) (show Bm w7.drew A7 C7 rl7 NB from ⟨N7.out.r, N7.out.e, N7.out.n, N7.out.o⟩) (FarX_new (base := w6.heap.size) (by have := LT0.out.1; have := h06.out; omega) (fun b hb => by have := LT0.out.2 b hb; have := h06.out; omega) F7.out)
                simp only [← HN7.out.1, ← HN7.out.2.1, ← HN7.out.2.2.1, ← HN7.out.2.2.2] at h9
                exact h9
              have S9 : Hid (Blk ((((w7.drew.setCell ⟨gb, sN * 4, none⟩ (.int .i64 nsh)).setCell ⟨gb, sN * 4 + 1, none⟩ (.int .i64 nca)).setCell ⟨gb, sN * 4 + 2, none⟩ (.slice A7 nr7 c7)).setCell ⟨gb, sN * 4 + 3, none⟩ (.slice C7 no7 d7)) gS 62 #[.slice A5 n1 d5, .slice A6 nU d6]) := (far_st (far_st (far_st (far_st S7.out hSb.out _) hSb.out _) hSb.out _) hSb.out _)
              have V9b : Hid (Blk ((((w7.drew.setCell ⟨gb, sN * 4, none⟩ (.int .i64 nsh)).setCell ⟨gb, sN * 4 + 1, none⟩ (.int .i64 nca)).setCell ⟨gb, sN * 4 + 2, none⟩ (.slice A7 nr7 c7)).setCell ⟨gb, sN * 4 + 3, none⟩ (.slice C7 no7 d7)) gV 58 #[.int .i64 nsh, .int .i64 nca, .slice A7 nr7 c7, .slice C7 no7 d7]) := (far_st (far_st (far_st (far_st V7d.out hVb.out _) hVb.out _) hVb.out _) hVb.out _)
              have fA5 : Hid (Far g (some ⟨gb, 0, none⟩) A5 (nds cl)) := Far_new (base := w3.heap.size) (by have := LT0.out.1; have := h03.out; omega) (fun b hb => by have := LT0.out.2 b hb; have := h03.out; omega) F5.out
              have fA6 : Hid (Far g (some ⟨gb, 0, none⟩) A6 (ints UU)) := Far_new (base := w3.heap.size) (by have := LT0.out.1; have := h03.out; omega) (fun b hb => by have := LT0.out.2 b hb; have := h03.out; omega) F6.out
              have N9 : Hid (Nds ((((w7.drew.setCell ⟨gb, sN * 4, none⟩ (.int .i64 nsh)).setCell ⟨gb, sN * 4 + 1, none⟩ (.int .i64 nca)).setCell ⟨gb, sN * 4 + 2, none⟩ (.slice A7 nr7 c7)).setCell ⟨gb, sN * 4 + 3, none⟩ (.slice C7 no7 d7)) ((((w7.drew.setCell ⟨gb, sN * 4, none⟩ (.int .i64 nsh)).setCell ⟨gb, sN * 4 + 1, none⟩ (.int .i64 nca)).setCell ⟨gb, sN * 4 + 2, none⟩ (.slice A7 nr7 c7)).setCell ⟨gb, sN * 4 + 3, none⟩ (.slice C7 no7 d7)).heap.size A5 cl) := Rd_setb (Rd_setb (Rd_setb (Rd_setb N5d.out fA5.out _ _) fA5.out _ _) fA5.out _ _) fA5.out _ _
              have R9 : Hid (Ris ((((w7.drew.setCell ⟨gb, sN * 4, none⟩ (.int .i64 nsh)).setCell ⟨gb, sN * 4 + 1, none⟩ (.int .i64 nca)).setCell ⟨gb, sN * 4 + 2, none⟩ (.slice A7 nr7 c7)).setCell ⟨gb, sN * 4 + 3, none⟩ (.slice C7 no7 d7)) ((((w7.drew.setCell ⟨gb, sN * 4, none⟩ (.int .i64 nsh)).setCell ⟨gb, sN * 4 + 1, none⟩ (.int .i64 nca)).setCell ⟨gb, sN * 4 + 2, none⟩ (.slice A7 nr7 c7)).setCell ⟨gb, sN * 4 + 3, none⟩ (.slice C7 no7 d7)).heap.size A6 UU) := Rd_setb (Rd_setb (Rd_setb (Rd_setb R6d.out fA6.out _ _) fA6.out _ _) fA6.out _ _) fA6.out _ _
              have hZb : Hid (gZ ≠ gb) := fun e => blk_own_ne Z1.out M0.out.row (by decide) (by rw [e]; rfl)
              have Z9 : Hid (Blk ((((w7.drew.setCell ⟨gb, sN * 4, none⟩ (.int .i64 nsh)).setCell ⟨gb, sN * 4 + 1, none⟩ (.int .i64 nca)).setCell ⟨gb, sN * 4 + 2, none⟩ (.slice A7 nr7 c7)).setCell ⟨gb, sN * 4 + 3, none⟩ (.slice C7 no7 d7)) gZ 43 #[.int .i64 0, .int .i64 0]) := (far_st (far_st (far_st (far_st (show Blk w7.drew gZ 43 #[.int .i64 0, .int .i64 0] from Blk.below' Z1.out HB7.out) hZb.out _) hZb.out _) hZb.out _) hZb.out _)
              have KP9 : Hid (Kp w ((((w7.drew.setCell ⟨gb, sN * 4, none⟩ (.int .i64 nsh)).setCell ⟨gb, sN * 4 + 1, none⟩ (.int .i64 nca)).setCell ⟨gb, sN * 4 + 2, none⟩ (.slice A7 nr7 c7)).setCell ⟨gb, sN * 4 + 3, none⟩ (.slice C7 no7 d7)) g (some ⟨gb, 0, none⟩)) := Kp_setb (Kp_setb (Kp_setb (Kp_setb (Kp_of_below (CrdB.below_step U0.out HB7.out)) _ _) _ _) _ _) _ _
              have HT2 : Hid (((((w7.drew.setCell ⟨gb, sN * 4, none⟩ (.int .i64 nsh)).setCell ⟨gb, sN * 4 + 1, none⟩ (.int .i64 nca)).setCell ⟨gb, sN * 4 + 2, none⟩ (.slice A7 nr7 c7)).setCell ⟨gb, sN * 4 + 3, none⟩ (.slice C7 no7 d7)).cell? ⟨g, 7, none⟩ = some (.slice (some ⟨gb, 0, none⟩) nb cb) ∧ ((((w7.drew.setCell ⟨gb, sN * 4, none⟩ (.int .i64 nsh)).setCell ⟨gb, sN * 4 + 1, none⟩ (.int .i64 nca)).setCell ⟨gb, sN * 4 + 2, none⟩ (.slice A7 nr7 c7)).setCell ⟨gb, sN * 4 + 3, none⟩ (.slice C7 no7 d7)).cell? ⟨gV, 0, none⟩ = some (.int .i64 nsh) ∧ ((((w7.drew.setCell ⟨gb, sN * 4, none⟩ (.int .i64 nsh)).setCell ⟨gb, sN * 4 + 1, none⟩ (.int .i64 nca)).setCell ⟨gb, sN * 4 + 2, none⟩ (.slice A7 nr7 c7)).setCell ⟨gb, sN * 4 + 3, none⟩ (.slice C7 no7 d7)).cell? ⟨gV, 1, none⟩ = some (.int .i64 nca) ∧ ((((w7.drew.setCell ⟨gb, sN * 4, none⟩ (.int .i64 nsh)).setCell ⟨gb, sN * 4 + 1, none⟩ (.int .i64 nca)).setCell ⟨gb, sN * 4 + 2, none⟩ (.slice A7 nr7 c7)).setCell ⟨gb, sN * 4 + 3, none⟩ (.slice C7 no7 d7)).cell? ⟨gV, 2, none⟩ = some (.slice A7 nr7 c7) ∧ ((((w7.drew.setCell ⟨gb, sN * 4, none⟩ (.int .i64 nsh)).setCell ⟨gb, sN * 4 + 1, none⟩ (.int .i64 nca)).setCell ⟨gb, sN * 4 + 2, none⟩ (.slice A7 nr7 c7)).setCell ⟨gb, sN * 4 + 3, none⟩ (.slice C7 no7 d7)).cell? ⟨gV, 3, none⟩ = some (.slice C7 no7 d7) ∧ ((((w7.drew.setCell ⟨gb, sN * 4, none⟩ (.int .i64 nsh)).setCell ⟨gb, sN * 4 + 1, none⟩ (.int .i64 nca)).setCell ⟨gb, sN * 4 + 2, none⟩ (.slice A7 nr7 c7)).setCell ⟨gb, sN * 4 + 3, none⟩ (.slice C7 no7 d7)).cell? ⟨gS, 0, none⟩ = some (.slice A5 n1 d5) ∧ ((((w7.drew.setCell ⟨gb, sN * 4, none⟩ (.int .i64 nsh)).setCell ⟨gb, sN * 4 + 1, none⟩ (.int .i64 nca)).setCell ⟨gb, sN * 4 + 2, none⟩ (.slice A7 nr7 c7)).setCell ⟨gb, sN * 4 + 3, none⟩ (.slice C7 no7 d7)).cell? ⟨gS, 1, none⟩ = some (.slice A6 nU d6)) := ⟨M9.out.blk.cell 7, V9b.out.cell 0, V9b.out.cell 1, V9b.out.cell 2, V9b.out.cell 3, S9.out.cell 0, S9.out.cell 1⟩
              go_upto_region 14 with fail
              refine wp_region_noPanic ?_
              refine wp_region_L (T := (fun w' => w'.cell? ⟨g, 7, none⟩ = some (.slice (some ⟨gb, 0, none⟩) nb cb) ∧ w'.cell? ⟨gV, 0, none⟩ = some (.int .i64 nsh) ∧ w'.cell? ⟨gV, 1, none⟩ = some (.int .i64 nca) ∧ w'.cell? ⟨gV, 2, none⟩ = some (.slice A7 nr7 c7) ∧ w'.cell? ⟨gV, 3, none⟩ = some (.slice C7 no7 d7) ∧ w'.cell? ⟨gS, 0, none⟩ = some (.slice A5 n1 d5) ∧ w'.cell? ⟨gS, 1, none⟩ = some (.slice A6 nU d6))) (st := [12]) (by kernel_rfl) ?_
              generalize w7.drew = w8 at HB7 M7 S7 V7d N5d R6d hh0 hh1 hh2 hh3 hf0 hf1 hf2 hf3 hd1 hd2 hd3 he1 he2 he3 HT HT2 M9 S9 V9b N9 R9 Z9 KP9 ⊢
              refine wpL_word (i := 0) (v := ?_) rfl (by kernel_rfl) (fun _ _ _ h => h) (by kernel_rfl) _ _ _ _ (by kernel_rfl) (by kernel_rfl) (Or.inl ⟨by rfl, ?_⟩) (fun _ => HT.out) ?_
              rotate_left
              · intro w' _
                go_simp
                try with_reducible rfl
              (try simp only [Act.put, List.getElem_toArray, List.getElem_cons_succ, List.getElem_cons_zero, List.setIfInBounds_toArray, List.set_cons_zero, List.set_cons_succ])
              refine wpL_word (i := 1) (v := ?_) rfl (by kernel_rfl) (fun _ _ _ h => h) (by kernel_rfl) _ _ _ _ (by kernel_rfl) (by kernel_rfl) (Or.inl ⟨by rfl, ?_⟩) (fun _ => HT.out) ?_
              rotate_left
              · intro w' _
                go_simp
                try with_reducible rfl
              (try simp only [Act.put, List.getElem_toArray, List.getElem_cons_succ, List.getElem_cons_zero, List.setIfInBounds_toArray, List.set_cons_zero, List.set_cons_succ])
              refine wpL_word (i := 2) (v := ?_) rfl (by kernel_rfl) (fun _ _ _ h => h) (by kernel_rfl) _ _ _ _ (by kernel_rfl) (by kernel_rfl) (Or.inl ⟨by rfl, ?_⟩) (fun _ => HT.out) ?_
              rotate_left
              · intro w' _
                go_simp
                try with_reducible rfl
              (try simp only [Act.put, List.getElem_toArray, List.getElem_cons_succ, List.getElem_cons_zero, List.setIfInBounds_toArray, List.set_cons_zero, List.set_cons_succ])
              refine wpL_load (i := 3) (v := ?_) rfl (by kernel_rfl) (fun _ _ _ h => h) (by kernel_rfl) (by kernel_rfl) _ _ _ _ (by kernel_rfl) (by kernel_rfl) (Or.inl ⟨by rfl, ?_⟩) (by kernel_rfl) HT.out ?_
              rotate_left
              · intro w' hS
                (try dsimp only at hS)
                obtain ⟨x1, x2, x3, x4, x5, x6, x7⟩ := hS
                go_simp
                try with_reducible rfl
              (try simp only [Act.put, List.getElem_toArray, List.getElem_cons_succ, List.getElem_cons_zero, List.setIfInBounds_toArray, List.set_cons_zero, List.set_cons_succ])
              refine wpL_word (i := 4) (v := ?_) rfl (by kernel_rfl) (fun _ _ _ h => h) (by kernel_rfl) _ _ _ _ (by kernel_rfl) (by kernel_rfl) (Or.inl ⟨by rfl, ?_⟩) (fun _ => HT.out) ?_
              rotate_left
              · intro w' _
                go_simp
                try with_reducible rfl
              (try simp only [Act.put, List.getElem_toArray, List.getElem_cons_succ, List.getElem_cons_zero, List.setIfInBounds_toArray, List.set_cons_zero, List.set_cons_succ])
              refine wpL_word (i := 5) (v := ?_) rfl (by kernel_rfl) (fun _ _ _ h => h) (by kernel_rfl) _ _ _ _ (by kernel_rfl) (by kernel_rfl) (Or.inl ⟨by rfl, ?_⟩) (fun _ => HT.out) ?_
              rotate_left
              · intro w' _
                go_simp
                try with_reducible rfl
              (try simp only [Act.put, List.getElem_toArray, List.getElem_cons_succ, List.getElem_cons_zero, List.setIfInBounds_toArray, List.set_cons_zero, List.set_cons_succ])
              refine wpL_load (i := 6) (v := ?_) rfl (by kernel_rfl) (fun _ _ _ h => h) (by kernel_rfl) (by kernel_rfl) _ _ _ _ (by kernel_rfl) (by kernel_rfl) (Or.inl ⟨by rfl, ?_⟩) (by kernel_rfl) HT.out ?_
              rotate_left
              · intro w' hS
                (try dsimp only at hS)
                obtain ⟨x1, x2, x3, x4, x5, x6, x7⟩ := hS
                go_simp
                try with_reducible rfl
              (try simp only [Act.put, List.getElem_toArray, List.getElem_cons_succ, List.getElem_cons_zero, List.setIfInBounds_toArray, List.set_cons_zero, List.set_cons_succ])
              refine wpL_load (i := 7) (v := ?_) rfl (by kernel_rfl) (fun _ _ _ h => h) (by kernel_rfl) (by kernel_rfl) _ _ _ _ (by kernel_rfl) (by kernel_rfl) (Or.inl ⟨by rfl, ?_⟩) (by kernel_rfl) HT.out ?_
              rotate_left
              · intro w' hS
                (try dsimp only at hS)
                obtain ⟨x1, x2, x3, x4, x5, x6, x7⟩ := hS
                go_simp
                try with_reducible rfl
              (try simp only [Act.put, List.getElem_toArray, List.getElem_cons_succ, List.getElem_cons_zero, List.setIfInBounds_toArray, List.set_cons_zero, List.set_cons_succ])
              refine wpL_word (i := 8) (v := ?_) rfl (by kernel_rfl) (fun _ _ _ h => h) (by kernel_rfl) _ _ _ _ (by kernel_rfl) (by kernel_rfl) (Or.inl ⟨by rfl, ?_⟩) (fun _ => HT.out) ?_
              rotate_left
              · intro w' _
                go_simp
                try with_reducible rfl
              (try simp only [Act.put, List.getElem_toArray, List.getElem_cons_succ, List.getElem_cons_zero, List.setIfInBounds_toArray, List.set_cons_zero, List.set_cons_succ])
              refine wpL_next (n := 9) (by kernel_rfl) rfl (fun K' hK => ?_)
              go_simp
              refine hK.out _ _ HT2.out ?_
              clear hK K'
              (try simp only [Act.put, List.getElem_toArray, List.getElem_cons_succ, List.getElem_cons_zero, List.setIfInBounds_toArray, List.set_cons_zero, List.set_cons_succ])
              clear hh0 hh1 hh2 hh3 hf0 hf1 hf2 hf3 hd1 hd2 hd3 he1 he2 he3
              generalize ((((w8.setCell ⟨gb, sN * 4, none⟩ (.int .i64 nsh)).setCell ⟨gb, sN * 4 + 1, none⟩ (.int .i64 nca)).setCell ⟨gb, sN * 4 + 2, none⟩ (.slice A7 nr7 c7)).setCell ⟨gb, sN * 4 + 3, none⟩ (.slice C7 no7 d7)) = w9 at M9 S9 V9b N9 R9 Z9 KP9 HT2 ⊢
              have K9 : Hid (Blk w9 g 82 #[.int .i64 sh, .int .i64 (wn : Int), .int .i64 ra, .int .i64 ta, .slice A nl c, .slice (some ⟨b5, o5, none⟩) al d, .slice C sl f, .slice (some ⟨gb, 0, none⟩) nb cb, .slice An n1 d1, .slice Au n2 d2, .int .i64 ep, .bool false]) := M9.out.blk
              obtain ⟨k0, k1, k2, k3, k4, k5, k6, k7, k8, k9, k10, k11, f0, f1, f2, f3, f4, f5, f6, f7, f8, f9, f10, f11⟩ := q12_of K9.out
              have x9 : (w9.setCell ⟨g, 8, none⟩ (.slice A5 n1 d5)).cell? ⟨g, 9, none⟩ = some (.slice Au n2 d2) := (blk_st K9.out 8 (.slice A5 n1 d5)).cell 9
              have y9 : (w9.setCell ⟨g, 8, none⟩ (.slice A5 n1 d5)).frozen? ⟨g, 9, none⟩ = false := (blk_st K9.out 8 (.slice A5 n1 d5)).thaw 9
              refine wpL_word (i := 10) (v := ?_) rfl (by kernel_rfl) (fun _ _ _ h => h) (by kernel_rfl) _ _ _ _ (by kernel_rfl) (by kernel_rfl) (Or.inl ⟨by rfl, ?_⟩) (fun _ => HT2.out) ?_
              rotate_left
              · intro w' _
                go_simp
                try with_reducible rfl
              (try simp only [Act.put, List.getElem_toArray, List.getElem_cons_succ, List.getElem_cons_zero, List.setIfInBounds_toArray, List.set_cons_zero, List.set_cons_succ])
              refine wpL_word (i := 11) (v := ?_) rfl (by kernel_rfl) (fun _ _ _ h => h) (by kernel_rfl) _ _ _ _ (by kernel_rfl) (by kernel_rfl) (Or.inl ⟨by rfl, ?_⟩) (fun _ => HT2.out) ?_
              rotate_left
              · intro w' _
                go_simp
                try with_reducible rfl
              (try simp only [Act.put, List.getElem_toArray, List.getElem_cons_succ, List.getElem_cons_zero, List.setIfInBounds_toArray, List.set_cons_zero, List.set_cons_succ])
              refine wpL_late (n := 12) (by kernel_rfl) rfl (by kernel_rfl) (fun K' hK => ?_)
              go_simp
              refine hK.out _ _ ?_
              clear hK K'
              (try simp only [Act.put, List.getElem_toArray, List.getElem_cons_succ, List.getElem_cons_zero, List.setIfInBounds_toArray, List.set_cons_zero, List.set_cons_succ])
              refine wpL_done (by kernel_rfl) ?_ _
              refine NoPanic.normal ?_
              clear k0 k1 k2 k3 k4 k5 k6 k7 k8 k9 k10 k11 f0 f1 f2 f3 f4 f5 f6 f7 f8 f9 f10 f11 x9 y9 HT HT2
              have M10 : Hid (Mm base ((w9.setCell ⟨g, 8, none⟩ (.slice A5 n1 d5)).setCell ⟨g, 9, none⟩ (.slice A6 nU d6)) g ⟨sh, (wn : Int), ra, ta, A, some ⟨b5, o5, none⟩, C, nl, al, sl, c, d, f, nd, ac, sy, some ⟨gb, 0, none⟩, nb, cb, xs.set sN ⟨A7, C7, c7, d7, rl7, NB⟩, A5, A6, n1, nU, d5, d6, cl, UU, ep, false⟩) := Mm_cr M9.out N9.out R9.out fA5.out fA6.out L5.out HNU.out
              have Z10 : Hid (Blk ((w9.setCell ⟨g, 8, none⟩ (.slice A5 n1 d5)).setCell ⟨g, 9, none⟩ (.slice A6 nU d6)) gZ 43 #[.int .i64 0, .int .i64 0]) := far_st (far_st Z9.out MZ.out.ne _) MZ.out.ne _
              have KP10 : Hid (Kp w ((w9.setCell ⟨g, 8, none⟩ (.slice A5 n1 d5)).setCell ⟨g, 9, none⟩ (.slice A6 nU d6)) g (some ⟨gb, 0, none⟩)) := Kp_setg (Kp_setg KP9.out _ _) _ _
              have hZ3 : gZ < w3.heap.size := by have := Z1.out.lt; have := h03.out; omega
              have MZ10 : Hid (Mz gZ g ⟨sh, (wn : Int), ra, ta, A, some ⟨b5, o5, none⟩, C, nl, al, sl, c, d, f, nd, ac, sy, some ⟨gb, 0, none⟩, nb, cb, xs.set sN ⟨A7, C7, c7, d7, rl7, NB⟩, A5, A6, n1, nU, d5, d6, cl, UU, ep, false⟩) := by
                have h8 := Mz_book MZ.out (i := sN) hsx.out (x := ⟨A7, C7, c7, d7, rl7, NB⟩) (FzB_new (base := w6.heap.size) (by have := Z1.out.lt; have := h06.out; omega) F7.out)
                exact ⟨h8.ne, h8.z1, h8.z2, h8.z3, FarE_new hZ3 F5.out, FarE_new hZ3 F6.out, h8.zx⟩
              have HMZ : Hid (∀ z, z < w.heap.size → Mz z g ⟨sh, (wn : Int), ra, ta, A, some ⟨b5, o5, none⟩, C, nl, al, sl, c, d, f, nd, ac, sy, some ⟨gb, 0, none⟩, nb, cb, xs, An, Au, n1, n2, d1, d2, cl, cu, ep, false⟩ → Mz z g ⟨sh, (wn : Int), ra, ta, A, some ⟨b5, o5, none⟩, C, nl, al, sl, c, d, f, nd, ac, sy, some ⟨gb, 0, none⟩, nb, cb, xs.set sN ⟨A7, C7, c7, d7, rl7, NB⟩, A5, A6, n1, nU, d5, d6, cl, UU, ep, false⟩) := by
                intro z hz hmz
                have hw0 := U0.out.size
                have hz3 : z < w3.heap.size := by have := h03.out; omega
                have h8 := Mz_book hmz (i := sN) hsx.out (x := ⟨A7, C7, c7, d7, rl7, NB⟩) (FzB_new (base := w6.heap.size) (by have := h06.out; omega) F7.out)
                exact ⟨h8.ne, h8.z1, h8.z2, h8.z3, FarE_new hz3 F5.out, FarE_new hz3 F6.out, h8.zx⟩
              go_upto_region 15 with fail
              clear M9 S9 V9b N9 R9 Z9 KP9 K9
              generalize ((w9.setCell ⟨g, 8, none⟩ (.slice A5 n1 d5)).setCell ⟨g, 9, none⟩ (.slice A6 nU d6)) = w10 at M10 Z10 KP10 ⊢
              have U11 : Hid (Below w10.heap.size w10 (w10.alloc (.cells #[.int .i64 0, .int .i64 idv] 76))) := (Below.refl _ _).alloc (Nat.le_refl _) _
              have Z11 : Hid (Blk (w10.alloc (.cells #[.int .i64 0, .int .i64 idv] 76)) gZ 43 #[.int .i64 0, .int .i64 0]) := Blk.below' Z10.out U11.out
              have M11 : Hid (Mm base (w10.alloc (.cells #[.int .i64 0, .int .i64 idv] 76)) g ⟨sh, (wn : Int), ra, ta, A, some ⟨b5, o5, none⟩, C, nl, al, sl, c, d, f, nd, ac, sy, some ⟨gb, 0, none⟩, nb, cb, xs.set sN ⟨A7, C7, c7, d7, rl7, NB⟩, A5, A6, n1, nU, d5, d6, cl, UU, ep, false⟩) := Mm_below M10.out U11.out
              have hO : Hid (Nds (w10.alloc (.cells #[.int .i64 0, .int .i64 idv] 76)) (w10.alloc (.cells #[.int .i64 0, .int .i64 idv] 76)).heap.size (some ⟨w10.heap.size, 0, none⟩) [(0, idv)]) := rd_new rfl
              have KP11 : Hid (Kp w (w10.alloc (.cells #[.int .i64 0, .int .i64 idv] 76)) g (some ⟨gb, 0, none⟩)) := Kp_step KP10.out U11.out
              have hZO : Hid (w10.heap.size ≠ gZ) := by show _ ≠ _; have := Z10.out.lt; omega
              have F3 : Blk (st2 (w10.alloc (.cells #[.int .i64 0, .int .i64 idv] 76)) gZ (.int .i64 0) (.int .i64 idv)) gZ 43 #[.int .i64 0, .int .i64 idv] := st2_blk Z11.out
              have HEQ : ordF (plO ⟨sh, (wn : Int), ra, ta, A, some ⟨b5, o5, none⟩, C, nl, al, sl, c, d, f, nd, ac, sy, some ⟨gb, 0, none⟩, nb, cb, xs, An, Au, n1, n2, d1, d2, cl, cu, ep, false⟩) ⟨(aN : Int), os, ox, op, oq, on, ot⟩ = (plO ⟨sh, (wn : Int), ra, ta, A, some ⟨b5, o5, none⟩, C, nl, al, sl, c, d, f, nd, ac, sy, some ⟨gb, 0, none⟩, nb, cb, xs.set sN ⟨A7, C7, c7, d7, rl7, NB⟩, A5, A6, n1, nU, d5, d6, cl, UU, ep, false⟩, (0, idv, [(0, idv)])) := by
                have e1 : gB ((plO ⟨sh, (wn : Int), ra, ta, A, some ⟨b5, o5, none⟩, C, nl, al, sl, c, d, f, nd, ac, sy, some ⟨gb, 0, none⟩, nb, cb, xs, An, Au, n1, n2, d1, d2, cl, cu, ep, false⟩)).bs (shaP (plO ⟨sh, (wn : Int), ra, ta, A, some ⟨b5, o5, none⟩, C, nl, al, sl, c, d, f, nd, ac, sy, some ⟨gb, 0, none⟩, nb, cb, xs, An, Au, n1, n2, d1, d2, cl, cu, ep, false⟩) ⟨(aN : Int), os, ox, op, oq, on, ot⟩) = xb := by rw [HSH.out]; exact HGB.out
                have e2 : (worF (plO ⟨sh, (wn : Int), ra, ta, A, some ⟨b5, o5, none⟩, C, nl, al, sl, c, d, f, nd, ac, sy, some ⟨gb, 0, none⟩, nb, cb, xs, An, Au, n1, n2, d1, d2, cl, cu, ep, false⟩) ⟨(aN : Int), os, ox, op, oq, on, ot⟩).2 = ww := by rw [HWW.out]
                have e3 : (xs.set sN ⟨A7, C7, c7, d7, rl7, NB⟩).map Bx.b = (xs.map Bx.b).set sN NB := by rw [List.map_set]
                rw [HNO0.out, e1, e2, HSH.out]
                unfold plO
                simp only [e3, Int.toNat_natCast, ← HNB.out, ← HID.out, ← HUU0.out]
              have hfin : MadeDo base g ⟨sh, (wn : Int), ra, ta, A, some ⟨b5, o5, none⟩, C, nl, al, sl, c, d, f, nd, ac, sy, some ⟨gb, 0, none⟩, nb, cb, xs, An, Au, n1, n2, d1, d2, cl, cu, ep, false⟩ (plO ⟨sh, (wn : Int), ra, ta, A, some ⟨b5, o5, none⟩, C, nl, al, sl, c, d, f, nd, ac, sy, some ⟨gb, 0, none⟩, nb, cb, xs.set sN ⟨A7, C7, c7, d7, rl7, NB⟩, A5, A6, n1, nU, d5, d6, cl, UU, ep, false⟩) 0 idv [(0, idv)] w (.returned (.tuple #[.agg #[.int .i64 0, .int .i64 idv], .slice (some ⟨w10.heap.size, 0, none⟩) 1 1])) (st2 (w10.alloc (.cells #[.int .i64 0, .int .i64 idv] 76)) gZ (.int .i64 0) (.int .i64 idv)) := by
                unfold st2
                refine ⟨⟨sh, (wn : Int), ra, ta, A, some ⟨b5, o5, none⟩, C, nl, al, sl, c, d, f, nd, ac, sy, some ⟨gb, 0, none⟩, nb, cb, xs.set sN ⟨A7, C7, c7, d7, rl7, NB⟩, A5, A6, n1, nU, d5, d6, cl, UU, ep, false⟩, some ⟨w10.heap.size, 0, none⟩, 1, 1, rfl, rfl, ?_, ?_, Mm_setz (Mm_setz M11.out MZ10.out Z11.out (by decide) 0 _) MZ10.out (blk_st Z11.out 0 _) (by decide) 1 _, rfl, rfl, Kp_past (Kp_past KP11.out HGZ.out 0 _) HGZ.out 1 _, HMZ.out⟩
                · exact Rd.keep' (Rd.keep' hO.out (Nat.lt_succ_self _) (fun a ha => by have e := Option.some.inj ha; rw [← e]; exact hZO.out) _) (Nat.lt_succ_self _) (fun a ha => by have e := Option.some.inj ha; rw [← e]; exact hZO.out) _
                · intro a ha
                  have e := Option.some.inj ha
                  rw [← e]
                  exact KP10.out.size
              have HF := Lib.hid hfin
              have HEQ := Lib.hid HEQ
              clear hfin
              obtain ⟨z0, z1, z2, z3⟩ := q2b Z10.out
              have zx : (w10.setCell ⟨gZ, 0, none⟩ (.int .i64 0)).cell? ⟨gZ, 1, none⟩ = some (.int .i64 0) := (blk_st Z10.out 0 (.int .i64 0)).cell 1
              obtain ⟨s0, s1, s2, s3⟩ := q2b Z11.out
              go_wp2_with fail
              obtain ⟨e0, e1, _, _⟩ := q2b F3
              clear F3
              unfold st2 at e0 e1 HF
              exact bodyPost_ret (v := .tuple #[.agg #[.int .i64 0, .int .i64 idv], .slice (some ⟨w10.heap.size, 0, none⟩) 1 1]) (by simp [results, Try.results26, go_sem, e0, e1]) rfl (by first | exact HF.out | (rw [HEQ.out]; exact HF.out))
end Go.Proofs.Ytkmkaidhpbjbnaa.Mdo
