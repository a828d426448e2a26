/- Texts side by side: each has its own first line. -/
import Derived.Deep.DeepCutAuto
import Derived.Deep.RegionHeld3
import Derived.Test.YtkmkaidhpbjbnaaQa
import Derived.Test.YtkmkaidhpbjbnaaQb
import Derived.Test.YtkmkaidhpbjbnaaQc
/- What a Model does, as plain functions; the contracts of kill, rearm, refused. Condition: the Model lies in memory. -/
namespace Go.Proofs.Ytkmkaidhpbjbnaa.Mds
set_option maxRecDepth 100000
open Go.ChangeShapes Go.WideShapes Go.ChangeAt Go.RowKit Mem Tre Ref3 Law3 Fix3 Cfg Crd CrdB CrdC Rr4 Bkp Bks Bcl Dlk Stk Apt Bko Bku Bka Bkc Mdp Mdz
set_option linter.unusedVariables false
set_option linter.unusedSimpArgs false
/-- a Model, without where it lies -/
structure Pm where
  sh : Int
  wi : Int
  ra : Int
  ta : Int
  nd : List (Int × Int)
  ac : List Int
  sy : List (Int × Int × Int × Nat)
  bs : List Bk
  cl : List (Int × Int)
  cu : List Int
  ep : Int
  off : Bool
def plO (q : Mq) : Pm := ⟨q.sh, q.wi, q.ra, q.ta, q.nd, q.ac, q.sy, q.xs.map Bx.b, q.cl, q.cu, q.ep, q.off⟩
/-- what is answered, what goes out, what the Model is then -/
def MadeDo (base g : Nat) (q0 : Mq) (p : Pm) (code id : Int) (outs : List (Int × Int)) (w : World) (e : Ending) (w' : World) : Prop :=
  ∃ q Ao no co, e = .returned (.tuple #[.agg #[.int .i64 code, .int .i64 id], .slice Ao no co]) ∧ no = outs.length ∧ Nds w' w'.heap.size Ao outs ∧ (∀ a, Ao = some a → w.heap.size ≤ a.block) ∧ Mm base w' g q ∧ plO q = p ∧ q.Ab = q0.Ab ∧ Kp w w' g q0.Ab ∧ (∀ z, z < w.heap.size → Mz z g q0 → Mz z g q)
theorem Mz_same {z g : Nat} {sh wi ra ta : Int} {A B C : Option Addr} {nl al sl c d f : Nat} {nd : List (Int × Int)} {ac : List Int} {sy : List (Int × Int × Int × Nat)} {Ab : Option Addr} {nb cb : Nat} {xs : List Bx} {An Au : Option Addr} {n1 n2 d1 d2 : Nat} {cl : List (Int × Int)} {cu : List Int} {ep ep' : Int} {off off' : Bool} (h : Mz z g ⟨sh, wi, ra, ta, A, B, C, nl, al, sl, c, d, f, nd, ac, sy, Ab, nb, cb, xs, An, Au, n1, n2, d1, d2, cl, cu, ep, off⟩) : Mz z g ⟨sh, wi, ra, ta, A, B, C, nl, al, sl, c, d, f, nd, ac, sy, Ab, nb, cb, xs, An, Au, n1, n2, d1, d2, cl, cu, ep', off'⟩ := ⟨h.ne, h.z1, h.z2, h.z3, h.z4, h.z5, h.zx⟩
theorem madeDo_no {base g : Nat} {w w' : World} {q q0 : Mq} {p : Pm} {code id : Int} (h : Mm base w' g q) (hp : plO q = p) (hA : q.Ab = q0.Ab) (hk : Kp w w' g q0.Ab) (hz : ∀ z, z < w.heap.size → Mz z g q0 → Mz z g q) : MadeDo base g q0 p code id [] w (.returned (.tuple #[.agg #[.int .i64 code, .int .i64 id], .slice none 0 0])) w' :=
  ⟨q, none, 0, 0, rfl, rfl, .inl rfl, fun a ha => (by cases ha), h, hp, hA, hk, hz⟩
def Told (code : Int) (w : World) (e : Ending) (w' : World) : Prop := e = .returned (.tuple #[.agg #[.int .i64 code, .int .i64 0], .slice none 0 0]) ∧ Below w.heap.size w w'
theorem q2b {W : World} {g : Nat} {te : TypeId} {v0 v1 : Value} (h : Blk W g te #[v0, v1]) : W.cell? ⟨g, 0, none⟩ = some v0 ∧ W.cell? ⟨g, 1, none⟩ = some v1 ∧ W.frozen? ⟨g, 0, none⟩ = false ∧ W.frozen? ⟨g, 1, none⟩ = false := ⟨h.cell 0, h.cell 1, h.thaw 0, h.thaw 1⟩
theorem refused_any (code : Int) (w : World) : Calls Try.prog 23 #[.int .i64 code] w (Told code w) := by
  have b0 : Hid (Below w.heap.size w (w.alloc (.cells #[.int .i64 code, .int .i64 0] 43))) := (Below.refl _ _).alloc (Nat.le_refl _) _
  have K0 : Blk (w.alloc (.cells #[.int .i64 code, .int .i64 0] 43)) w.heap.size 43 #[.int .i64 code, .int .i64 0] := Blk.fresh _ _ _
  go_enter Try.func23, Try.ntmps23
  go_wp2_with fail
  obtain ⟨d0, d1, _, _⟩ := q2b K0
  exact bodyPost_ret (v := .tuple #[.agg #[.int .i64 code, .int .i64 0], .slice none 0 0]) (by simp [results, Try.results23, go_sem, d0, d1]) rfl ⟨rfl, b0.out⟩
set_option maxHeartbeats 4000000 in
theorem kill_any (base g : Nat) (q : Mq) (w : World) (h : Hid (Mm base w g q)) :
    Calls Try.prog 30 #[.pointer (some ⟨g, 0, none⟩)] w (MadeDo base g q { plO q with off := true } 0 q.ep [] w) := by
  obtain ⟨sh, wi, ra, ta, A, B, C, nl, al, sl, c, d, f, nd, ac, sy, Ab, nb, cb, xs, An, Au, n1, n2, d1, d2, cl, cu, ep, off⟩ := q
  have U0 : Hid (Below w.heap.size w (w.alloc (.cells #[.int .i64 0, .int .i64 0] 43))) := (Below.refl _ _).alloc (Nat.le_refl _) _
  have Z0 : Hid (Blk (w.alloc (.cells #[.int .i64 0, .int .i64 0] 43)) w.heap.size 43 #[.int .i64 0, .int .i64 0]) := Blk.fresh _ _ _
  have M0 : Hid (Mm base (w.alloc (.cells #[.int .i64 0, .int .i64 0] 43)) g ⟨sh, wi, ra, ta, A, B, C, nl, al, sl, c, d, f, nd, ac, sy, Ab, nb, cb, xs, An, Au, n1, n2, d1, d2, cl, cu, ep, off⟩) := Mm_below h.out U0.out
  have hgz : Hid (g ≠ w.heap.size) := by show _ ≠ _; have := (Mm_lt h.out).1; omega
  have MZ : Hid (Mz w.heap.size g ⟨sh, wi, ra, ta, A, B, C, nl, al, sl, c, d, f, nd, ac, sy, Ab, nb, cb, xs, An, Au, n1, n2, d1, d2, cl, cu, ep, off⟩) := Mz_of h.out (Nat.le_refl _)
  go_enter Try.func30, Try.ntmps30
  go_upto_region 1 with fail
  generalize hgZ : w.heap.size = gZ at Z0 hgz MZ ⊢
  have HGZ := Lib.hid hgZ
  clear hgZ
  generalize (w.alloc (.cells #[.int .i64 0, .int .i64 0] 43)) = w0 at Z0 U0 M0 ⊢
  have K0 : Hid (Blk w0 g 82 #[.int .i64 sh, .int .i64 wi, .int .i64 ra, .int .i64 ta, .slice A nl c, .slice B al d, .slice C sl f, .slice Ab nb cb, .slice An n1 d1, .slice Au n2 d2, .int .i64 ep, .bool off]) := M0.out.blk
  have M1 : Hid (Mm base (w0.setCell ⟨g, 11, none⟩ (.bool true)) g ⟨sh, wi, ra, ta, A, B, C, nl, al, sl, c, d, f, nd, ac, sy, Ab, nb, cb, xs, An, Au, n1, n2, d1, d2, cl, cu, ep, true⟩) := Mm_off M0.out true
  have Z1 : Hid (Blk (w0.setCell ⟨g, 11, none⟩ (.bool true)) gZ 43 #[.int .i64 0, .int .i64 0]) := far_st Z0.out (fun e => hgz.out e.symm) _
  have MZ1 : Hid (Mz gZ g ⟨sh, wi, ra, ta, A, B, C, nl, al, sl, c, d, f, nd, ac, sy, Ab, nb, cb, xs, An, Au, n1, n2, d1, d2, cl, cu, ep, true⟩) := ⟨MZ.out.ne, MZ.out.z1, MZ.out.z2, MZ.out.z3, MZ.out.z4, MZ.out.z5, MZ.out.zx⟩
  have U1 : Hid (Kp w (w0.setCell ⟨g, 11, none⟩ (.bool true)) g Ab) := Kp_setg (Kp_of_below U0.out) 11 _
  obtain ⟨k0, k1, k2, k3, k4, k5, k6, k7, k8, k9, k10, k11, f0, f1, f2, f3, f4, f5, f6, f7, f8, f9, f10, f11⟩ := q12_of K0.out
  go_upto_region 2 with fail
  clear k0 k1 k2 k3 k4 k5 k6 k7 k8 k9 k10 k11 f0 f1 f2 f3 f4 f5 f6 f7 f8 f9 f10 f11 K0 M0 U0 Z0
  generalize w0.setCell ⟨g, 11, none⟩ (.bool true) = w1 at M1 Z1 U1 ⊢
  have K1 : Hid (Blk w1 g 82 #[.int .i64 sh, .int .i64 wi, .int .i64 ra, .int .i64 ta, .slice A nl c, .slice B al d, .slice C sl f, .slice Ab nb cb, .slice An n1 d1, .slice Au n2 d2, .int .i64 ep, .bool true]) := M1.out.blk
  obtain ⟨k0, k1, k2, k3, k4, k5, k6, k7, k8, k9, k10, k11, f0, f1, f2, f3, f4, f5, f6, f7, f8, f9, f10, f11⟩ := q12_of K1.out
  obtain ⟨z0, z1, z2, z3⟩ := q2b Z1.out
  have x1 : (w1.setCell ⟨gZ, 0, none⟩ (.int .i64 0)).cell? ⟨gZ, 1, none⟩ = some (.int .i64 0) := (blk_st Z1.out 0 (.int .i64 0)).cell 1
  have F3 : Blk (st2 w1 gZ (.int .i64 0) (.int .i64 ep)) gZ 43 #[.int .i64 0, .int .i64 ep] := st2_blk Z1.out
  have hfin : MadeDo base g ⟨sh, wi, ra, ta, A, B, C, nl, al, sl, c, d, f, nd, ac, sy, Ab, nb, cb, xs, An, Au, n1, n2, d1, d2, cl, cu, ep, off⟩ { plO ⟨sh, wi, ra, ta, A, B, C, nl, al, sl, c, d, f, nd, ac, sy, Ab, nb, cb, xs, An, Au, n1, n2, d1, d2, cl, cu, ep, off⟩ with off := true } 0 ep [] w (.returned (.tuple #[.agg #[.int .i64 0, .int .i64 ep], .slice none 0 0])) (st2 w1 gZ (.int .i64 0) (.int .i64 ep)) := by
    unfold st2
    refine madeDo_no (q := ⟨sh, wi, ra, ta, A, B, C, nl, al, sl, c, d, f, nd, ac, sy, Ab, nb, cb, xs, An, Au, n1, n2, d1, d2, cl, cu, ep, true⟩) (Mm_setz (Mm_setz M1.out MZ1.out Z1.out (by decide) 0 _) MZ1.out (blk_st Z1.out 0 _) (by decide) 1 _) rfl rfl ?_ (fun z _ h => Mz_same h)
    exact Kp_past (Kp_past U1.out (by rw [HGZ.out]; exact Nat.le_refl _) 0 _) (by rw [HGZ.out]; exact Nat.le_refl _) 1 _
  have HF := Lib.hid hfin
  clear hfin
  go_wp2_with fail
  obtain ⟨e0, e1, _, _⟩ := q2b F3
  clear F3
  unfold st2 at e0 e1 HF
  exact bodyPost_ret (v := .tuple #[.agg #[.int .i64 0, .int .i64 ep], .slice none 0 0]) (by simp [results, Try.results30, go_sem, e0, e1]) rfl HF.out
def rearmF (p : Pm) : Pm × (Int × Int) := if p.off = true then ({ p with off := false, ep := p.ep + 1 }, (0, p.ep + 1)) else (p, (16, 0))
set_option maxHeartbeats 4000000 in
theorem rearm_any (base g : Nat) (q : Mq) (w : World) (h : Hid (Mm base w g q)) (hep : 0 ≤ q.ep ∧ q.ep ≤ 1000000000) :
    Calls Try.prog 31 #[.pointer (some ⟨g, 0, none⟩)] w (MadeDo base g q (rearmF (plO q)).1 (rearmF (plO q)).2.1 (rearmF (plO q)).2.2 [] w) := by
  obtain ⟨sh, wi, ra, ta, A, B, C, nl, al, sl, c, d, f, nd, ac, sy, Ab, nb, cb, xs, An, Au, n1, n2, d1, d2, cl, cu, ep, off⟩ := q
  have U0 : Hid (Below w.heap.size w (w.alloc (.cells #[.int .i64 0, .int .i64 0] 43))) := (Below.refl _ _).alloc (Nat.le_refl _) _
  have Z0 : Hid (Blk (w.alloc (.cells #[.int .i64 0, .int .i64 0] 43)) w.heap.size 43 #[.int .i64 0, .int .i64 0]) := Blk.fresh _ _ _
  have M0 : Hid (Mm base (w.alloc (.cells #[.int .i64 0, .int .i64 0] 43)) g ⟨sh, wi, ra, ta, A, B, C, nl, al, sl, c, d, f, nd, ac, sy, Ab, nb, cb, xs, An, Au, n1, n2, d1, d2, cl, cu, ep, off⟩) := Mm_below h.out U0.out
  have hgz : Hid (g ≠ w.heap.size) := by show _ ≠ _; have := (Mm_lt h.out).1; omega
  have MZ : Hid (Mz w.heap.size g ⟨sh, wi, ra, ta, A, B, C, nl, al, sl, c, d, f, nd, ac, sy, Ab, nb, cb, xs, An, Au, n1, n2, d1, d2, cl, cu, ep, off⟩) := Mz_of h.out (Nat.le_refl _)
  go_enter Try.func31, Try.ntmps31
  go_upto_region 1 with fail
  generalize hgZ : w.heap.size = gZ at Z0 hgz MZ ⊢
  have HGZ := Lib.hid hgZ
  clear hgZ
  generalize (w.alloc (.cells #[.int .i64 0, .int .i64 0] 43)) = w0 at Z0 U0 M0 ⊢
  have K0 : Hid (Blk w0 g 82 #[.int .i64 sh, .int .i64 wi, .int .i64 ra, .int .i64 ta, .slice A nl c, .slice B al d, .slice C sl f, .slice Ab nb cb, .slice An n1 d1, .slice Au n2 d2, .int .i64 ep, .bool off]) := M0.out.blk
  have e5 : wrap64 (ep + 1) = ep + 1 := by simp only at hep; unfold wrap64; omega
  clear hep
  cases off with
  | false =>
    have hP : Hid (rearmF (plO ⟨sh, wi, ra, ta, A, B, C, nl, al, sl, c, d, f, nd, ac, sy, Ab, nb, cb, xs, An, Au, n1, n2, d1, d2, cl, cu, ep, false⟩) = (plO ⟨sh, wi, ra, ta, A, B, C, nl, al, sl, c, d, f, nd, ac, sy, Ab, nb, cb, xs, An, Au, n1, n2, d1, d2, cl, cu, ep, false⟩, (16, 0))) := rfl
    rw [hP.out]
    obtain ⟨k0, k1, k2, k3, k4, k5, k6, k7, k8, k9, k10, k11, f0, f1, f2, f3, f4, f5, f6, f7, f8, f9, f10, f11⟩ := q12_of K0.out
    go_upto_region 2 with fail
    clear k0 k1 k2 k3 k4 k5 k6 k7 k8 k9 k10 k11 f0 f1 f2 f3 f4 f5 f6 f7 f8 f9 f10 f11 K0
    go_wp2_with fail
    refine (refused_any 16 _).mono ?_
    rintro e w1 ⟨rfl, hb1⟩
    have M1 := Lib.hid (Mm_below M0.out hb1)
    have Z1 := Lib.hid (Blk.below' Z0.out hb1)
    have U1 : Hid (Kp w w1 g Ab) := Kp_of_below (below_step U0.out hb1)
    clear hb1 M0 Z0 U0
    obtain ⟨z0, z1, z2, z3⟩ := q2b Z1.out
    have F3 : Blk (st2 w1 gZ (.int .i64 16) (.int .i64 0)) gZ 43 #[.int .i64 16, .int .i64 0] := st2_blk Z1.out
    have hfin : MadeDo base g ⟨sh, wi, ra, ta, A, B, C, nl, al, sl, c, d, f, nd, ac, sy, Ab, nb, cb, xs, An, Au, n1, n2, d1, d2, cl, cu, ep, false⟩ (plO ⟨sh, wi, ra, ta, A, B, C, nl, al, sl, c, d, f, nd, ac, sy, Ab, nb, cb, xs, An, Au, n1, n2, d1, d2, cl, cu, ep, false⟩) 16 0 [] w (.returned (.tuple #[.agg #[.int .i64 16, .int .i64 0], .slice none 0 0])) (st2 w1 gZ (.int .i64 16) (.int .i64 0)) := by
      unfold st2
      refine madeDo_no (q := ⟨sh, wi, ra, ta, A, B, C, nl, al, sl, c, d, f, nd, ac, sy, Ab, nb, cb, xs, An, Au, n1, n2, d1, d2, cl, cu, ep, false⟩) (Mm_setz (Mm_setz M1.out MZ.out Z1.out (by decide) 0 _) MZ.out (blk_st Z1.out 0 _) (by decide) 1 _) rfl rfl ?_ (fun z _ h => Mz_same h)
      exact Kp_past (Kp_past U1.out (by rw [HGZ.out]; exact Nat.le_refl _) 0 _) (by rw [HGZ.out]; exact Nat.le_refl _) 1 _
    have HF := Lib.hid hfin
    clear hfin
    go_wp2_with fail
    obtain ⟨e0, e1, _, _⟩ := q2b F3
    clear F3
    unfold st2 at e0 e1 HF
    exact bodyPost_ret (v := .tuple #[.agg #[.int .i64 16, .int .i64 0], .slice none 0 0]) (by simp [results, Try.results31, go_sem, e0, e1]) rfl HF.out
  | true =>
    have hP : Hid (rearmF (plO ⟨sh, wi, ra, ta, A, B, C, nl, al, sl, c, d, f, nd, ac, sy, Ab, nb, cb, xs, An, Au, n1, n2, d1, d2, cl, cu, ep, true⟩) = ({ plO ⟨sh, wi, ra, ta, A, B, C, nl, al, sl, c, d, f, nd, ac, sy, Ab, nb, cb, xs, An, Au, n1, n2, d1, d2, cl, cu, ep, true⟩ with off := false, ep := ep + 1 }, (0, ep + 1))) := rfl
    rw [hP.out]
    have M1 : Hid (Mm base (w0.setCell ⟨g, 11, none⟩ (.bool false)) g ⟨sh, wi, ra, ta, A, B, C, nl, al, sl, c, d, f, nd, ac, sy, Ab, nb, cb, xs, An, Au, n1, n2, d1, d2, cl, cu, ep, false⟩) := Mm_off M0.out false
    have Z1 : Hid (Blk (w0.setCell ⟨g, 11, none⟩ (.bool false)) gZ 43 #[.int .i64 0, .int .i64 0]) := far_st Z0.out (fun e => hgz.out e.symm) _
    have MZ1 : Hid (Mz gZ g ⟨sh, wi, ra, ta, A, B, C, nl, al, sl, c, d, f, nd, ac, sy, Ab, nb, cb, xs, An, Au, n1, n2, d1, d2, cl, cu, ep + 1, false⟩) := ⟨MZ.out.ne, MZ.out.z1, MZ.out.z2, MZ.out.z3, MZ.out.z4, MZ.out.z5, MZ.out.zx⟩
    have U1 : Hid (Kp w (w0.setCell ⟨g, 11, none⟩ (.bool false)) g Ab) := Kp_setg (Kp_of_below U0.out) 11 _
    obtain ⟨k0, k1, k2, k3, k4, k5, k6, k7, k8, k9, k10, k11, f0, f1, f2, f3, f4, f5, f6, f7, f8, f9, f10, f11⟩ := q12_of K0.out
    go_upto_region 4 with fail
    clear k0 k1 k2 k3 k4 k5 k6 k7 k8 k9 k10 k11 f0 f1 f2 f3 f4 f5 f6 f7 f8 f9 f10 f11 K0 M0 U0 Z0
    generalize w0.setCell ⟨g, 11, none⟩ (.bool false) = w1 at M1 Z1 U1 ⊢
    have K1 : Hid (Blk w1 g 82 #[.int .i64 sh, .int .i64 wi, .int .i64 ra, .int .i64 ta, .slice A nl c, .slice B al d, .slice C sl f, .slice Ab nb cb, .slice An n1 d1, .slice Au n2 d2, .int .i64 ep, .bool false]) := M1.out.blk
    have M2 : Hid (Mm base (w1.setCell ⟨g, 10, none⟩ (.int .i64 (ep + 1))) g ⟨sh, wi, ra, ta, A, B, C, nl, al, sl, c, d, f, nd, ac, sy, Ab, nb, cb, xs, An, Au, n1, n2, d1, d2, cl, cu, ep + 1, false⟩) := Mm_ep M1.out (ep + 1)
    have Z2 : Hid (Blk (w1.setCell ⟨g, 10, none⟩ (.int .i64 (ep + 1))) gZ 43 #[.int .i64 0, .int .i64 0]) := far_st Z1.out (fun e => hgz.out e.symm) _
    have U2 : Hid (Kp w (w1.setCell ⟨g, 10, none⟩ (.int .i64 (ep + 1))) g Ab) := Kp_setg U1.out 10 _
    obtain ⟨k0, k1, k2, k3, k4, k5, k6, k7, k8, k9, k10, k11, f0, f1, f2, f3, f4, f5, f6, f7, f8, f9, f10, f11⟩ := q12_of K1.out
    go_upto_region 5 with fail
    clear k0 k1 k2 k3 k4 k5 k6 k7 k8 k9 k10 k11 f0 f1 f2 f3 f4 f5 f6 f7 f8 f9 f10 f11 K1 M1 U1 Z1
    generalize w1.setCell ⟨g, 10, none⟩ (.int .i64 (ep + 1)) = w2 at M2 Z2 U2 ⊢
    have K2 : Hid (Blk w2 g 82 #[.int .i64 sh, .int .i64 wi, .int .i64 ra, .int .i64 ta, .slice A nl c, .slice B al d, .slice C sl f, .slice Ab nb cb, .slice An n1 d1, .slice Au n2 d2, .int .i64 (ep + 1), .bool false]) := M2.out.blk
    obtain ⟨k0, k1, k2, k3, k4, k5, k6, k7, k8, k9, k10, k11, f0, f1, f2, f3, f4, f5, f6, f7, f8, f9, f10, f11⟩ := q12_of K2.out
    have x1 : (w2.setCell ⟨gZ, 0, none⟩ (.int .i64 0)).cell? ⟨gZ, 1, none⟩ = some (.int .i64 0) := (blk_st Z2.out 0 (.int .i64 0)).cell 1
    obtain ⟨z0, z1, z2, z3⟩ := q2b Z2.out
    have F3 : Blk (st2 w2 gZ (.int .i64 0) (.int .i64 (ep + 1))) gZ 43 #[.int .i64 0, .int .i64 (ep + 1)] := st2_blk Z2.out
    have hfin : MadeDo base g ⟨sh, wi, ra, ta, A, B, C, nl, al, sl, c, d, f, nd, ac, sy, Ab, nb, cb, xs, An, Au, n1, n2, d1, d2, cl, cu, ep, true⟩ { plO ⟨sh, wi, ra, ta, A, B, C, nl, al, sl, c, d, f, nd, ac, sy, Ab, nb, cb, xs, An, Au, n1, n2, d1, d2, cl, cu, ep, true⟩ with off := false, ep := ep + 1 } 0 (ep + 1) [] w (.returned (.tuple #[.agg #[.int .i64 0, .int .i64 (ep + 1)], .slice none 0 0])) (st2 w2 gZ (.int .i64 0) (.int .i64 (ep + 1))) := by
      unfold st2
      refine madeDo_no (q := ⟨sh, wi, ra, ta, A, B, C, nl, al, sl, c, d, f, nd, ac, sy, Ab, nb, cb, xs, An, Au, n1, n2, d1, d2, cl, cu, ep + 1, false⟩) (Mm_setz (Mm_setz M2.out MZ1.out Z2.out (by decide) 0 _) MZ1.out (blk_st Z2.out 0 _) (by decide) 1 _) rfl rfl ?_ (fun z _ h => Mz_same h)
      exact Kp_past (Kp_past U2.out (by rw [HGZ.out]; exact Nat.le_refl _) 0 _) (by rw [HGZ.out]; exact Nat.le_refl _) 1 _
    have HF := Lib.hid hfin
    clear hfin
    go_wp2_with fail
    obtain ⟨e0, e1, _, _⟩ := q2b F3
    clear F3
    unfold st2 at e0 e1 HF
    exact bodyPost_ret (v := .tuple #[.agg #[.int .i64 0, .int .i64 (ep + 1)], .slice none 0 0]) (by simp [results, Try.results31, go_sem, e0, e1]) rfl HF.out
end Go.Proofs.Ytkmkaidhpbjbnaa.Mds

/- The contracts of rules.Check and of its reference, and of what they call. Condition: the Config lies in memory, its numbers are of 64 bits. -/
namespace Go.Proofs.Ytkmkaidhpbjbnaa.Rul1
set_option maxRecDepth 100000
open Go.ChangeShapes Go.WideShapes Go.ChangeAt Go.RowKit Mem Tre Ref3 Law3 Fix3 Opn Bnd Flo Cfg
set_option linter.unusedVariables false

attribute [local go_sem] run_store_float
def MadeX (x : Int) (w : World) (e : Ending) (w' : World) : Prop := e = .returned (.int .i64 x) ∧ Below w.heap.size w w'
theorem madeX_mk {x y : Int} {w w' : World} (h : x = y) (hb : Below w.heap.size w w') : MadeX x w (.returned (.int .i64 y)) w' := by subst h; exact ⟨rfl, hb⟩
theorem below_step {a b c : World} (h : Below a.heap.size a b) (k : Below b.heap.size b c) : Below a.heap.size a c := h.trans (k.mono h.size)

theorem btwI_any (a n b : Int) (w : World) : Calls Try.prog 64 #[.int .i64 a, .int .i64 n, .int .i64 b] w (ToldB (btwB a n b) w) := by
  by_cases h0 : a ≤ n
  · by_cases h1 : n ≤ b
    · have e := Lib.hid (btw_t h0 h1)
      go_enter Try.func64, Try.ntmps64
      go_wp2
      go_ret
      exact ⟨by rw [e.out]; rfl, rfl⟩
    · have e := Lib.hid (btw_g (a := a) (n := n) (b := b) (by omega))
      go_enter Try.func64, Try.ntmps64
      go_wp2
      go_ret
      exact ⟨by rw [e.out]; rfl, rfl⟩
  · have e := Lib.hid (btw_l (a := a) (n := n) (b := b) (by omega))
    go_enter Try.func64, Try.ntmps64
    go_wp2
    go_ret
    exact ⟨by rw [e.out]; rfl, rfl⟩

theorem btwL_any (a n b : Int) (w : World) : Calls Try.prog 67 #[.int .i64 a, .int .i64 n, .int .i64 b] w (ToldB (btwB a n b) w) := by
  by_cases h0 : a ≤ n
  · by_cases h1 : n ≤ b
    · have e := Lib.hid (btw_t h0 h1)
      go_enter Try.func67, Try.ntmps67
      go_wp2
      go_ret
      exact ⟨by rw [e.out]; rfl, rfl⟩
    · have e := Lib.hid (btw_g (a := a) (n := n) (b := b) (by omega))
      go_enter Try.func67, Try.ntmps67
      go_wp2
      go_ret
      exact ⟨by rw [e.out]; rfl, rfl⟩
  · have e := Lib.hid (btw_l (a := a) (n := n) (b := b) (by omega))
    go_enter Try.func67, Try.ntmps67
    go_wp2
    go_ret
    exact ⟨by rw [e.out]; rfl, rfl⟩

theorem hasN_any (A : Option Addr) (n c : Nat) (k : Int) (w : World) :
    Calls Try.prog 40 #[.slice A n c, .int .i64 k] w (ToldB (inR n k) w) := by
  by_cases h0 : 0 ≤ k
  · by_cases h1 : k < n
    · go_enter Try.func40, Try.ntmps40
      go_wp2
      go_ret
      exact ⟨by rw [inR_t h0 h1]; rfl, rfl⟩
    · go_enter Try.func40, Try.ntmps40
      go_wp2
      go_ret
      exact ⟨by rw [inR_f (by omega)]; rfl, rfl⟩
  · go_enter Try.func40, Try.ntmps40
    go_wp2
    go_ret
    exact ⟨by rw [inR_f (by omega)]; rfl, rfl⟩

theorem hasI_any (A : Option Addr) (n c : Nat) (k : Int) (w : World) :
    Calls Try.prog 70 #[.slice A n c, .int .i64 k] w (ToldB (inR n k) w) := by
  by_cases h0 : 0 ≤ k
  · by_cases h1 : k < n
    · go_enter Try.func70, Try.ntmps70
      go_wp2
      go_ret
      exact ⟨by rw [inR_t h0 h1]; rfl, rfl⟩
    · go_enter Try.func70, Try.ntmps70
      go_wp2
      go_ret
      exact ⟨by rw [inR_f (by omega)]; rfl, rfl⟩
  · go_enter Try.func70, Try.ntmps70
    go_wp2
    go_ret
    exact ⟨by rw [inR_f (by omega)]; rfl, rfl⟩

theorem hasS_any (A : Option Addr) (n c : Nat) (k : Int) (w : World) :
    Calls Try.prog 71 #[.slice A n c, .int .i64 k] w (ToldB (inR n k) w) := by
  by_cases h0 : 0 ≤ k
  · by_cases h1 : k < n
    · go_enter Try.func71, Try.ntmps71
      go_wp2
      go_ret
      exact ⟨by rw [inR_t h0 h1]; rfl, rfl⟩
    · go_enter Try.func71, Try.ntmps71
      go_wp2
      go_ret
      exact ⟨by rw [inR_f (by omega)]; rfl, rfl⟩
  · go_enter Try.func71, Try.ntmps71
    go_wp2
    go_ret
    exact ⟨by rw [inR_f (by omega)]; rfl, rfl⟩

theorem sized_any (sh wi ra ta : Int) (A B C : Option Addr) (n m k c d f : Nat) (w : World) :
    Calls Try.prog 38 #[.agg #[.int .i64 sh, .int .i64 wi, .int .i64 ra, .int .i64 ta, .slice A n c, .slice B m d, .slice C k f]] w (MadeB (sizB sh wi ra ta) w) := by
  have E : Hid (sizB sh wi ra ta = (btwB 1 sh 4 && btwB 0 wi 16 && btwB 1 ra 1000 && btwB 1 ta 64)) := rfl
  cases h1 : btwB 1 sh 4
  · have E1 : Hid (sizB sh wi ra ta = false) := by have := E.out; rw [h1] at this; exact this
    go_enter Try.func38, Try.ntmps38
    go_wp2_with (go_at_call 64; refine (btwI_any _ _ _ _).mono ?_; rintro e w1 ⟨rfl, rfl⟩)
    go_ret
    exact madeB_mk E1.out ((Below.refl _ _).alloc (Nat.le_refl _) _)
  cases h2 : btwB 0 wi 16
  · have E1 : Hid (sizB sh wi ra ta = false) := by have := E.out; rw [h1, h2] at this; exact this
    go_enter Try.func38, Try.ntmps38
    go_wp2_with (go_at_call 64; refine (btwI_any _ _ _ _).mono ?_; rintro e w1 ⟨rfl, rfl⟩)
    go_ret
    exact madeB_mk E1.out ((Below.refl _ _).alloc (Nat.le_refl _) _)
  cases h3 : btwB 1 ra 1000
  · have E1 : Hid (sizB sh wi ra ta = false) := by have := E.out; rw [h1, h2, h3] at this; exact this
    go_enter Try.func38, Try.ntmps38
    go_wp2_with (go_at_call 64; refine (btwI_any _ _ _ _).mono ?_; rintro e w1 ⟨rfl, rfl⟩)
    go_ret
    exact madeB_mk E1.out ((Below.refl _ _).alloc (Nat.le_refl _) _)
  cases h4 : btwB 1 ta 64
  · have E1 : Hid (sizB sh wi ra ta = false) := by have := E.out; rw [h1, h2, h3, h4] at this; exact this
    go_enter Try.func38, Try.ntmps38
    go_wp2_with (go_at_call 64; refine (btwI_any _ _ _ _).mono ?_; rintro e w1 ⟨rfl, rfl⟩)
    go_ret
    exact madeB_mk E1.out ((Below.refl _ _).alloc (Nat.le_refl _) _)
  · have E1 : Hid (sizB sh wi ra ta = true) := by have := E.out; rw [h1, h2, h3, h4] at this; exact this
    go_enter Try.func38, Try.ntmps38
    go_wp2_with (go_at_call 64; refine (btwI_any _ _ _ _).mono ?_; rintro e w1 ⟨rfl, rfl⟩)
    go_ret
    exact madeB_mk E1.out ((Below.refl _ _).alloc (Nat.le_refl _) _)

theorem tradable_any (p q wo : Int) (b : Nat) (w : World) :
    Calls Try.prog 41 #[.agg #[.int .i64 p, .int .i64 q, .int .i64 wo, .float .f64 b]] w (MadeB (symB p q wo b) w) := by
  have E : Hid (symB p q wo b = (btwB 1 p 1099511627776 && btwB 1 q 1099511627776 && decide (0 ≤ wo) && rightB b)) := rfl
  cases h1 : btwB 1 p 1099511627776
  · have E1 : Hid (symB p q wo b = false) := by have := E.out; rw [h1] at this; exact this
    go_enter Try.func41, Try.ntmps41
    go_wp2_with (first | (go_at_call 67; refine (btwL_any _ _ _ _).mono ?_; rintro e w1 ⟨rfl, rfl⟩) | (go_at_call 68; refine (Bnd.right_any _ _).mono ?_; rintro e w1 ⟨rfl, rfl⟩))
    go_ret
    exact madeB_mk E1.out ((Below.refl _ _).alloc (Nat.le_refl _) _)
  cases h2 : btwB 1 q 1099511627776
  · have E1 : Hid (symB p q wo b = false) := by have := E.out; rw [h1, h2] at this; exact this
    go_enter Try.func41, Try.ntmps41
    go_wp2_with (first | (go_at_call 67; refine (btwL_any _ _ _ _).mono ?_; rintro e w1 ⟨rfl, rfl⟩) | (go_at_call 68; refine (Bnd.right_any _ _).mono ?_; rintro e w1 ⟨rfl, rfl⟩))
    go_ret
    exact madeB_mk E1.out ((Below.refl _ _).alloc (Nat.le_refl _) _)
  by_cases h3 : 0 ≤ wo
  · cases h4 : rightB b
    · have E1 : Hid (symB p q wo b = false) := by have := E.out; rw [h1, h2, h4, decide_eq_true h3] at this; exact this
      go_enter Try.func41, Try.ntmps41
      go_wp2_with (first | (go_at_call 67; refine (btwL_any _ _ _ _).mono ?_; rintro e w1 ⟨rfl, rfl⟩) | (go_at_call 68; refine (Bnd.right_any _ _).mono ?_; rintro e w1 ⟨rfl, rfl⟩))
      go_ret
      exact madeB_mk E1.out ((Below.refl _ _).alloc (Nat.le_refl _) _)
    · have E1 : Hid (symB p q wo b = true) := by have := E.out; rw [h1, h2, h4, decide_eq_true h3] at this; exact this
      go_enter Try.func41, Try.ntmps41
      go_wp2_with (first | (go_at_call 67; refine (btwL_any _ _ _ _).mono ?_; rintro e w1 ⟨rfl, rfl⟩) | (go_at_call 68; refine (Bnd.right_any _ _).mono ?_; rintro e w1 ⟨rfl, rfl⟩))
      go_ret
      exact madeB_mk E1.out ((Below.refl _ _).alloc (Nat.le_refl _) _)
  · have E1 : Hid (symB p q wo b = false) := by have := E.out; rw [h1, h2, decide_eq_false h3] at this; exact this
    have h4 : decide (0 ≤ wo) = false := decide_eq_false h3
    go_enter Try.func41, Try.ntmps41
    go_wp2_with (first | (go_at_call 67; refine (btwL_any _ _ _ _).mono ?_; rintro e w1 ⟨rfl, rfl⟩) | (go_at_call 68; refine (Bnd.right_any _ _).mono ?_; rintro e w1 ⟨rfl, rfl⟩))
    go_ret
    exact madeB_mk E1.out ((Below.refl _ _).alloc (Nat.le_refl _) _)

set_option maxHeartbeats 2000000 in
theorem check5_any (sh wi ra ta : Int) (A B C : Option Addr) (c d f : Nat) (nd : List (Int × Int)) (ac : List Int) (sy : List (Int × Int × Int × Nat)) (w : World)
    (hl : Hid (Nds w w.heap.size A nd)) (hu : Hid (Ris w w.heap.size B ac)) (hs : Hid (Smb w w.heap.size C sy)) (hw : Hid (WfN nd)) (hmax : (nd.length : Int) ≤ 1000000) (hmay : (ac.length : Int) ≤ 1000000) (hmaz : (sy.length : Int) ≤ 1000000) :
    Calls Try.prog 16 #[.agg #[.int .i64 sh, .int .i64 wi, .int .i64 ra, .int .i64 ta, .slice A nd.length c, .slice B ac.length d, .slice C sy.length f]] w (MadeX (cfgF sh wi ra ta nd ac sy) w) := by
  have b0 : Below w.heap.size w (w.alloc (.cells #[.int .i64 sh, .int .i64 wi, .int .i64 ra, .int .i64 ta, .slice A nd.length c, .slice B ac.length d, .slice C sy.length f] 39)) := (Below.refl _ _).alloc (Nat.le_refl _) _
  have l0 : Hid (Nds (w.alloc (.cells #[.int .i64 sh, .int .i64 wi, .int .i64 ra, .int .i64 ta, .slice A nd.length c, .slice B ac.length d, .slice C sy.length f] 39)) (w.alloc (.cells #[.int .i64 sh, .int .i64 wi, .int .i64 ra, .int .i64 ta, .slice A nd.length c, .slice B ac.length d, .slice C sy.length f] 39)).heap.size A nd) := Rd.below' hl.out b0 b0.size
  have ua0 : Hid (Ris (w.alloc (.cells #[.int .i64 sh, .int .i64 wi, .int .i64 ra, .int .i64 ta, .slice A nd.length c, .slice B ac.length d, .slice C sy.length f] 39)) (w.alloc (.cells #[.int .i64 sh, .int .i64 wi, .int .i64 ra, .int .i64 ta, .slice A nd.length c, .slice B ac.length d, .slice C sy.length f] 39)).heap.size B ac) := Rd.below' hu.out b0 b0.size
  have s0 : Hid (Smb (w.alloc (.cells #[.int .i64 sh, .int .i64 wi, .int .i64 ra, .int .i64 ta, .slice A nd.length c, .slice B ac.length d, .slice C sy.length f] 39)) (w.alloc (.cells #[.int .i64 sh, .int .i64 wi, .int .i64 ra, .int .i64 ta, .slice A nd.length c, .slice B ac.length d, .slice C sy.length f] 39)).heap.size C sy) := Rd.below' hs.out b0 b0.size
  have k0 : Hid (Blk (w.alloc (.cells #[.int .i64 sh, .int .i64 wi, .int .i64 ra, .int .i64 ta, .slice A nd.length c, .slice B ac.length d, .slice C sy.length f] 39)) w.heap.size 39 #[.int .i64 sh, .int .i64 wi, .int .i64 ra, .int .i64 ta, .slice A nd.length c, .slice B ac.length d, .slice C sy.length f]) := Blk.fresh _ _ _
  go_enter Try.func16, Try.ntmps16
  go_wp2_with fail
  generalize (w.alloc (.cells #[.int .i64 sh, .int .i64 wi, .int .i64 ra, .int .i64 ta, .slice A nd.length c, .slice B ac.length d, .slice C sy.length f] 39)) = W0 at b0 l0 ua0 s0 k0 ⊢
  refine (sized_any sh wi ra ta A B C nd.length ac.length sy.length c d f _).mono ?_
  rintro e w1 ⟨rfl, hb1⟩
  have b1 := below_step b0 hb1
  have k1 := Lib.hid (Blk.below' k0.out hb1)
  have l1 : Hid (Nds w1 w1.heap.size A nd) := Rd.below' l0.out hb1 hb1.size
  have ua1 : Hid (Ris w1 w1.heap.size B ac) := Rd.below' ua0.out hb1 hb1.size
  have s1 : Hid (Smb w1 w1.heap.size C sy) := Rd.below' s0.out hb1 hb1.size
  have f4 : w1.cell? ⟨w.heap.size, 4, none⟩ = some (.slice A nd.length c) := k1.out.cell 4
  clear b0 l0 ua0 s0 k0 hb1
  cases hsz : sizB sh wi ra ta
  · have E : Hid (cfgF sh wi ra ta nd ac sy = 1) := cfgF_1 hsz
    go_wp2_with fail
    go_ret
    exact madeX_mk E.out b1
  have HSZ := Lib.hid hsz
  go_wp2_with fail
  refine (check_any A c nd w1 l1.out hw (by omega)).mono ?_
  rintro e w2 ⟨rfl, hb2⟩
  have b2 := below_step b1 hb2
  have k2 := Lib.hid (Blk.below' k1.out hb2)
  have ua2 : Hid (Ris w2 w2.heap.size B ac) := Rd.below' ua1.out hb2 hb2.size
  have s2 : Hid (Smb w2 w2.heap.size C sy) := Rd.below' s1.out hb2 hb2.size
  have g4 : w2.cell? ⟨w.heap.size, 4, none⟩ = some (.slice A nd.length c) := k2.out.cell 4
  have g5 : w2.cell? ⟨w.heap.size, 5, none⟩ = some (.slice B ac.length d) := k2.out.cell 5
  have g6 : w2.cell? ⟨w.heap.size, 6, none⟩ = some (.slice C sy.length f) := k2.out.cell 6
  clear b1 k1 l1 ua1 s1 hb2 f4 hsz
  by_cases hc : (chk nd).1 = 0
  case neg =>
    have c1 : ((chk nd).1 != 0) = true := by simp [hc]
    have c2 : ((chk nd).1 == 0) = false := by simp [hc]
    have E : Hid (cfgF sh wi ra ta nd ac sy = (chk nd).1) := cfgF_2 HSZ.out hc
    clear hc
    go_wp2_with fail
    go_ret
    exact madeX_mk E.out b2
  have c1 : ((chk nd).1 != 0) = false := by simp [hc]
  have c2 : ((chk nd).1 == 0) = true := by simp [hc]
  have HC := Lib.hid hc
  clear hc
  by_cases ha0 : ac.length = 0
  · have q1 : ((ac.length : Int) == 0) = true := beq_iff_eq.2 (by omega)
    have E : Hid (cfgF sh wi ra ta nd ac sy = 3) := cfgF_3 HSZ.out HC.out (.inl ha0)
    clear ha0
    go_wp2_with fail
    go_ret
    exact madeX_mk E.out b2
  have q1 : ((ac.length : Int) == 0) = false := beq_eq_false_iff_ne.2 (by omega)
  by_cases ha1 : 32 < ac.length
  · have E : Hid (cfgF sh wi ra ta nd ac sy = 3) := cfgF_3 HSZ.out HC.out (.inr ha1)
    go_wp2_with fail
    go_ret
    exact madeX_mk E.out b2
  have HA : Hid (¬ (ac.length = 0 ∨ 32 < ac.length)) := by show ¬ _; omega
  clear ha0
  go_wp2_with fail
  go_loopg [34] ac.length (fun g s34 w' => ∃ (k : Nat), k + g = ac.length ∧ s34 = .int .i64 k ∧ Hid (∀ i, i < k → inR nd.length (gI ac i) = true) ∧ w2 = w')
  case atStart => exact ⟨0, by omega, rfl, fun i hi => absurd hi (Nat.not_lt_zero i), rfl⟩
  case round =>
    obtain ⟨k, hk, rfl, hall, rfl⟩ := hrel
    by_cases hlt : (k : Int) < (ac.length : Int)
    · obtain ⟨g, rfl⟩ : ∃ g, gk = g + 1 := ⟨gk - 1, by omega⟩
      obtain ⟨b, o, rfl, hb, hcc⟩ := Ris.at (i := k) ua2.out (by omega)
      have d0 := hcc k (by omega)
      clear hcc
      cases hin : inR nd.length (gI ac k)
      · have E : Hid (cfgF sh wi ra ta nd ac sy = 18) := cfgF_4 HSZ.out HC.out HA.out (accB_f (by omega) hin)
        go_wp2_with (go_at_call 40; refine (hasN_any _ _ _ _ _).mono ?_; rintro e w3 ⟨rfl, rfl⟩)
        go_ret
        exact madeX_mk E.out b2
      · have hall' : Hid (∀ i, i < k + 1 → inR nd.length (gI ac i) = true) := fun i hi => by
          by_cases e : i = k
          · subst e; exact hin
          · exact hall.out i (by omega)
        go_wp2_with (go_at_call 40; refine (hasN_any _ _ _ _ _).mono ?_; rintro e w3 ⟨rfl, rfl⟩)
        go_roundg g
        case measure => omega
        case rel => exact ⟨k + 1, by omega, by go_num, hall', rfl⟩
    · have HB : Hid (accB nd.length ac = true) := accB_t fun i hi => hall.out i (by omega)
      clear hk
      by_cases ha0 : sy.length = 0
      · have q2 : ((sy.length : Int) == 0) = true := beq_iff_eq.2 (by omega)
        have E : Hid (cfgF sh wi ra ta nd ac sy = 4) := cfgF_5 HSZ.out HC.out HA.out HB.out (.inl ha0)
        clear ha0
        go_wp2_with fail
        go_ret
        exact madeX_mk E.out b2
      have q2 : ((sy.length : Int) == 0) = false := beq_eq_false_iff_ne.2 (by omega)
      by_cases ha2 : 16 < sy.length
      · have E : Hid (cfgF sh wi ra ta nd ac sy = 4) := cfgF_5 HSZ.out HC.out HA.out HB.out (.inr ha2)
        go_wp2_with fail
        go_ret
        exact madeX_mk E.out b2
      have HD : Hid (¬ (sy.length = 0 ∨ 16 < sy.length)) := by show ¬ _; omega
      clear ha0
      go_wp2_with fail
      go_loopg [57] sy.length (fun g s57 w' => ∃ (j : Nat), j + g = sy.length ∧ s57 = .int .i64 j ∧ Hid (∀ i, i < j → symB (sP sy i) (sQ sy i) (sW sy i) (sB sy i) = true) ∧ Below w2.heap.size w2 w')
      case atStart => exact ⟨0, by omega, rfl, fun i hi => absurd hi (Nat.not_lt_zero i), Below.refl _ _⟩
      case round =>
        obtain ⟨j, hj, rfl, hall2, hbel⟩ := hrel
        have bE := below_step b2 hbel
        by_cases hlt2 : (j : Int) < (sy.length : Int)
        · obtain ⟨g, rfl⟩ : ∃ g, gk = g + 1 := ⟨gk - 1, by omega⟩
          obtain ⟨b, o, rfl, hb, hcc⟩ := Smb.at (i := j) s2.out (by omega)
          obtain ⟨r0, r1, r2, r3⟩ := hcc j (by omega)
          have d0 := (hbel.cell (p := ⟨b, o + j * 4, none⟩) hb).trans r0
          have d1 := (hbel.cell (p := ⟨b, o + j * 4 + 1, none⟩) hb).trans r1
          have d2 := (hbel.cell (p := ⟨b, o + j * 4 + 2, none⟩) hb).trans r2
          have d3 := (hbel.cell (p := ⟨b, o + j * 4 + 3, none⟩) hb).trans r3
          clear hcc r0 r1 r2 r3
          cases hin : symB (sP sy j) (sQ sy j) (sW sy j) (sB sy j)
          · have E : Hid (cfgF sh wi ra ta nd ac sy = 1) := cfgF_6 HSZ.out HC.out HA.out HB.out HD.out (tabB_f (by omega) hin)
            go_wp2_with fail
            refine (tradable_any _ _ _ _ _).mono ?_
            rintro e w3 ⟨rfl, hb3⟩
            have b3 := below_step (bE.alloc bE.size _) hb3
            go_wp2_with fail
            go_ret
            exact madeX_mk E.out b3
          · have hall' : Hid (∀ i, i < j + 1 → symB (sP sy i) (sQ sy i) (sW sy i) (sB sy i) = true) := fun i hi => by
              by_cases e : i = j
              · subst e; exact hin
              · exact hall2.out i (by omega)
            go_wp2_with fail
            refine (tradable_any _ _ _ _ _).mono ?_
            rintro e w3 ⟨rfl, hb3⟩
            have b3 := below_step (hbel.alloc hbel.size _) hb3
            go_wp2_with fail
            go_roundg g
            case measure => omega
            case rel => exact ⟨j + 1, by omega, by go_num, hall', b3⟩
        · have E : Hid (cfgF sh wi ra ta nd ac sy = 0) := cfgF_7 HSZ.out HC.out HA.out HB.out HD.out (tabB_t fun i hi => hall2.out i (by omega))
          go_wp2_with fail
          go_ret
          exact madeX_mk E.out bE
end Go.Proofs.Ytkmkaidhpbjbnaa.Rul1

/- The contracts of rules.Look, rules.Shard and of their references, and of the law's Order. Condition: the Config lies in memory, the numbers are of 64 bits. -/
namespace Go.Proofs.Ytkmkaidhpbjbnaa.Rul3
set_option maxRecDepth 100000
open Go.ChangeShapes Go.WideShapes Go.ChangeAt Go.RowKit Mem Tre Ref3 Law3 Fix3 Opn Bnd Flo Cfg Rul1
set_option linter.unusedVariables false
attribute [local go_sem] run_store_float

section
variable {ac : List Int} {sy : List (Int × Int × Int × Nat)} {a s p q n t : Int}
theorem lok_1 (h : p < 1 ∨ q < 1 ∨ n < 0 ∨ t < 0) : lokF ac sy a s p q n t = (1, 0) := by unfold lokF; rw [if_pos h]
theorem lok_3 (h : ¬ (p < 1 ∨ q < 1 ∨ n < 0 ∨ t < 0)) (h1 : inR ac.length a = false) : lokF ac sy a s p q n t = (3, 0) := by unfold lokF; rw [if_neg h, if_pos h1]
theorem lok_4 (h : ¬ (p < 1 ∨ q < 1 ∨ n < 0 ∨ t < 0)) (h1 : inR ac.length a = true) (h2 : inR sy.length s = false) : lokF ac sy a s p q n t = (4, 0) := by
  unfold lokF; rw [if_neg h, if_neg (by rw [h1]; decide), if_pos h2]
theorem lok_5 (h : ¬ (p < 1 ∨ q < 1 ∨ n < 0 ∨ t < 0)) (h1 : inR ac.length a = true) (h2 : inR sy.length s = true) (h3 : sQ sy s.toNat < q) : lokF ac sy a s p q n t = (5, 0) := by
  unfold lokF; rw [if_neg h, if_neg (by rw [h1]; decide), if_neg (by rw [h2]; decide), if_pos h3]
theorem lok_6 (h : ¬ (p < 1 ∨ q < 1 ∨ n < 0 ∨ t < 0)) (h1 : inR ac.length a = true) (h2 : inR sy.length s = true) (h3 : ¬ sQ sy s.toNat < q) (h4 : Fix.noB p q = false) : lokF ac sy a s p q n t = (6, 0) := by
  rw [Fix.noB_in (by omega) (by omega)] at h4
  unfold lokF; rw [if_neg h, if_neg (by rw [h1]; decide), if_neg (by rw [h2]; decide), if_neg h3, if_pos (by rw [h4]; decide)]
theorem no_prod (h : ¬ (p < 1 ∨ q < 1 ∨ n < 0 ∨ t < 0)) (h4 : Fix.noB p q = true) : Fix.noV p q = p * q := by
  rw [Fix.noV_in (by omega) (by omega)]
  rw [Fix.noB_in (by omega) (by omega)] at h4
  unfold Fix.numV; rw [h4]; rfl
theorem lok_7 (h : ¬ (p < 1 ∨ q < 1 ∨ n < 0 ∨ t < 0)) (h1 : inR ac.length a = true) (h2 : inR sy.length s = true) (h3 : ¬ sQ sy s.toNat < q) (h4 : Fix.noB p q = true) (h5 : sW sy s.toNat < Fix.noV p q) : lokF ac sy a s p q n t = (7, 0) := by
  rw [no_prod h h4] at h5
  rw [Fix.noB_in (by omega) (by omega)] at h4
  unfold lokF; rw [if_neg h, if_neg (by rw [h1]; decide), if_neg (by rw [h2]; decide), if_neg h3, if_neg (by rw [h4]; decide), if_pos h5]
theorem lok_8 (h : ¬ (p < 1 ∨ q < 1 ∨ n < 0 ∨ t < 0)) (h1 : inR ac.length a = true) (h2 : inR sy.length s = true) (h3 : ¬ sQ sy s.toNat < q) (h4 : Fix.noB p q = true) (h5 : ¬ sW sy s.toNat < Fix.noV p q) (h6 : witB (sP sy s.toNat) p (sB sy s.toNat) = false) : lokF ac sy a s p q n t = (8, 0) := by
  rw [no_prod h h4] at h5
  rw [Fix.noB_in (by omega) (by omega)] at h4
  unfold lokF; rw [if_neg h, if_neg (by rw [h1]; decide), if_neg (by rw [h2]; decide), if_neg h3, if_neg (by rw [h4]; decide), if_neg h5, if_pos h6]
theorem lok_0 (h : ¬ (p < 1 ∨ q < 1 ∨ n < 0 ∨ t < 0)) (h1 : inR ac.length a = true) (h2 : inR sy.length s = true) (h3 : ¬ sQ sy s.toNat < q) (h4 : Fix.noB p q = true) (h5 : ¬ sW sy s.toNat < Fix.noV p q) (h6 : witB (sP sy s.toNat) p (sB sy s.toNat) = true) : lokF ac sy a s p q n t = (0, Fix.noV p q) := by
  rw [no_prod h h4] at h5 ⊢
  rw [Fix.noB_in (by omega) (by omega)] at h4
  unfold lokF; rw [if_neg h, if_neg (by rw [h1]; decide), if_neg (by rw [h2]; decide), if_neg h3, if_neg (by rw [h4]; decide), if_neg h5, if_neg (by rw [h6]; decide)]
end

set_option maxHeartbeats 4000000 in
theorem look_any (sh wi ra ta : Int) (A B C : Option Addr) (c d f : Nat) (nd : List (Int × Int)) (ac : List Int) (sy : List (Int × Int × Int × Nat)) (a s : Int) (x : Bool) (p q n t : Int) (w : World)
    (hs : Hid (Smb w w.heap.size C sy)) (hwf : Hid (WfS sy)) (hp : inI p) (hq : inI q) (hmay : (ac.length : Int) ≤ 1000000) (hmaz : (sy.length : Int) ≤ 1000000) :
    Calls Try.prog 49 #[.agg #[.int .i64 sh, .int .i64 wi, .int .i64 ra, .int .i64 ta, .slice A nd.length c, .slice B ac.length d, .slice C sy.length f], .agg #[.int .i64 a, .int .i64 s, .bool x, .int .i64 p, .int .i64 q, .int .i64 n, .int .i64 t]] w (Made2 (lokF ac sy a s p q n t) w) := by
  obtain ⟨hp0, hp1⟩ := hp
  obtain ⟨hq0, hq1⟩ := hq
  have b0 : Below w.heap.size w ((w.alloc (.cells #[.int .i64 sh, .int .i64 wi, .int .i64 ra, .int .i64 ta, .slice A nd.length c, .slice B ac.length d, .slice C sy.length f] 39)).alloc (.cells #[.int .i64 a, .int .i64 s, .bool x, .int .i64 p, .int .i64 q, .int .i64 n, .int .i64 t] 48)) := ((Below.refl _ _).alloc (Nat.le_refl _) _).alloc (by simp) _
  have s0 : Hid (Smb ((w.alloc (.cells #[.int .i64 sh, .int .i64 wi, .int .i64 ra, .int .i64 ta, .slice A nd.length c, .slice B ac.length d, .slice C sy.length f] 39)).alloc (.cells #[.int .i64 a, .int .i64 s, .bool x, .int .i64 p, .int .i64 q, .int .i64 n, .int .i64 t] 48)) ((w.alloc (.cells #[.int .i64 sh, .int .i64 wi, .int .i64 ra, .int .i64 ta, .slice A nd.length c, .slice B ac.length d, .slice C sy.length f] 39)).alloc (.cells #[.int .i64 a, .int .i64 s, .bool x, .int .i64 p, .int .i64 q, .int .i64 n, .int .i64 t] 48)).heap.size C sy) := Rd.below' hs.out b0 b0.size
  have k0 : Hid (Blk ((w.alloc (.cells #[.int .i64 sh, .int .i64 wi, .int .i64 ra, .int .i64 ta, .slice A nd.length c, .slice B ac.length d, .slice C sy.length f] 39)).alloc (.cells #[.int .i64 a, .int .i64 s, .bool x, .int .i64 p, .int .i64 q, .int .i64 n, .int .i64 t] 48)) w.heap.size 39 #[.int .i64 sh, .int .i64 wi, .int .i64 ra, .int .i64 ta, .slice A nd.length c, .slice B ac.length d, .slice C sy.length f]) := (Blk.fresh w _ _).alloc _
  have k1 : Hid (Blk ((w.alloc (.cells #[.int .i64 sh, .int .i64 wi, .int .i64 ra, .int .i64 ta, .slice A nd.length c, .slice B ac.length d, .slice C sy.length f] 39)).alloc (.cells #[.int .i64 a, .int .i64 s, .bool x, .int .i64 p, .int .i64 q, .int .i64 n, .int .i64 t] 48)) (w.heap.size + 1) 48 #[.int .i64 a, .int .i64 s, .bool x, .int .i64 p, .int .i64 q, .int .i64 n, .int .i64 t]) := by
    have := Blk.fresh (w.alloc (.cells #[.int .i64 sh, .int .i64 wi, .int .i64 ra, .int .i64 ta, .slice A nd.length c, .slice B ac.length d, .slice C sy.length f] 39)) 48 #[.int .i64 a, .int .i64 s, .bool x, .int .i64 p, .int .i64 q, .int .i64 n, .int .i64 t]
    simp only [World.size_alloc] at this
    exact this
  have hsz : w.heap.size + 1 < ((w.alloc (.cells #[.int .i64 sh, .int .i64 wi, .int .i64 ra, .int .i64 ta, .slice A nd.length c, .slice B ac.length d, .slice C sy.length f] 39)).alloc (.cells #[.int .i64 a, .int .i64 s, .bool x, .int .i64 p, .int .i64 q, .int .i64 n, .int .i64 t] 48)).heap.size := by simp
  go_enter Try.func49, Try.ntmps49
  go_upto_region 1 with fail
  generalize ((w.alloc (.cells #[.int .i64 sh, .int .i64 wi, .int .i64 ra, .int .i64 ta, .slice A nd.length c, .slice B ac.length d, .slice C sy.length f] 39)).alloc (.cells #[.int .i64 a, .int .i64 s, .bool x, .int .i64 p, .int .i64 q, .int .i64 n, .int .i64 t] 48)) = W0 at b0 s0 k0 k1 hsz ⊢
  have f0 : W0.cell? ⟨w.heap.size, 5, none⟩ = some (.slice B ac.length d) := k0.out.cell 5
  have f1 : W0.cell? ⟨w.heap.size, 6, none⟩ = some (.slice C sy.length f) := k0.out.cell 6
  have g0 : W0.cell? ⟨w.heap.size + 1, 0, none⟩ = some (.int .i64 a) := k1.out.cell 0
  have g1 : W0.cell? ⟨w.heap.size + 1, 1, none⟩ = some (.int .i64 s) := k1.out.cell 1
  have g3 : W0.cell? ⟨w.heap.size + 1, 3, none⟩ = some (.int .i64 p) := k1.out.cell 3
  have g4 : W0.cell? ⟨w.heap.size + 1, 4, none⟩ = some (.int .i64 q) := k1.out.cell 4
  have g5 : W0.cell? ⟨w.heap.size + 1, 5, none⟩ = some (.int .i64 n) := k1.out.cell 5
  have g6 : W0.cell? ⟨w.heap.size + 1, 6, none⟩ = some (.int .i64 t) := k1.out.cell 6
  by_cases hh0 : p < 1
  ·
    have E : Hid (lokF ac sy a s p q n t = (1, 0)) := lok_1 (by omega)
    go_wp2_with (first | (go_at_call 70; (with_reducible refine (hasI_any _ _ _ _ _).mono ?_); rintro e w4 ⟨rfl, rfl⟩) | (go_at_call 71; (with_reducible refine (hasS_any _ _ _ _ _).mono ?_); rintro e w4 ⟨rfl, rfl⟩) | (go_at_call 72; (with_reducible refine (Fix.not_any p q _ (by omega) (by omega) (by omega) (by omega)).mono ?_); rintro e w4 ⟨rfl, rfl⟩) | (go_at_call 73; (with_reducible refine (Bnd.wit_any _ _ _ _ hbb).mono ?_); rintro e w4 ⟨rfl, rfl⟩))
    go_ret2
    exact made2 E.out b0
  by_cases hh1 : q < 1
  ·
    have E : Hid (lokF ac sy a s p q n t = (1, 0)) := lok_1 (by omega)
    go_wp2_with (first | (go_at_call 70; (with_reducible refine (hasI_any _ _ _ _ _).mono ?_); rintro e w4 ⟨rfl, rfl⟩) | (go_at_call 71; (with_reducible refine (hasS_any _ _ _ _ _).mono ?_); rintro e w4 ⟨rfl, rfl⟩) | (go_at_call 72; (with_reducible refine (Fix.not_any p q _ (by omega) (by omega) (by omega) (by omega)).mono ?_); rintro e w4 ⟨rfl, rfl⟩) | (go_at_call 73; (with_reducible refine (Bnd.wit_any _ _ _ _ hbb).mono ?_); rintro e w4 ⟨rfl, rfl⟩))
    go_ret2
    exact made2 E.out b0
  by_cases hh2 : n < 0
  ·
    have E : Hid (lokF ac sy a s p q n t = (1, 0)) := lok_1 (by omega)
    go_wp2_with (first | (go_at_call 70; (with_reducible refine (hasI_any _ _ _ _ _).mono ?_); rintro e w4 ⟨rfl, rfl⟩) | (go_at_call 71; (with_reducible refine (hasS_any _ _ _ _ _).mono ?_); rintro e w4 ⟨rfl, rfl⟩) | (go_at_call 72; (with_reducible refine (Fix.not_any p q _ (by omega) (by omega) (by omega) (by omega)).mono ?_); rintro e w4 ⟨rfl, rfl⟩) | (go_at_call 73; (with_reducible refine (Bnd.wit_any _ _ _ _ hbb).mono ?_); rintro e w4 ⟨rfl, rfl⟩))
    go_ret2
    exact made2 E.out b0
  by_cases hh3 : t < 0
  ·
    have E : Hid (lokF ac sy a s p q n t = (1, 0)) := lok_1 (by omega)
    go_wp2_with (first | (go_at_call 70; (with_reducible refine (hasI_any _ _ _ _ _).mono ?_); rintro e w4 ⟨rfl, rfl⟩) | (go_at_call 71; (with_reducible refine (hasS_any _ _ _ _ _).mono ?_); rintro e w4 ⟨rfl, rfl⟩) | (go_at_call 72; (with_reducible refine (Fix.not_any p q _ (by omega) (by omega) (by omega) (by omega)).mono ?_); rintro e w4 ⟨rfl, rfl⟩) | (go_at_call 73; (with_reducible refine (Bnd.wit_any _ _ _ _ hbb).mono ?_); rintro e w4 ⟨rfl, rfl⟩))
    go_ret2
    exact made2 E.out b0
  have HN : Hid (¬ (p < 1 ∨ q < 1 ∨ n < 0 ∨ t < 0)) := by show ¬ _; omega
  cases h1 : inR ac.length a
  ·
    have E : Hid (lokF ac sy a s p q n t = (3, 0)) := lok_3 HN.out h1
    go_wp2_with (first | (go_at_call 70; (with_reducible refine (hasI_any _ _ _ _ _).mono ?_); rintro e w4 ⟨rfl, rfl⟩) | (go_at_call 71; (with_reducible refine (hasS_any _ _ _ _ _).mono ?_); rintro e w4 ⟨rfl, rfl⟩) | (go_at_call 72; (with_reducible refine (Fix.not_any p q _ (by omega) (by omega) (by omega) (by omega)).mono ?_); rintro e w4 ⟨rfl, rfl⟩) | (go_at_call 73; (with_reducible refine (Bnd.wit_any _ _ _ _ hbb).mono ?_); rintro e w4 ⟨rfl, rfl⟩))
    go_ret2
    exact made2 E.out b0
  cases h2 : inR sy.length s
  ·
    have E : Hid (lokF ac sy a s p q n t = (4, 0)) := lok_4 HN.out h1 h2
    go_wp2_with (first | (go_at_call 70; (with_reducible refine (hasI_any _ _ _ _ _).mono ?_); rintro e w4 ⟨rfl, rfl⟩) | (go_at_call 71; (with_reducible refine (hasS_any _ _ _ _ _).mono ?_); rintro e w4 ⟨rfl, rfl⟩) | (go_at_call 72; (with_reducible refine (Fix.not_any p q _ (by omega) (by omega) (by omega) (by omega)).mono ?_); rintro e w4 ⟨rfl, rfl⟩) | (go_at_call 73; (with_reducible refine (Bnd.wit_any _ _ _ _ hbb).mono ?_); rintro e w4 ⟨rfl, rfl⟩))
    go_ret2
    exact made2 E.out b0
  obtain ⟨hs0, hs1⟩ := inR_of h2
  obtain ⟨b, o, rfl, hb, hcc⟩ := Smb.at (i := s.toNat) s0.out (by omega)
  obtain ⟨r0, r1, r2, r3⟩ := hcc s.toNat (by omega)
  have hbb : sB sy s.toNat < 18446744073709551616 := (hwf.out s.toNat (by omega)).2.2.2
  clear hcc
  have bs : Below w.heap.size w (W0.alloc (.cells #[.int .i64 (sP sy s.toNat), .int .i64 (sQ sy s.toNat), .int .i64 (sW sy s.toNat), .float .f64 (sB sy s.toNat)] 85)) := b0.alloc b0.size _
  have f2 : (W0.alloc (.cells #[.int .i64 (sP sy s.toNat), .int .i64 (sQ sy s.toNat), .int .i64 (sW sy s.toNat), .float .f64 (sB sy s.toNat)] 85)).cell? ⟨w.heap.size + 1, 3, none⟩ = some (.int .i64 p) := (World.cell?_alloc_lt W0 _ ⟨w.heap.size + 1, 3, none⟩ hsz).trans g3
  have f3 : (W0.alloc (.cells #[.int .i64 (sP sy s.toNat), .int .i64 (sQ sy s.toNat), .int .i64 (sW sy s.toNat), .float .f64 (sB sy s.toNat)] 85)).cell? ⟨w.heap.size + 1, 4, none⟩ = some (.int .i64 q) := (World.cell?_alloc_lt W0 _ ⟨w.heap.size + 1, 4, none⟩ hsz).trans g4
  by_cases h3 : sQ sy s.toNat < q
  ·
    have E : Hid (lokF ac sy a s p q n t = (5, 0)) := lok_5 HN.out h1 h2 h3
    go_wp2_with (first | (go_at_call 70; (with_reducible refine (hasI_any _ _ _ _ _).mono ?_); rintro e w4 ⟨rfl, rfl⟩) | (go_at_call 71; (with_reducible refine (hasS_any _ _ _ _ _).mono ?_); rintro e w4 ⟨rfl, rfl⟩) | (go_at_call 72; (with_reducible refine (Fix.not_any p q _ (by omega) (by omega) (by omega) (by omega)).mono ?_); rintro e w4 ⟨rfl, rfl⟩) | (go_at_call 73; (with_reducible refine (Bnd.wit_any _ _ _ _ hbb).mono ?_); rintro e w4 ⟨rfl, rfl⟩))
    go_ret2
    exact made2 E.out bs
  cases h4 : Fix.noB p q
  ·
    have E : Hid (lokF ac sy a s p q n t = (6, 0)) := lok_6 HN.out h1 h2 h3 h4
    go_wp2_with (first | (go_at_call 70; (with_reducible refine (hasI_any _ _ _ _ _).mono ?_); rintro e w4 ⟨rfl, rfl⟩) | (go_at_call 71; (with_reducible refine (hasS_any _ _ _ _ _).mono ?_); rintro e w4 ⟨rfl, rfl⟩) | (go_at_call 72; (with_reducible refine (Fix.not_any p q _ (by omega) (by omega) (by omega) (by omega)).mono ?_); rintro e w4 ⟨rfl, rfl⟩) | (go_at_call 73; (with_reducible refine (Bnd.wit_any _ _ _ _ hbb).mono ?_); rintro e w4 ⟨rfl, rfl⟩))
    go_ret2
    exact made2 E.out bs
  by_cases h5 : sW sy s.toNat < Fix.noV p q
  ·
    have E : Hid (lokF ac sy a s p q n t = (7, 0)) := lok_7 HN.out h1 h2 h3 h4 h5
    go_wp2_with (first | (go_at_call 70; (with_reducible refine (hasI_any _ _ _ _ _).mono ?_); rintro e w4 ⟨rfl, rfl⟩) | (go_at_call 71; (with_reducible refine (hasS_any _ _ _ _ _).mono ?_); rintro e w4 ⟨rfl, rfl⟩) | (go_at_call 72; (with_reducible refine (Fix.not_any p q _ (by omega) (by omega) (by omega) (by omega)).mono ?_); rintro e w4 ⟨rfl, rfl⟩) | (go_at_call 73; (with_reducible refine (Bnd.wit_any _ _ _ _ hbb).mono ?_); rintro e w4 ⟨rfl, rfl⟩))
    go_ret2
    exact made2 E.out bs
  cases h6 : witB (sP sy s.toNat) p (sB sy s.toNat)
  ·
    have E : Hid (lokF ac sy a s p q n t = (8, 0)) := lok_8 HN.out h1 h2 h3 h4 h5 h6
    go_wp2_with (first | (go_at_call 70; (with_reducible refine (hasI_any _ _ _ _ _).mono ?_); rintro e w4 ⟨rfl, rfl⟩) | (go_at_call 71; (with_reducible refine (hasS_any _ _ _ _ _).mono ?_); rintro e w4 ⟨rfl, rfl⟩) | (go_at_call 72; (with_reducible refine (Fix.not_any p q _ (by omega) (by omega) (by omega) (by omega)).mono ?_); rintro e w4 ⟨rfl, rfl⟩) | (go_at_call 73; (with_reducible refine (Bnd.wit_any _ _ _ _ hbb).mono ?_); rintro e w4 ⟨rfl, rfl⟩))
    go_ret2
    exact made2 E.out bs
  ·
    have E : Hid (lokF ac sy a s p q n t = (0, Fix.noV p q)) := lok_0 HN.out h1 h2 h3 h4 h5 h6
    go_wp2_with (first | (go_at_call 70; (with_reducible refine (hasI_any _ _ _ _ _).mono ?_); rintro e w4 ⟨rfl, rfl⟩) | (go_at_call 71; (with_reducible refine (hasS_any _ _ _ _ _).mono ?_); rintro e w4 ⟨rfl, rfl⟩) | (go_at_call 72; (with_reducible refine (Fix.not_any p q _ (by omega) (by omega) (by omega) (by omega)).mono ?_); rintro e w4 ⟨rfl, rfl⟩) | (go_at_call 73; (with_reducible refine (Bnd.wit_any _ _ _ _ hbb).mono ?_); rintro e w4 ⟨rfl, rfl⟩))
    go_ret2
    exact made2 E.out bs

theorem sha_n {sh : Int} {n : Nat} {a : Int} (h : sh < 1 ∨ inR n a = false) : shaF sh n a = -1 := by unfold shaF; rw [if_pos h]
theorem sha_y {sh : Int} {n : Nat} {a : Int} (h : 1 ≤ sh) (h' : inR n a = true) : shaF sh n a = a % sh := by
  unfold shaF; rw [if_neg]; rw [h']; intro e; rcases e with e | e
  · omega
  · exact absurd e (by decide)
theorem shard_any (sh wi ra ta : Int) (A B C : Option Addr) (c d f : Nat) (nd : List (Int × Int)) (ac : List Int) (sy : List (Int × Int × Int × Nat)) (a : Int) (w : World) (hsh : inI sh) (hmay : (ac.length : Int) ≤ 1000000) :
    Calls Try.prog 50 #[.agg #[.int .i64 sh, .int .i64 wi, .int .i64 ra, .int .i64 ta, .slice A nd.length c, .slice B ac.length d, .slice C sy.length f], .int .i64 a] w (MadeX (shaF sh ac.length a) w) := by
  obtain ⟨hh0, hh1⟩ := hsh
  have b0 : Below w.heap.size w (w.alloc (.cells #[.int .i64 sh, .int .i64 wi, .int .i64 ra, .int .i64 ta, .slice A nd.length c, .slice B ac.length d, .slice C sy.length f] 39)) := (Below.refl _ _).alloc (Nat.le_refl _) _
  by_cases h0 : sh < 1
  · have E : Hid (shaF sh ac.length a = -1) := sha_n (.inl h0)
    go_enter Try.func50, Try.ntmps50
    go_wp2_with (go_at_call 70; (with_reducible refine (hasI_any _ _ _ _ _).mono ?_); rintro e w4 ⟨rfl, rfl⟩)
    go_ret
    exact madeX_mk E.out b0
  cases h1 : inR ac.length a
  · have E : Hid (shaF sh ac.length a = -1) := sha_n (.inr h1)
    go_enter Try.func50, Try.ntmps50
    go_wp2_with (go_at_call 70; (with_reducible refine (hasI_any _ _ _ _ _).mono ?_); rintro e w4 ⟨rfl, rfl⟩)
    go_ret
    exact madeX_mk E.out b0
  · obtain ⟨ha0, ha1⟩ := inR_of h1
    have E : Hid (shaF sh ac.length a = a % sh) := sha_y (by omega) h1
    have hz : ¬ sh = 0 := by omega
    have hz1 : (sh == 0) = false := beq_eq_false_iff_ne.2 (by omega)
    go_enter Try.func50, Try.ntmps50
    go_wp2_with (go_at_call 70; (with_reducible refine (hasI_any _ _ _ _ _).mono ?_); rintro e w4 ⟨rfl, rfl⟩)
    go_ret
    exact madeX_mk E.out b0
def MadeO (a s : Int) (x : Bool) (p q n t : Int) (w : World) (e : Ending) (w' : World) : Prop := e = .returned (.agg #[.int .i64 a, .int .i64 s, .bool x, .int .i64 p, .int .i64 q, .int .i64 n, .int .i64 t]) ∧ Below w.heap.size w w'
theorem order_any (a s : Int) (x : Bool) (p q n t : Int) (w : World) :
    Calls Try.prog 15 #[.agg #[.int .i64 a, .int .i64 s, .bool x, .int .i64 p, .int .i64 q, .int .i64 n, .int .i64 t]] w (MadeO a s x p q n t w) := by
  go_enter Try.func15, Try.ntmps15
  go_wp2_with fail
  exact bodyPost_ret (v := .agg #[.int .i64 a, .int .i64 s, .bool x, .int .i64 p, .int .i64 q, .int .i64 n, .int .i64 t]) (by simp [results, Try.results15, go_sem]) rfl ⟨rfl, ((Below.refl _ _).alloc (Nat.le_refl _) _).alloc (by simp) _⟩
end Go.Proofs.Ytkmkaidhpbjbnaa.Rul3

/- Contracts of book's Look and Begin. Condition: the book lies in memory and is not long. -/
namespace Go.Proofs.Ytkmkaidhpbjbnaa.Bki
set_option maxRecDepth 100000
open Go.ChangeShapes Go.WideShapes Go.ChangeAt Go.RowKit Mem Tre Ref3 Law3 CrdB CrdC Bkp Bks Bkf Stk
set_option linter.unusedVariables false
set_option linter.unusedSimpArgs false
set_option maxHeartbeats 4000000 in
theorem look_any (sk wi ra ta : Int) (A1 A2 A3 : Option Addr) (n1 n2 n3 c1 c2 c3 : Nat) (A C : Option Addr) (nr no c d : Nat) (rl : List Rc) (bk : Bk) (od : Od) (w : World) (sh ca : Int) (hsh : Hid (sh = bk.sh ∧ ca = bk.ca)) (hnr : Hid (nr = bk.rows.length)) (hno : Hid (no = bk.op.length)) (hm : Hid (Bm w A C rl bk)) (hf : Hid (FewB bk)) :
    Calls Try.prog 51 #[.agg #[.int .i64 sk, .int .i64 wi, .int .i64 ra, .int .i64 ta, .slice A1 n1 c1, .slice A2 n2 c2, .slice A3 n3 c3], .agg #[.int .i64 sh, .int .i64 ca, .slice A nr c, .slice C no d], odA od] w (fun r w' => r = .returned (.int .i64 (lookF ra ta bk od)) ∧ Below w.heap.size w w') := by
  obtain ⟨a, s, x, p, q, n, t⟩ := od
  show Calls Try.prog 51 #[.agg #[.int .i64 sk, .int .i64 wi, .int .i64 ra, .int .i64 ta, .slice A1 n1 c1, .slice A2 n2 c2, .slice A3 n3 c3], .agg #[.int .i64 sh, .int .i64 ca, .slice A nr c, .slice C no d], .agg #[.int .i64 a, .int .i64 s, .bool x, .int .i64 p, .int .i64 q, .int .i64 n, .int .i64 t]] w (fun r w' => r = .returned (.int .i64 (lookF ra ta bk ⟨a, s, x, p, q, n, t⟩)) ∧ Below w.heap.size w w')
  have b0 : Hid (Below w.heap.size w (((w.alloc (.cells #[.int .i64 sk, .int .i64 wi, .int .i64 ra, .int .i64 ta, .slice A1 n1 c1, .slice A2 n2 c2, .slice A3 n3 c3] 39)).alloc (.cells #[.int .i64 sh, .int .i64 ca, .slice A nr c, .slice C no d] 58)).alloc (.cells #[.int .i64 a, .int .i64 s, .bool x, .int .i64 p, .int .i64 q, .int .i64 n, .int .i64 t] 48))) := (((Below.refl _ _).alloc (Nat.le_refl _) _).alloc (by simp) _).alloc (by simp <;> omega) _
  have K0 : Hid (Blk (((w.alloc (.cells #[.int .i64 sk, .int .i64 wi, .int .i64 ra, .int .i64 ta, .slice A1 n1 c1, .slice A2 n2 c2, .slice A3 n3 c3] 39)).alloc (.cells #[.int .i64 sh, .int .i64 ca, .slice A nr c, .slice C no d] 58)).alloc (.cells #[.int .i64 a, .int .i64 s, .bool x, .int .i64 p, .int .i64 q, .int .i64 n, .int .i64 t] 48)) w.heap.size 39 #[.int .i64 sk, .int .i64 wi, .int .i64 ra, .int .i64 ta, .slice A1 n1 c1, .slice A2 n2 c2, .slice A3 n3 c3]) := ((Blk.fresh w _ _).alloc _).alloc _
  have K1 : Hid (Blk (((w.alloc (.cells #[.int .i64 sk, .int .i64 wi, .int .i64 ra, .int .i64 ta, .slice A1 n1 c1, .slice A2 n2 c2, .slice A3 n3 c3] 39)).alloc (.cells #[.int .i64 sh, .int .i64 ca, .slice A nr c, .slice C no d] 58)).alloc (.cells #[.int .i64 a, .int .i64 s, .bool x, .int .i64 p, .int .i64 q, .int .i64 n, .int .i64 t] 48)) (w.heap.size + 1) 58 #[.int .i64 sh, .int .i64 ca, .slice A nr c, .slice C no d]) := Blk.alloc (blk_hd (by simp)) _
  have K2 : Hid (Blk (((w.alloc (.cells #[.int .i64 sk, .int .i64 wi, .int .i64 ra, .int .i64 ta, .slice A1 n1 c1, .slice A2 n2 c2, .slice A3 n3 c3] 39)).alloc (.cells #[.int .i64 sh, .int .i64 ca, .slice A nr c, .slice C no d] 58)).alloc (.cells #[.int .i64 a, .int .i64 s, .bool x, .int .i64 p, .int .i64 q, .int .i64 n, .int .i64 t] 48)) (w.heap.size + 2) 48 #[.int .i64 a, .int .i64 s, .bool x, .int .i64 p, .int .i64 q, .int .i64 n, .int .i64 t]) := blk_hd (by simp)
  have HM := Lib.hid (hm.out.below b0.out)
  go_enter Try.func51, Try.ntmps51
  go_upto_region 1 with fail
  clear hm
  generalize (((w.alloc (.cells #[.int .i64 sk, .int .i64 wi, .int .i64 ra, .int .i64 ta, .slice A1 n1 c1, .slice A2 n2 c2, .slice A3 n3 c3] 39)).alloc (.cells #[.int .i64 sh, .int .i64 ca, .slice A nr c, .slice C no d] 58)).alloc (.cells #[.int .i64 a, .int .i64 s, .bool x, .int .i64 p, .int .i64 q, .int .i64 n, .int .i64 t] 48)) = w0 at b0 K0 K1 K2 HM ⊢
  obtain ⟨gCf, hgCf⟩ : ∃ g, g = w.heap.size := ⟨_, rfl⟩
  obtain ⟨gB, hgB⟩ : ∃ g, g = w.heap.size + 1 := ⟨_, rfl⟩
  obtain ⟨gO, hgO⟩ : ∃ g, g = w.heap.size + 2 := ⟨_, rfl⟩
  have J0 : Hid (Blk w0 gCf 39 #[.int .i64 sk, .int .i64 wi, .int .i64 ra, .int .i64 ta, .slice A1 n1 c1, .slice A2 n2 c2, .slice A3 n3 c3]) := by rw [hgCf]; exact K0.out
  have J1 : Hid (Blk w0 gB 58 #[.int .i64 sh, .int .i64 ca, .slice A nr c, .slice C no d]) := by rw [hgB]; exact K1.out
  have J2 : Hid (Blk w0 gO 48 #[.int .i64 a, .int .i64 s, .bool x, .int .i64 p, .int .i64 q, .int .i64 n, .int .i64 t]) := by rw [hgO]; exact K2.out
  simp only [← hgO]
  simp only [← hgB]
  simp only [← hgCf]
  clear hgCf hgB hgO K0 K1 K2
  obtain ⟨e0, e1, e2, e3, e4, e5, e6⟩ := q7_of J0.out
  obtain ⟨k0, k1, k2, k3⟩ := q4_of J1.out
  obtain ⟨o0, o1, o2, o3, o4, o5, o6⟩ := q7_of J2.out
  go_wp2_with fail
  refine (hasR_any A nr c a _).mono ?_
  by_cases hin : inQ nr a = true
  case neg =>
    have hfin : Hid (lookF ra ta bk ⟨a, s, x, p, q, n, t⟩ = 3) := by
      show _ = _
      unfold lookF
      rw [← hnr.out]
      simp only [] at hin ⊢
      rw [if_neg hin]
    have hin' : inQ nr a = false := by simpa using hin
    rw [hin']
    clear hin hin'
    rintro e w1 ⟨rfl, rfl⟩
    go_wp2_with fail
    go_ret
    exact ⟨congrArg Ending.returned (congrArg (Value.int .i64) hfin.out.symm), b0.out⟩
  case pos =>
    have hia := inQ_of hin
    obtain ⟨i, hi⟩ : ∃ i : Nat, a = i := ⟨a.toNat, by omega⟩
    subst hi
    have hlt : i < nr := by omega
    have HIN := Lib.hid hin
    rw [hin]
    clear hin hia
    rintro e w1 ⟨rfl, rfl⟩
    have hlr : Hid (i < rl.length) := by show _ < _; rw [HM.out.len, ← hnr.out]; exact hlt
    obtain ⟨b, o, hA, hb, hcc⟩ := Rcs.at HM.out.r (by have := hlr.out; omega)
    have hcs := hcc i hlr.out
    have HR := Lib.hid (gC_row HM.out.e hlr.out)
    have HN := Lib.hid (HM.out.n i hlr.out)
    have HL := Lib.hid (hf.out.nl i (by rw [← hnr.out]; exact hlt))
    subst hA
    have HLK : Hid (lookF ra ta bk ⟨(i : Int), s, x, p, q, n, t⟩ = (if (gR bk.rows i).ns.contains n = true then 9
     else if t < (gR bk.rows i).sec then 10
     else if t = (gR bk.rows i).sec ∧ ra ≤ (gR bk.rows i).cnt then 10
     else if ta ≤ bk.op.length then 11 else 0)) := by
      show _ = _
      unfold lookF
      rw [← hnr.out]
      simp only []
      rw [if_pos HIN.out, Int.toNat_natCast]
    rw [← HR.out] at HLK HL
    rw [← hno.out] at HLK
    clear hcc HIN HR HM
    generalize gC rl i = R at hcs HN HL HLK
    obtain ⟨An, cn, ns, sec, cnt⟩ := R
    obtain ⟨r0, r1, r2⟩ := hcs
    simp only [] at r0 r1 r2 HN HL HLK
    obtain ⟨nn, hnn⟩ : ∃ nn, nn = ns.length := ⟨_, rfl⟩
    rw [← hnn] at r0 HL
    have HNN := Lib.hid hnn
    clear hnn
    have bA : Hid (Below w.heap.size w (w1.alloc (.cells #[.slice An nn cn, .int .i64 sec, .int .i64 cnt] 138))) := b0.out.alloc b0.out.size _
    have KA : Hid (Blk (w1.alloc (.cells #[.slice An nn cn, .int .i64 sec, .int .i64 cnt] 138)) w1.heap.size 138 #[.slice An nn cn, .int .i64 sec, .int .i64 cnt]) := Blk.fresh _ _ _
    have U0 : Below w1.heap.size w1 (w1.alloc (.cells #[.slice An nn cn, .int .i64 sec, .int .i64 cnt] 138)) := (Below.refl _ _).alloc (Nat.le_refl _) _
    have L0 : Hid (Blk (w1.alloc (.cells #[.slice An nn cn, .int .i64 sec, .int .i64 cnt] 138)) gCf 39 #[.int .i64 sk, .int .i64 wi, .int .i64 ra, .int .i64 ta, .slice A1 n1 c1, .slice A2 n2 c2, .slice A3 n3 c3]) := Blk.below' J0.out U0
    have L1 : Hid (Blk (w1.alloc (.cells #[.slice An nn cn, .int .i64 sec, .int .i64 cnt] 138)) gB 58 #[.int .i64 sh, .int .i64 ca, .slice (some ⟨b, o, none⟩) nr c, .slice C no d]) := Blk.below' J1.out U0
    have L2 : Hid (Blk (w1.alloc (.cells #[.slice An nn cn, .int .i64 sec, .int .i64 cnt] 138)) gO 48 #[.int .i64 (i : Int), .int .i64 s, .bool x, .int .i64 p, .int .i64 q, .int .i64 n, .int .i64 t]) := Blk.below' J2.out U0
    have HNA : Hid (Ris (w1.alloc (.cells #[.slice An nn cn, .int .i64 sec, .int .i64 cnt] 138)) (w1.alloc (.cells #[.slice An nn cn, .int .i64 sec, .int .i64 cnt] 138)).heap.size An ns) := Rd.below' HN.out U0 U0.size
    go_upto_region 4 with fail
    clear U0 J0 J1 J2 HN e0 e1 e2 e3 e4 e5 e6 k0 k1 k2 k3 o0 o1 o2 o3 o4 o5 o6 b0
    generalize w1.alloc (.cells #[.slice An nn cn, .int .i64 sec, .int .i64 cnt] 138) = w2 at bA KA L0 L1 L2 HNA ⊢
    generalize w1.heap.size = gR' at KA ⊢
    obtain ⟨e0, e1, e2, e3, e4, e5, e6⟩ := q7_of L0.out
    obtain ⟨k0, k1, k2, k3⟩ := q4_of L1.out
    obtain ⟨o0, o1, o2, o3, o4, o5, o6⟩ := q7_of L2.out
    obtain ⟨m0, m1, m2⟩ := q3_of KA.out
    go_wp2_with fail
    refine (contains_any An nn cn ns n _ HNN HNA (by have := HL.out; omega)).mono ?_
    by_cases c1 : ns.contains n = true
    · rw [c1]
      have hfin : Hid (lookF ra ta bk ⟨(i : Int), s, x, p, q, n, t⟩ = 9) := by show _ = _; rw [HLK.out, if_pos c1]
      clear c1
      rintro e w3 ⟨rfl, rfl⟩
      go_wp2_with fail
      go_ret
      exact ⟨congrArg Ending.returned (congrArg (Value.int .i64) hfin.out.symm), bA.out⟩
    · have c1' : ns.contains n = false := by simpa using c1
      rw [c1']
      have HL2 : Hid (lookF ra ta bk ⟨(i : Int), s, x, p, q, n, t⟩ = (if t < sec then 10 else if t = sec ∧ ra ≤ cnt then 10 else if ta ≤ (no : Int) then 11 else 0)) := by show _ = _; rw [HLK.out, if_neg c1]
      clear c1 c1' HLK
      rintro e w3 ⟨rfl, rfl⟩
      by_cases c2 : t < sec
      · have t2 : decide (t < sec) = true := by simp [c2]
        have hfin : Hid (lookF ra ta bk ⟨(i : Int), s, x, p, q, n, t⟩ = 10) := by show _ = _; rw [HL2.out, if_pos c2]
        go_wp2_with fail
        go_ret
        exact ⟨congrArg Ending.returned (congrArg (Value.int .i64) hfin.out.symm), bA.out⟩
      · have t2 : decide (t < sec) = false := by simp [c2]
        by_cases c3 : t = sec
        · have t3 : (t == sec) = true := by simp [c3]
          by_cases c4 : ra ≤ cnt
          · have t4 : decide (ra ≤ cnt) = true := by simp [c4]
            have hfin : Hid (lookF ra ta bk ⟨(i : Int), s, x, p, q, n, t⟩ = 10) := by show _ = _; rw [HL2.out, if_neg c2, if_pos ⟨c3, c4⟩]
            clear c3
            go_wp2_with fail
            go_ret
            exact ⟨congrArg Ending.returned (congrArg (Value.int .i64) hfin.out.symm), bA.out⟩
          · have t4 : decide (ra ≤ cnt) = false := by simp [c4]
            by_cases c5 : ta ≤ (no : Int)
            · have t5 : decide (ta ≤ (no : Int)) = true := by simp [c5]
              have hfin : Hid (lookF ra ta bk ⟨(i : Int), s, x, p, q, n, t⟩ = 11) := by show _ = _; rw [HL2.out, if_neg c2, if_neg (fun h => c4 h.2), if_pos c5]
              clear c3
              go_wp2_with fail
              go_ret
              exact ⟨congrArg Ending.returned (congrArg (Value.int .i64) hfin.out.symm), bA.out⟩
            · have t5 : decide (ta ≤ (no : Int)) = false := by simp [c5]
              have hfin : Hid (lookF ra ta bk ⟨(i : Int), s, x, p, q, n, t⟩ = 0) := by show _ = _; rw [HL2.out, if_neg c2, if_neg (fun h => c4 h.2), if_neg c5]
              clear c3
              go_wp2_with fail
              go_ret
              exact ⟨congrArg Ending.returned (congrArg (Value.int .i64) hfin.out.symm), bA.out⟩
        · have t3 : (t == sec) = false := by simp [c3]
          by_cases c5 : ta ≤ (no : Int)
          · have t5 : decide (ta ≤ (no : Int)) = true := by simp [c5]
            have hfin : Hid (lookF ra ta bk ⟨(i : Int), s, x, p, q, n, t⟩ = 11) := by show _ = _; rw [HL2.out, if_neg c2, if_neg (fun h => c3 h.1), if_pos c5]
            go_wp2_with fail
            go_ret
            exact ⟨congrArg Ending.returned (congrArg (Value.int .i64) hfin.out.symm), bA.out⟩
          · have t5 : decide (ta ≤ (no : Int)) = false := by simp [c5]
            have hfin : Hid (lookF ra ta bk ⟨(i : Int), s, x, p, q, n, t⟩ = 0) := by show _ = _; rw [HL2.out, if_neg c2, if_neg (fun h => c3 h.1), if_neg c5]
            go_wp2_with fail
            go_ret
            exact ⟨congrArg Ending.returned (congrArg (Value.int .i64) hfin.out.symm), bA.out⟩
end Go.Proofs.Ytkmkaidhpbjbnaa.Bki

/- The contract of credit.Reserve once more, with where its answer lies: in new blocks. Condition: as there. -/
namespace Go.Proofs.Ytkmkaidhpbjbnaa.Rsf
set_option maxRecDepth 100000
open Go.ChangeShapes Go.WideShapes Go.ChangeAt Go.RowKit Mem Tre Ref3 Law3 Fix3 Crd CrdB CrdC Cpl Own Res
set_option linter.unusedVariables false

def MadeResF (l : List (Int × Int)) (u : List Int) (p : Int × Int) (w : World) (e : Ending) (w' : World) : Prop :=
  ∃ A c A' c', e = .returned (.tuple #[.agg #[.slice A l.length c, .slice A' u.length c'], .int .i64 p.1, .int .i64 p.2]) ∧ Nds w' w'.heap.size A l ∧ Ris w' w'.heap.size A' u ∧ Below w.heap.size w w' ∧
    (∀ a, A = some a → w.heap.size ≤ a.block) ∧ (∀ a, A' = some a → w.heap.size ≤ a.block)
theorem madeResF_mk {l : List (Int × Int)} {u u' : List Int} {p : Int × Int} {a b : Int} {A A' : Option Addr} {c c' : Nat} {w w' : World} (fa : ∀ a, A = some a → w.heap.size ≤ a.block) (fb : ∀ a, A' = some a → w.heap.size ≤ a.block) (hu : u = u') (hp : p = (a, b)) (h1 : Nds w' w'.heap.size A l) (h2 : Ris w' w'.heap.size A' u') (hb : Below w.heap.size w w') :
    MadeResF l u p w (.returned (.tuple #[.agg #[.slice A l.length c, .slice A' u'.length c'], .int .i64 a, .int .i64 b])) w' := by
  subst hu; subst hp; exact ⟨A, c, A', c', rfl, h1, h2, hb, fa, fb⟩
theorem own_fresh {w : World} {base : Nat} {e : TypeId} {size n c : Nat} {A : Option Addr} {xs : List Value} (h : w.ownsRow base e size (.slice A n c) n xs) (a : Addr) (ha : A = some a) : base ≤ a.block := by
  rcases h.2 with ⟨hv, _⟩ | ⟨g, cap, cur, hv, hg, _⟩
  · injection hv with hA
    rw [ha] at hA
    cases hA
  · injection hv with hA
    rw [ha] at hA
    injection hA with hA
    subst hA
    exact hg

set_option maxHeartbeats 1000000 in
theorem reserve_fresh (A A' : Option Addr) (c c' : Nat) (l : List (Int × Int)) (u : List Int) (n x : Int) (w : World) (hl : Hid (Nds w w.heap.size A l)) (hu : Hid (Ris w w.heap.size A' u)) (hg : GoodSt l u) (hn : inI n) (hx0 : -9223372036854775808 ≤ x) (hx1 : x ≤ 9223372036854775807) :
    Calls Try.prog 52 #[.agg #[.slice A l.length c, .slice A' u.length c'], .int .i64 n, .int .i64 x] w (MadeResF l (resU l u n x) (resF l u n x) w) := by
  have hr := Lib.hid hg.right
  have hw := Lib.hid hg.wf
  have hwu := Lib.hid hg.wfi
  have g1 := hg.few
  have g2 : (l.length : Int) ≤ 32 := by omega
  have g3 : (u.length : Int) ≤ 32 := by rw [hg.len]; omega
  have HG := Lib.hid hg
  obtain ⟨P, hP⟩ : ∃ P, P = pathF l 3 n := ⟨_, rfl⟩
  have HP := Lib.hid hP
  have p1 : P.length ≤ 3 := by rw [hP]; exact path_le3 _ _ _
  clear hP hg
  go_enter Try.func52, Try.ntmps52
  go_wp2_with fail
  refine (start_own A A' c c' l u w hl hu g2 g3).mono ?_
  rintro e w1 ⟨A1, c1, A2, c2, rfl, hpre⟩
  have f0 : w1.cell? ⟨w.heap.size, 0, none⟩ = some (.slice A l.length c) := hpre.k3.cell 0
  have f1 : w1.cell? ⟨w.heap.size, 1, none⟩ = some (.slice A' u.length c') := hpre.k3.cell 1
  have z0 : w1.frozen? ⟨w.heap.size, 0, none⟩ = false := hpre.k3.thaw 0
  have z1 : w1.frozen? ⟨w.heap.size, 1, none⟩ = false := hpre.k3.thaw 1
  have how := Lib.hid hpre.store
  have FA : Hid (∀ a, A1 = some a → w.heap.size ≤ a.block) := fun a h => by have := own_fresh hpre.o1 a h; omega
  have FB : Hid (∀ a, A2 = some a → w.heap.size ≤ a.block) := fun a h => by have := own_fresh hpre.o2 a h; omega
  clear hpre hl hu
  go_wp2_with fail
  generalize (w1.setCell ⟨w.heap.size, 0, none⟩ (.slice A1 l.length c1)).setCell ⟨w.heap.size, 1, none⟩ (.slice A2 u.length c2) = W2 at how ⊢
  clear f0 f1 z0 z1
  refine (pathOf_any A1 A2 c1 c2 l u n W2 (Rd.of_own how.out.o1) (Rd.of_own how.out.o2) hw hwu (by omega) (by omega) hn hr.out).mono ?_
  rintro e W3 ⟨A3, c3, rfl, hr3, hf3, hb3⟩
  have HF3 := Lib.hid hf3
  have hob : Hid (W2.ownsRow (w.heap.size + 2) 2 1 (.slice A2 u.length c2) u.length (ints u)) := how.out.o2
  have hsz2 : w.heap.size + 2 ≤ W2.heap.size := how.out.k6.lt
  rw [← HP.out] at hr3 ⊢
  have HR := Lib.hid hr3
  have how3 := Lib.hid (how.out.below hb3)
  clear how hr3 hb3 hf3
  have f0 : W3.cell? ⟨w.heap.size, 0, none⟩ = some (.slice A1 l.length c1) := how3.out.k3.cell 0
  have f1 : W3.cell? ⟨w.heap.size, 1, none⟩ = some (.slice A2 u.length c2) := how3.out.k3.cell 1
  have r0 : W3.cell? ⟨w.heap.size + 1, 0, none⟩ = some (.slice none 0 0) := how3.out.k6.cell 0
  have r1 : W3.cell? ⟨w.heap.size + 1, 1, none⟩ = some (.slice none 0 0) := how3.out.k6.cell 1
  have y0 : W3.frozen? ⟨w.heap.size + 1, 0, none⟩ = false := how3.out.k6.thaw 0
  have y1 : W3.frozen? ⟨w.heap.size + 1, 1, none⟩ = false := how3.out.k6.thaw 1
  by_cases hp0 : P.length = 0
  · have q0 : ((P.length : Int) == 0) = true := beq_iff_eq.2 (by omega)
    have hres : Hid (resF l u n x = (18, -1)) := by show _ = _; rw [resF, ← HP.out, if_pos hp0]
    have hresu : Hid (resU l u n x = u) := by show _ = _; rw [resU, hres.out]; rfl
    obtain ⟨t1, t2, t3, t4, t5⟩ := fin_st how3.out.o1 how3.out.o2 how3.out.k6 (by omega) (by omega) how3.out.bl (.slice A1 l.length c1) (.slice A2 u.length c2)
    have T1 := Lib.hid t1
    have T2 := Lib.hid t2
    clear hp0 t1 t2
    go_wp2_with fail
    exact bodyPost_ret (v := .tuple #[.agg #[.slice A1 l.length c1, .slice A2 u.length c2], .int .i64 18, .int .i64 (-1)]) (by simp [results, Try.results52, go_sem, t4, t5]) rfl (madeResF_mk FA.out FB.out hresu.out hres.out T1.out T2.out t3)
  have q0 : ((P.length : Int) == 0) = false := beq_eq_false_iff_ne.2 (by omega)
  by_cases hx : x < 0
  · have hres : Hid (resF l u n x = (1, -1)) := by show _ = _; rw [resF, ← HP.out, if_neg hp0, if_pos hx]
    have hresu : Hid (resU l u n x = u) := by show _ = _; rw [resU, hres.out]; rfl
    obtain ⟨t1, t2, t3, t4, t5⟩ := fin_st how3.out.o1 how3.out.o2 how3.out.k6 (by omega) (by omega) how3.out.bl (.slice A1 l.length c1) (.slice A2 u.length c2)
    have T1 := Lib.hid t1
    have T2 := Lib.hid t2
    clear hp0 t1 t2
    go_wp2_with fail
    exact bodyPost_ret (v := .tuple #[.agg #[.slice A1 l.length c1, .slice A2 u.length c2], .int .i64 1, .int .i64 (-1)]) (by simp [results, Try.results52, go_sem, t4, t5]) rfl (madeResF_mk FA.out FB.out hresu.out hres.out T1.out T2.out t3)
  have hres : Hid (resF l u n x = resS l u x P 12) := by show _ = _; rw [resF, ← HP.out, if_neg hp0, if_neg hx]
  have how4 := Lib.hid (how3.out.below ((Below.refl _ _).alloc (Nat.le_refl _) (.cells #[.int .i64 12, .int .i64 13, .int .i64 14] 149)))
  have HR4 : Hid (Ris (W3.alloc (.cells #[.int .i64 12, .int .i64 13, .int .i64 14] 149)) (W3.alloc (.cells #[.int .i64 12, .int .i64 13, .int .i64 14] 149)).heap.size A3 P) := Rd.below' HR.out ((Below.refl _ _).alloc (Nat.le_refl _) _) (by simp)
  have KR : Hid (Blk (W3.alloc (.cells #[.int .i64 12, .int .i64 13, .int .i64 14] 149)) W3.heap.size 149 #[.int .i64 12, .int .i64 13, .int .i64 14]) := Blk.fresh _ _ _
  have hxf : decide (x < 0) = false := by simp; omega
  have happ : Hid (Apart u.length P) := by rw [HP.out]; exact apart_path HG.out.okt HG.out.len n
  clear hp0 f0 f1 r0 r1 y0 y1
  go_wp2_with fail
  generalize W3.alloc (.cells #[.int .i64 12, .int .i64 13, .int .i64 14] 149) = W4 at how4 HR4 KR ⊢
  have hgR : w.heap.size + 1 < W3.heap.size := how3.out.k6.lt
  generalize W3.heap.size = gR at KR hgR ⊢
  have f0 : W4.cell? ⟨w.heap.size, 0, none⟩ = some (.slice A1 l.length c1) := how4.out.k3.cell 0
  have f1 : W4.cell? ⟨w.heap.size, 1, none⟩ = some (.slice A2 u.length c2) := how4.out.k3.cell 1
  have ho2b := fun k hk => (World.ownsRow.lt hob.out k hk).2
  obtain ⟨g2, rfl, hg2a, hg2b, _, hc2, hs2⟩ := own_at how4.out.o2 (by rw [HG.out.len]; have := HG.out.one; omega)
  obtain ⟨h1, rfl, hg1a, hg1b, _, hc1, hs1⟩ := own_at2 how4.out.o1 (by have := HG.out.one; omega)
  have hg2w : g2 < W2.heap.size := ho2b g2 rfl
  have HC1 := Lib.hid hc1
  have HC2 := Lib.hid hc2
  clear ho2b
  have HS2 := Lib.hid hs2
  clear hc1 hc2 hs1 hs2
  go_loopg [32] P.length (fun g s32 w' => ∃ k : Nat, k + g = P.length ∧ s32 = .int .i64 k ∧ Hid (resS l u x (P.drop k) (12 + k) = resS l u x P 12) ∧ W4 = w')
  case atStart => exact ⟨0, by omega, rfl, rfl, rfl⟩
  case round =>
    obtain ⟨k, hk, rfl, hall, rfl⟩ := hrel
    by_cases hlt : (k : Int) < (P.length : Int)
    · obtain ⟨g, rfl⟩ : ∃ g, gk = g + 1 := ⟨gk - 1, by omega⟩
      have hm := happ.out.1 k (by omega)
      obtain ⟨m, hmm⟩ : ∃ m, m = gI P k := ⟨_, rfl⟩
      have HM := Lib.hid hmm
      rw [← hmm] at hm
      obtain ⟨hm0, hm1⟩ := hm
      obtain ⟨b, o, rfl, hb, hcc⟩ := Ris.at (i := k) HR4.out (by omega)
      have d0 := hcc k (by omega)
      rw [← hmm] at d0
      have hml : m.toNat < l.length := by rw [← HG.out.len]; omega
      have hml' : m < l.length := by omega
      have d1 := (HC2.out m.toNat (by omega)).1
      have d2 := (HC1.out m.toNat hml).2.1
      have hu1 := HG.out.uok m.toNat (by omega)
      have hl1 := HG.out.okt m.toNat hml
      obtain ⟨hu1a, hu1b⟩ := hu1
      obtain ⟨_, _, hl1a, hl1b, _⟩ := hl1
      clear hcc hmm
      by_cases hfit : nC l m.toNat - gI u m.toNat < x
      · have hres' : Hid (resF l u n x = (12 + (k : Int), m)) := by
          show _ = _
          rw [hres.out, ← hall.out, resS_no (by omega) (by rw [← HM.out]; exact hfit), HM.out]
        have hresu : Hid (resU l u n x = u) := by
          show _ = _
          rw [resU, hres'.out, if_neg (by show ¬ (12 + (k : Int)) = 0; omega)]
        obtain ⟨t1, t2, t3, t4, t5⟩ := fin_st how4.out.o1 how4.out.o2 how4.out.k6 (by omega) (by omega) how4.out.bl (.slice (some ⟨h1, 0, none⟩) l.length c1) (.slice (some ⟨g2, 0, none⟩) u.length c2)
        have T1 := Lib.hid t1
        have T2 := Lib.hid t2
        have r0 : W4.cell? ⟨w.heap.size + 1, 0, none⟩ = some (.slice none 0 0) := how4.out.k6.cell 0
        have r1 : W4.cell? ⟨w.heap.size + 1, 1, none⟩ = some (.slice none 0 0) := how4.out.k6.cell 1
        have y0 : W4.frozen? ⟨w.heap.size + 1, 0, none⟩ = false := how4.out.k6.thaw 0
        have y1 : W4.frozen? ⟨w.heap.size + 1, 1, none⟩ = false := how4.out.k6.thaw 1
        have hk3 : (k : Int) < 3 := by omega
        have hk3' : k < 3 := by omega
        have e0 : W4.cell? ⟨gR, k, none⟩ = some (.int .i64 (12 + (k : Int))) := by
          rw [KR.out.cell]
          have : k = 0 ∨ k = 1 ∨ k = 2 := by omega
          rcases this with rfl | rfl | rfl <;> rfl
        have e1 : ((W4.setCell ⟨w.heap.size + 1, 0, none⟩ (.slice (some ⟨h1, 0, none⟩) l.length c1)).setCell ⟨w.heap.size + 1, 1, none⟩ (.slice (some ⟨g2, 0, none⟩) u.length c2)).cell? ⟨gR, k, none⟩ = some (.int .i64 (12 + (k : Int))) := by
          rw [(blk_far (blk_far KR.out (p := ⟨w.heap.size + 1, 0, none⟩) (by simp; omega) _) (p := ⟨w.heap.size + 1, 1, none⟩) (by simp; omega) _).cell, ← KR.out.cell]
          exact e0
        clear t1 t2
        by_cases hbig : gI u m.toNat + x ≤ 9223372036854775807
        · have i1 : inB (gI u m.toNat + x) = true := inB_t (by omega) hbig
          have i2 : numV (gI u m.toNat + x) = gI u m.toNat + x := numV_t i1
          go_wp2_with (go_at_call 78; refine (add_any _ _ _ (by omega) (by omega) (by omega) (by omega)).mono ?_; rintro e w' ⟨rfl, rfl⟩)
          go_region
          all_goals
            go_wp2_with fail
            exact bodyPost_ret (v := .tuple #[.agg #[.slice (some ⟨h1, 0, none⟩) l.length c1, .slice (some ⟨g2, 0, none⟩) u.length c2], .int .i64 (12 + (k : Int)), .int .i64 m]) (by simp [results, Try.results52, go_sem, t4, t5]) rfl (madeResF_mk FA.out FB.out hresu.out hres'.out T1.out T2.out t3.drew)
        · have i1 : inB (gI u m.toNat + x) = false := inB_f (by omega)
          go_wp2_with (go_at_call 78; refine (add_any _ _ _ (by omega) (by omega) (by omega) (by omega)).mono ?_; rintro e w' ⟨rfl, rfl⟩)
          go_region
          all_goals
            go_wp2_with fail
            exact bodyPost_ret (v := .tuple #[.agg #[.slice (some ⟨h1, 0, none⟩) l.length c1, .slice (some ⟨g2, 0, none⟩) u.length c2], .int .i64 (12 + (k : Int)), .int .i64 m]) (by simp [results, Try.results52, go_sem, t4, t5]) rfl (madeResF_mk FA.out FB.out hresu.out hres'.out T1.out T2.out t3.drew)
      · have i1 : inB (gI u m.toNat + x) = true := inB_t (by omega) (by omega)
        have i2 : numV (gI u m.toNat + x) = gI u m.toNat + x := numV_t i1
        have hall' : Hid (resS l u x (P.drop (k + 1)) (12 + ((k + 1 : Nat) : Int)) = resS l u x P 12) := by
          show _ = _
          have hgo := resS_go (l := l) (u := u) (p := P) (x := x) (c := 12 + (k : Int)) (k := k) (by omega) (by rw [← HM.out]; exact hfit)
          rw [← hall.out, hgo]
          congr 1
        go_wp2_with (go_at_call 78; refine (add_any _ _ _ (by omega) (by omega) (by omega) (by omega)).mono ?_; rintro e w' ⟨rfl, rfl⟩)
        go_roundg g
        case measure => omega
        case rel => exact ⟨k + 1, by omega, by go_num, hall', rfl⟩
    · have hc0 : Hid (resF l u n x = (0, -1)) := by
        show _ = _
        rw [hres.out, ← hall.out, show k = P.length by omega]; exact resS_end
      have hcu : Hid (resU l u n x = addF u P x) := by
        show _ = _
        rw [resU, hc0.out, if_pos rfl, ← HP.out]
      have hokx : Hid (∀ i, i < P.length → x ≤ nC l (gI P i).toNat - gI u (gI P i).toNat) := by
        have h1 : (resS l u x P 12).1 = 0 := by rw [← hres.out, hc0.out]
        exact resS_ok P 12 (by decide) h1
      go_wp2_with fail
      go_loopg [67] P.length (fun g s67 w' => ∃ k : Nat, k + g = P.length ∧ s67 = .int .i64 k ∧ Hid (Owned w w' (some ⟨h1, 0, none⟩) (some ⟨g2, 0, none⟩) c1 c2 l (addF u (P.take k) x)) ∧ Hid (Ris w' w'.heap.size A3 P))
      case atStart => exact ⟨0, by omega, rfl, by rw [List.take_zero, addF_nil]; exact how4, HR4⟩
      case round =>
        obtain ⟨k, hk, rfl, how, HR⟩ := hrel
        have f0 : wr.cell? ⟨w.heap.size, 0, none⟩ = some (.slice (some ⟨h1, 0, none⟩) l.length c1) := how.out.k3.cell 0
        have f1 : wr.cell? ⟨w.heap.size, 1, none⟩ = some (.slice (some ⟨g2, 0, none⟩) u.length c2) := by
          have := how.out.k3.cell 1
          rw [addF_len] at this
          exact this
        by_cases hlt : (k : Int) < (P.length : Int)
        · obtain ⟨g, rfl⟩ : ∃ g, gk = g + 1 := ⟨gk - 1, by omega⟩
          have hm := happ.out.1 k (by omega)
          have hox := hokx.out k (by omega)
          have hat := addF_at (x := x) happ.out (show k < P.length by omega)
          have hstep := addF_step (x := x) happ.out (show k < P.length by omega)
          obtain ⟨m, hmm⟩ : ∃ m, m = gI P k := ⟨_, rfl⟩
          rw [← hmm] at hm hox hat hstep
          obtain ⟨hm0, hm1⟩ := hm
          obtain ⟨b, o, rfl, hb, hcc⟩ := Ris.at (i := k) HR.out (by omega)
          have d0 := hcc k (by omega)
          rw [← hmm] at d0
          have hml : m.toNat < l.length := by rw [← HG.out.len]; omega
          have hml' : m < u.length := by omega
          obtain ⟨g2', hg2', hg2c, hg2d, _, hc2, hs2⟩ := own_at how.out.o2 (by rw [addF_len]; omega)
          obtain rfl : g2 = g2' := by injection hg2' with e; injection e
          have hcm := hc2 m.toNat (by rw [addF_len]; omega)
          rw [hat] at hcm
          obtain ⟨d1, d2⟩ := hcm
          have hsm := hs2 m.toNat (gI u m.toNat + x) (by rw [addF_len]; omega)
          rw [hstep] at hsm
          have hu1 := HG.out.uok m.toNat (by omega)
          have hl1 := HG.out.okt m.toNat hml
          obtain ⟨hu1a, hu1b⟩ := hu1
          obtain ⟨_, _, hl1a, hl1b, _⟩ := hl1
          have how' : Hid (Owned w (wr.setCell ⟨g2, m.toNat, none⟩ (.int .i64 (gI u m.toNat + x))) (some ⟨h1, 0, none⟩) (some ⟨g2, 0, none⟩) c1 c2 l (addF u (P.take (k + 1)) x)) := by
            refine ⟨own_other how.out.o1 how.out.o2 (by decide) _ _, ?_, ?_, blk_far how.out.k6 (by simp; omega) _, how.out.bl.setCell (by simp; omega) _⟩
            · rw [addF_len] at hsm ⊢
              exact hsm
            · have := blk_far how.out.k3 (p := ⟨g2, m.toNat, none⟩) (by simp; omega) (.int .i64 (gI u m.toNat + x))
              rw [addF_len] at this ⊢
              exact this
          have HR' : Hid (Ris (wr.setCell ⟨g2, m.toNat, none⟩ (.int .i64 (gI u m.toNat + x))) (wr.setCell ⟨g2, m.toNat, none⟩ (.int .i64 (gI u m.toNat + x))).heap.size (some ⟨b, o, none⟩) P) := by
            refine HR.out.keep' (g := g2) (by omega) ?_ _
            intro a ha
            have := HF3.out a ha
            omega
          clear hcc hmm hat hstep hc2 hs2 hsm
          go_wp2_with fail
          go_roundg g
          case measure => omega
          case rel => exact ⟨k + 1, by omega, by go_num, how', HR'⟩
        · have hfin : Hid (Owned w wr (some ⟨h1, 0, none⟩) (some ⟨g2, 0, none⟩) c1 c2 l (addF u P x)) := by
            have : k = P.length := by omega
            subst this
            rw [addF_full] at how
            exact how
          have hlen : Hid ((addF u P x).length = u.length) := addF_len _ _ _
          obtain ⟨t1, t2, t3, t4, t5⟩ := fin_st hfin.out.o1 hfin.out.o2 hfin.out.k6 (by omega) (by omega) hfin.out.bl (.slice (some ⟨h1, 0, none⟩) l.length c1) (.slice (some ⟨g2, 0, none⟩) u.length c2)
          have T1 := Lib.hid t1
          have T2 := Lib.hid t2
          have r0 : wr.cell? ⟨w.heap.size + 1, 0, none⟩ = some (.slice none 0 0) := hfin.out.k6.cell 0
          have r1 : wr.cell? ⟨w.heap.size + 1, 1, none⟩ = some (.slice none 0 0) := hfin.out.k6.cell 1
          have y0 : wr.frozen? ⟨w.heap.size + 1, 0, none⟩ = false := hfin.out.k6.thaw 0
          have y1 : wr.frozen? ⟨w.heap.size + 1, 1, none⟩ = false := hfin.out.k6.thaw 1
          have hend := Lib.hid (madeResF_mk (c := c1) (c' := c2) FA.out FB.out hcu.out hc0.out T1.out T2.out t3)
          rw [hlen.out] at hend
          clear t1 t2
          go_wp2_with fail
          exact bodyPost_ret (v := .tuple #[.agg #[.slice (some ⟨h1, 0, none⟩) l.length c1, .slice (some ⟨g2, 0, none⟩) u.length c2], .int .i64 0, .int .i64 (-1)]) (by simp [results, Try.results52, go_sem, t4, t5]) rfl hend.out
end Go.Proofs.Ytkmkaidhpbjbnaa.Rsf
