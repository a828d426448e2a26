/- Texts side by side. -/
import Derived.Test.YtaeddnjjeholgaaGreatUgaz
import Derived.Test.YtaeddnjjeholgaaGreatUgbv
set_option linter.unusedVariables false
set_option linter.unusedSimpArgs false
set_option maxRecDepth 100000
set_option maxHeartbeats 16000000
namespace Go.Proofs.YtaeddnjjeholgaaGreat
open Kap Lat Lax Go.ChangeShapes Go.WideShapes Go.ChangeAt Go.RowKit Go.Lib Mem Cel Bkp Bks Wpl Hpa Gpl Mdp Cfg Gow Gac Gat Gup Gex Gth Gmz Gsn Gsm
namespace Gse
theorem settle_any (base : Nat) (ρ : Nat → Nat) (q : Gq) (r : Aq) (g0 g bm : Nat) (fill : Bool) (m : M) (y : Int) (G : Gp) (a : Ap) (w : World) (HG : Hid (Gt base ρ w g0 q G)) (ha : Hid (Ac ρ w g0 g r a)) (KM : Hid (B1 ρ w bm 53 (mvs m).toArray)) (hy : fill = true → m.y = y) (hmax : a.todo.length ≤ 100000) (h0 : 0 ≤ m.i) (h1 : m.i ≤ 9223372036854775807) (l0 : 1 ≤ G.bs.length) (l1 : G.bs.length ≤ 1000) :
    Calls Tryz.prog 78 #[pv g, .int .i64 m.i, .func (.func (if fill = true then 79 else 81)) #[] #[pv bm]] w (MadeT base ρ q g0 g r.gp w (.tuple #[]) G (thenA a [.aft (.take (shL (m.i.tmod G.bs.length))) (.settle fill m.i y (m.i.tmod G.bs.length))])) := by
  have hmf := Gmk.make_f
  obtain ⟨sn, hsn⟩ : ∃ x, x = m.i.tmod (G.bs.length : Int) := ⟨_, rfl⟩
  have s0 : 0 ≤ sn := by rw [hsn]; exact Int.tmod_nonneg _ h0
  have s1 : sn ≤ 1000 := by have := Int.tmod_lt_of_pos m.i (b := (G.bs.length : Int)) (by omega); omega
  rw [← hsn]
  obtain ⟨kf, hkf⟩ : ∃ x, x = (if fill = true then 79 else 81) := ⟨_, rfl⟩
  have HKF := κ hkf
  rw [← hkf]
  clear hkf
  go_enter Tryz.func78, Tryz.ntmps78
  have z1 := HG.out.new
  have z2 := new_alloc (o := .cells #[pv g] 46) z1
  have z3 := new_alloc (o := .cells #[.int .i64 m.i] 3) z2
  have z4 := new_alloc (o := .cells #[.func (.func kf) #[] #[pv bm]] 158) z3
  have z5 := new_alloc (o := .cells #[pv g0] 36) z4
  have z6 := new_alloc (o := .cells #[.int .i64 sn] 3) z5
  have c2 := Ac.c0 (Ac.ext ha.out (below_step (below_step (β (w) (.cells #[pv g] 46)) (β ((w).alloc (.cells #[pv g] 46)) (.cells #[.int .i64 m.i] 3))) (β (((w).alloc (.cells #[pv g] 46)).alloc (.cells #[.int .i64 m.i] 3)) (.cells #[.func (.func kf) #[] #[pv bm]] 158))))
  have sc := shardOf_any base ρ q g0 m.i G _ (κ (Gt.ext HG.out (below_step (below_step (below_step (β (w) (.cells #[pv g] 46)) (β ((w).alloc (.cells #[pv g] 46)) (.cells #[.int .i64 m.i] 3))) (β (((w).alloc (.cells #[pv g] 46)).alloc (.cells #[.int .i64 m.i] 3)) (.cells #[.func (.func kf) #[] #[pv bm]] 158))) (β ((((w).alloc (.cells #[pv g] 46)).alloc (.cells #[.int .i64 m.i] 3)).alloc (.cells #[.func (.func kf) #[] #[pv bm]] 158)) (.cells #[pv g0] 36))))) h0 h1 l0 l1
  rw [← hsn] at sc
  clear hsn
  have b7 : Below w.heap.size w (((((((w).alloc (.cells #[pv g] 46)).alloc (.cells #[.int .i64 m.i] 3)).alloc (.cells #[.func (.func kf) #[] #[pv bm]] 158)).alloc (.cells #[pv g0] 36)).alloc (.cells #[.int .i64 sn] 3)).drew) := (below_step (below_step (below_step (below_step (β (w) (.cells #[pv g] 46)) (β ((w).alloc (.cells #[pv g] 46)) (.cells #[.int .i64 m.i] 3))) (β (((w).alloc (.cells #[pv g] 46)).alloc (.cells #[.int .i64 m.i] 3)) (.cells #[.func (.func kf) #[] #[pv bm]] 158))) (β ((((w).alloc (.cells #[pv g] 46)).alloc (.cells #[.int .i64 m.i] 3)).alloc (.cells #[.func (.func kf) #[] #[pv bm]] 158)) (.cells #[pv g0] 36))) (β (((((w).alloc (.cells #[pv g] 46)).alloc (.cells #[.int .i64 m.i] 3)).alloc (.cells #[.func (.func kf) #[] #[pv bm]] 158)).alloc (.cells #[pv g0] 36)) (.cells #[.int .i64 sn] 3))).drew
  have K8 : Hid (B1 ρ (((((((w).alloc (.cells #[pv g] 46)).alloc (.cells #[.int .i64 m.i] 3)).alloc (.cells #[.func (.func kf) #[] #[pv bm]] 158)).alloc (.cells #[pv g0] 36)).alloc (.cells #[.int .i64 sn] 3)).drew) (w.heap.size) 46 #[pv g]) := κ (B1.ext (B1.ext (B1.mk (b := w.heap.size) (te := 46) (cs := #[pv g]) z1 (by simp)) (below_step (below_step (below_step (β ((w).alloc (.cells #[pv g] 46)) (.cells #[.int .i64 m.i] 3)) (β (((w).alloc (.cells #[pv g] 46)).alloc (.cells #[.int .i64 m.i] 3)) (.cells #[.func (.func kf) #[] #[pv bm]] 158))) (β ((((w).alloc (.cells #[pv g] 46)).alloc (.cells #[.int .i64 m.i] 3)).alloc (.cells #[.func (.func kf) #[] #[pv bm]] 158)) (.cells #[pv g0] 36))) (β (((((w).alloc (.cells #[pv g] 46)).alloc (.cells #[.int .i64 m.i] 3)).alloc (.cells #[.func (.func kf) #[] #[pv bm]] 158)).alloc (.cells #[pv g0] 36)) (.cells #[.int .i64 sn] 3)))) (Below.refl _ _).drew)
  have K9 : Hid (B1 ρ (((((((w).alloc (.cells #[pv g] 46)).alloc (.cells #[.int .i64 m.i] 3)).alloc (.cells #[.func (.func kf) #[] #[pv bm]] 158)).alloc (.cells #[pv g0] 36)).alloc (.cells #[.int .i64 sn] 3)).drew) (w.heap.size + 1) 3 #[.int .i64 m.i]) := κ (B1.ext (B1.ext (B1.mk (b := w.heap.size + 1) (te := 3) (cs := #[.int .i64 m.i]) z2 (by simp)) (below_step (below_step (β (((w).alloc (.cells #[pv g] 46)).alloc (.cells #[.int .i64 m.i] 3)) (.cells #[.func (.func kf) #[] #[pv bm]] 158)) (β ((((w).alloc (.cells #[pv g] 46)).alloc (.cells #[.int .i64 m.i] 3)).alloc (.cells #[.func (.func kf) #[] #[pv bm]] 158)) (.cells #[pv g0] 36))) (β (((((w).alloc (.cells #[pv g] 46)).alloc (.cells #[.int .i64 m.i] 3)).alloc (.cells #[.func (.func kf) #[] #[pv bm]] 158)).alloc (.cells #[pv g0] 36)) (.cells #[.int .i64 sn] 3)))) (Below.refl _ _).drew)
  have K10 : Hid (B1 ρ (((((((w).alloc (.cells #[pv g] 46)).alloc (.cells #[.int .i64 m.i] 3)).alloc (.cells #[.func (.func kf) #[] #[pv bm]] 158)).alloc (.cells #[pv g0] 36)).alloc (.cells #[.int .i64 sn] 3)).drew) (w.heap.size + 1 + 1) 158 #[.func (.func kf) #[] #[pv bm]]) := κ (B1.ext (B1.ext (B1.mk (b := w.heap.size + 1 + 1) (te := 158) (cs := #[.func (.func kf) #[] #[pv bm]]) z3 (by simp)) (below_step (β ((((w).alloc (.cells #[pv g] 46)).alloc (.cells #[.int .i64 m.i] 3)).alloc (.cells #[.func (.func kf) #[] #[pv bm]] 158)) (.cells #[pv g0] 36)) (β (((((w).alloc (.cells #[pv g] 46)).alloc (.cells #[.int .i64 m.i] 3)).alloc (.cells #[.func (.func kf) #[] #[pv bm]] 158)).alloc (.cells #[pv g0] 36)) (.cells #[.int .i64 sn] 3)))) (Below.refl _ _).drew)
  have K11 : Hid (B1 ρ (((((((w).alloc (.cells #[pv g] 46)).alloc (.cells #[.int .i64 m.i] 3)).alloc (.cells #[.func (.func kf) #[] #[pv bm]] 158)).alloc (.cells #[pv g0] 36)).alloc (.cells #[.int .i64 sn] 3)).drew) (w.heap.size + 1 + 1 + 1) 36 #[pv g0]) := κ (B1.ext (B1.ext (B1.mk (b := w.heap.size + 1 + 1 + 1) (te := 36) (cs := #[pv g0]) z4 (by simp)) (β (((((w).alloc (.cells #[pv g] 46)).alloc (.cells #[.int .i64 m.i] 3)).alloc (.cells #[.func (.func kf) #[] #[pv bm]] 158)).alloc (.cells #[pv g0] 36)) (.cells #[.int .i64 sn] 3))) (Below.refl _ _).drew)
  have K12 : Hid (B1 ρ (((((((w).alloc (.cells #[pv g] 46)).alloc (.cells #[.int .i64 m.i] 3)).alloc (.cells #[.func (.func kf) #[] #[pv bm]] 158)).alloc (.cells #[pv g0] 36)).alloc (.cells #[.int .i64 sn] 3)).drew) (w.heap.size + 1 + 1 + 1 + 1) 3 #[.int .i64 sn]) := κ (B1.ext (B1.mk (b := w.heap.size + 1 + 1 + 1 + 1) (te := 3) (cs := #[.int .i64 sn]) z5 (by simp)) (Below.refl _ _).drew)
  have H13 := κ (Gt.ext HG.out b7)
  have H14 := κ (Ac.ext ha.out b7)
  have H15 := κ (B1.ext KM.out b7)
  go_upto_region 3 with (go_at_call 119; refine sc.mono ?_; rintro e w9 ⟨rfl, rfl⟩)
  obtain ⟨g16, e17⟩ : ∃ x, x = w.heap.size + 1 + 1 + 1 + 1 := ⟨_, rfl⟩
  obtain ⟨g18, e19⟩ : ∃ x, x = w.heap.size + 1 + 1 + 1 := ⟨_, rfl⟩
  obtain ⟨g20, e21⟩ : ∃ x, x = w.heap.size + 1 + 1 := ⟨_, rfl⟩
  obtain ⟨g22, e23⟩ : ∃ x, x = w.heap.size + 1 := ⟨_, rfl⟩
  obtain ⟨g24, e25⟩ : ∃ x, x = w.heap.size := ⟨_, rfl⟩
  simp only [← e17] at K8 K9 K10 K11 K12 ⊢
  simp only [← e19] at K8 K9 K10 K11 K12 ⊢
  simp only [← e21] at K8 K9 K10 K11 K12 ⊢
  simp only [← e23] at K8 K9 K10 K11 K12 ⊢
  simp only [← e25] at K8 K9 K10 K11 K12 ⊢
  clear e17 e19 e21 e23 e25
  have F26 : Hid (Fs (· = g + 8) ρ w ρ (((((((w).alloc (.cells #[pv g] 46)).alloc (.cells #[.int .i64 m.i] 3)).alloc (.cells #[.func (.func kf) #[] #[pv bm]] 158)).alloc (.cells #[pv g0] 36)).alloc (.cells #[.int .i64 sn] 3)).drew)) := κ (Fs.quiet b7)
  let T27 : World → Prop := fun w' => w'.cell? ⟨g24, 0, none⟩ = some (.pointer (some ⟨g, 0, none⟩)) ∧ w'.cell? ⟨g16, 0, none⟩ = some (.int .i64 sn)
  have P28 : Hid (T27 ((((((w).alloc (.cells #[pv g] 46)).alloc (.cells #[.int .i64 m.i] 3)).alloc (.cells #[.func (.func kf) #[] #[pv bm]] 158)).alloc (.cells #[pv g0] 36)).alloc (.cells #[.int .i64 sn] 3)).drew) := κ ⟨(K8.out.1.cell 0), (K12.out.1.cell 0)⟩
  refine Ω T27 [] ?_
  generalize ((((((w).alloc (.cells #[pv g] 46)).alloc (.cells #[.int .i64 m.i] 3)).alloc (.cells #[.func (.func kf) #[] #[pv bm]] 158)).alloc (.cells #[pv g0] 36)).alloc (.cells #[.int .i64 sn] 3)).drew = wd at H13 H14 H15 K12 K11 K10 K9 K8 F26 P28 ⊢
  refine jB 0 P28.out ?_
  refine jB 1 P28.out ?_
  refine jB 2 P28.out ?_
  refine jA 5 P28.out ?_
  refine jN 3 fun K' hK => ?_
  go_simp
  refine (shardLatch_any sn wd s0 s1).mono ?_
  rintro e w9 ⟨rfl, rfl⟩
  refine hK.out _ _ P28.out ?_
  clear hK K'
  refine jP ?_
  refine jN 4 fun K' hK => ?_
  go_simp
  refine (take_acc g0 r.gp H13.out.new (2 + sn)).mono ?_
  rintro e w31 ⟨k29, cap30, rfl, i32, b33⟩
  have H34 := κ (Gt.ext H13.out b33)
  have H35 := κ (Ac.ext H14.out b33)
  have H36 := κ (B1.ext H15.out b33)
  have H37 := κ (B1.ext K12.out b33)
  have H38 := κ (B1.ext K11.out b33)
  have H39 := κ (B1.ext K10.out b33)
  have H40 := κ (B1.ext K9.out b33)
  have H41 := κ (B1.ext K8.out b33)
  have i32 := κ i32
  have F42 := κ (F26.out.trans (Fs.quiet b33))
  have P43 : Hid (T27 w31) := κ ⟨(H41.out.1.cell 0), (H37.out.1.cell 0)⟩
  refine hK.out _ _ P43.out ?_
  clear hK K'
  refine jP ?_
  refine jN 6 fun K' hK => ?_
  go_simp
  refine (after_acc g0 r.gp H34.out.new (.take (shL sn)) (.settle fill m.i y sn) k29 123 cap30 #[pv g20, pv g18, pv g16, pv g24, pv g22] i32.out ⟨_, _, _, _, _, _, _, rfl, (by have := H39.out; rw [HKF.out] at this; exact this), H38.out, H37.out, H41.out, H40.out, ⟨H36.out, rfl, hy⟩⟩).mono ?_
  rintro e w46 ⟨k44, cap45, rfl, i47, b48⟩
  have I49 := κ (IsAcc.ext i32.out b48)
  have H50 := κ (Gt.ext H34.out b48)
  have H51 := κ (Ac.ext H35.out b48)
  have H52 := κ (B1.ext H36.out b48)
  have H53 := κ (B1.ext H37.out b48)
  have H54 := κ (B1.ext H38.out b48)
  have H55 := κ (B1.ext H39.out b48)
  have H56 := κ (B1.ext H40.out b48)
  have H57 := κ (B1.ext H41.out b48)
  have i47 := κ i47
  have F58 := κ (F42.out.trans (Fs.quiet b48))
  have P59 : Hid (T27 w46) := κ ⟨(H57.out.1.cell 0), (H53.out.1.cell 0)⟩
  refine hK.out _ _ P59.out ?_
  clear hK K'
  refine jP ?_
  refine jN 7 fun K' hK => ?_
  go_simp
  have b61 := β (w46) (.cells #[(.func (.func k44) #[] cap45)] 126)
  have K62 := κ (Blk.fresh (w46) 126 #[(.func (.func k44) #[] cap45)])
  have H65 := κ (Gt.ext H50.out b61)
  have H66 := κ (Ac.ext H51.out b61)
  have H67 := κ (B1.ext H52.out b61)
  have H68 := κ (B1.ext H53.out b61)
  have H69 := κ (B1.ext H54.out b61)
  have H70 := κ (B1.ext H55.out b61)
  have H71 := κ (B1.ext H56.out b61)
  have H72 := κ (B1.ext H57.out b61)
  have L73 : Hid (Are (IsAcc ρ ((w46).alloc (.cells #[(.func (.func k44) #[] cap45)] 126)) g0 g r.gp) [.aft (.take (shL sn)) (.settle fill m.i y sn)] [(.func (.func k44) #[] cap45)]) := κ (.cons (IsAcc.ext i47.out b61) (.nil))
  obtain ⟨g63, e64⟩ : ∃ x, x = w46.heap.size := ⟨_, rfl⟩
  simp only [← e64] at K62 ⊢
  clear e64
  have F74 := κ (F58.out.trans (Fs.quiet b61))
  generalize (w46).alloc (.cells #[(.func (.func k44) #[] cap45)] 126) = w60 at H65 H66 H67 H68 H69 H70 H71 H72 L73 K62 F74 ⊢
  have P75 : Hid (T27 w60) := κ ⟨(H72.out.1.cell 0), (H68.out.1.cell 0)⟩
  refine hK.out _ _ P75.out ?_
  clear hK K'
  refine jP ?_
  refine jN 8 fun K' hK => ?_
  go_simp
  refine (then_any base ρ q r g0 g g63 1 G a _ _ w60 H65 H66 K62 L73 (κ rfl) (by decide) (by omega)).mono ?_
  rintro e w78 ⟨rfl, ρ76, r77, f79, H80, H81, p82⟩
  have H83 := κ (B1.fs H67.out f79 (by omega))
  have H84 := κ (B1.fs H68.out f79 (by omega))
  have H85 := κ (B1.fs H69.out f79 (by omega))
  have H86 := κ (B1.fs H70.out f79 (by omega))
  have H87 := κ (B1.fs H71.out f79 (by omega))
  have H88 := κ (B1.fs H72.out f79 (by omega))
  have H80 := κ H80
  have H81 := κ H81
  have p82 := κ p82
  have F89 := κ (Fs.trans F74.out f79)
  have P90 : Hid (T27 w78) := κ ⟨(H88.out.1.cell 0), (H84.out.1.cell 0)⟩
  refine hK.out _ _ P90.out ?_
  clear hK K'
  refine jP ?_
  refine Δ ?_
  go_wp2_with fail
  exact bodyPost_ret (v := .tuple #[]) (by simp [results, Tryz.results78, go_sem]) rfl ⟨rfl, ρ76, r77, F89.out, H80.out, H81.out, p82.out⟩
end Gse
namespace Gpp
open Grf Gpw Glp Gpu Gpn Gse Gli Gor
structure Vc (G : Gp) : Prop where
  s0 : 1 ≤ G.sh
  s1 : G.sh ≤ 1000
  al : G.ac.length ≤ 1000
  sl : G.sy.length ≤ 1000
  nl : G.nd.length ≤ 400
  n0 : 1 ≤ G.nd.length
  b0 : 1 ≤ G.bs.length
  b1 : G.bs.length ≤ 1000
  ws : WfS G.sy
  wn : WfN G.nd
  lf : ∀ i, i < G.ac.length → inI (gI G.ac i)
  pi : ∀ x : Int, ∀ k, k < (purseF G x).path.length → 0 ≤ gI (purseF G x).path k ∧ gI (purseF G x).path k ≤ 400
  pl : ∀ x, (Tre.pathF G.nd 3 x).length ≤ 3
  gs : Cfl.RSt G.nd (CrdC.zeros G.nd.length)
def planA (G : Gp) (a : Ap) (m : M) : Ap :=
  if rightM m = false then thenA a [.one (.load 0 (.look a.place (.refuse 1)))]
  else if m.k = 0 then ordA G a ⟨m.a, m.s, m.x, m.p, m.q, m.n, m.t⟩
  else if m.k = 1 then thenA a [.one (.take (shL (m.i.tmod G.bs.length))), .one (.load 0 (.look a.place (.cancel m.i (m.i.tmod G.bs.length))))]
  else if m.k = 2 then thenA a [.aft (.take (shL (m.i.tmod G.bs.length))) (.settle true m.i m.y (m.i.tmod G.bs.length))]
  else if m.k = 3 then thenA a [.aft (.take (shL (m.i.tmod G.bs.length))) (.settle false m.i 0 (m.i.tmod G.bs.length))]
  else if m.k = 4 then thenA a [.one (.take 0), .one (.load 0 .kill)]
  else if m.k = 5 then thenA a [.one (.take 0), .one (.load 0 .rearm)]
  else limA G a m.z m.v
theorem MadeU.from {base g0 g : Nat} {ρ ρ1 : Nat → Nat} {q : Gq} {w w1 w' : World} {v : Value} {G : Gp} {a' : Ap} {e : Ending} (h : MadeU base ρ1 q g0 g w1 v G a' e w') (f : Fs (· = g + 8) ρ w ρ1 w1) : MadeU base ρ q g0 g w v G a' e w' := by
  obtain ⟨he, ρ', r', f', hG, hA⟩ := h
  exact ⟨he, ρ', r', f.trans f', hG, hA⟩
theorem MadeT.u {base g0 g : Nat} {ρ : Nat → Nat} {q : Gq} {gp : Option Nat} {w w' : World} {v : Value} {G : Gp} {a' : Ap} {e : Ending} (h : MadeT base ρ q g0 g gp w v G a' e w') : MadeU base ρ q g0 g w v G a' e w' := by
  obtain ⟨he, ρ', r', f', hG, hA, _⟩ := h
  exact ⟨he, ρ', r', f', hG, hA⟩
theorem q12 {W : World} {g : Nat} {te : TypeId} {v0 v1 v2 v3 v4 v5 v6 v7 v8 v9 v10 v11 : Value} (h : Blk W g te #[v0, v1, v2, v3, v4, v5, v6, v7, v8, v9, v10, v11]) :
    W.cell? ⟨g, 0, none⟩ = some v0 ∧ W.cell? ⟨g, 1, none⟩ = some v1 ∧ W.cell? ⟨g, 2, none⟩ = some v2 ∧ W.cell? ⟨g, 3, none⟩ = some v3 ∧ W.cell? ⟨g, 4, none⟩ = some v4 ∧ W.cell? ⟨g, 5, none⟩ = some v5 ∧ W.cell? ⟨g, 6, none⟩ = some v6 ∧ W.cell? ⟨g, 7, none⟩ = some v7 ∧ W.cell? ⟨g, 8, none⟩ = some v8 ∧ W.cell? ⟨g, 9, none⟩ = some v9 ∧ W.cell? ⟨g, 10, none⟩ = some v10 ∧ W.cell? ⟨g, 11, none⟩ = some v11 :=
  ⟨h.cell 0, h.cell 1, h.cell 2, h.cell 3, h.cell 4, h.cell 5, h.cell 6, h.cell 7, h.cell 8, h.cell 9, h.cell 10, h.cell 11⟩
theorem plan_any (base : Nat) (ρ : Nat → Nat) (q : Gq) (r : Aq) (g0 g : Nat) (m : M) (G : Gp) (a : Ap) (w : World) (HG : Hid (Gt base ρ w g0 q G)) (ha : Hid (Ac ρ w g0 g r a)) (hgp : r.gp = none) (hmax : a.todo.length ≤ 1000) (VC : Hid (Vc G)) (hm : WfM m) :
    Calls Tryz.prog 48 #[pv g, mvl m] w (MadeU base ρ q g0 g w (.tuple #[]) G (planA G a m)) := by
  have hmf := Gmk.make_f
  obtain ⟨k, ma, ms, mx, mp, mq, mn, mt, mi, my, mz, mv⟩ := m
  show Calls Tryz.prog 48 #[pv g, .agg #[.int .i64 k, .int .i64 ma, .int .i64 ms, .bool mx, .int .i64 mp, .int .i64 mq, .int .i64 mn, .int .i64 mt, .int .i64 mi, .int .i64 my, .int .i64 mz, .int .i64 mv]] w (MadeU base ρ q g0 g w (.tuple #[]) G (planA G a (⟨k, ma, ms, mx, mp, mq, mn, mt, mi, my, mz, mv⟩ : M)))
  obtain ⟨rb, hrb⟩ : ∃ x, x = rightM (⟨k, ma, ms, mx, mp, mq, mn, mt, mi, my, mz, mv⟩ : M) := ⟨_, rfl⟩
  have HRB := κ hrb
  have RIGHT := fun (W : World) => Wrt.right_any (⟨k, ma, ms, mx, mp, mq, mn, mt, mi, my, mz, mv⟩ : M) W
  rw [← hrb] at RIGHT
  have RIGHT := κ RIGHT
  clear hrb
  go_enter Tryz.func48, Tryz.ntmps48
  have z1 := HG.out.new
  have z2 := new_alloc (o := .cells #[.int .i64 k, .int .i64 ma, .int .i64 ms, .bool mx, .int .i64 mp, .int .i64 mq, .int .i64 mn, .int .i64 mt, .int .i64 mi, .int .i64 my, .int .i64 mz, .int .i64 mv] 53) z1
  have b3 : Below w.heap.size w ((w).alloc (.cells #[.int .i64 k, .int .i64 ma, .int .i64 ms, .bool mx, .int .i64 mp, .int .i64 mq, .int .i64 mn, .int .i64 mt, .int .i64 mi, .int .i64 my, .int .i64 mz, .int .i64 mv] 53)) := (β (w) (.cells #[.int .i64 k, .int .i64 ma, .int .i64 ms, .bool mx, .int .i64 mp, .int .i64 mq, .int .i64 mn, .int .i64 mt, .int .i64 mi, .int .i64 my, .int .i64 mz, .int .i64 mv] 53))
  have K4 : Hid (B1 ρ ((w).alloc (.cells #[.int .i64 k, .int .i64 ma, .int .i64 ms, .bool mx, .int .i64 mp, .int .i64 mq, .int .i64 mn, .int .i64 mt, .int .i64 mi, .int .i64 my, .int .i64 mz, .int .i64 mv] 53)) (w.heap.size) 53 #[.int .i64 k, .int .i64 ma, .int .i64 ms, .bool mx, .int .i64 mp, .int .i64 mq, .int .i64 mn, .int .i64 mt, .int .i64 mi, .int .i64 my, .int .i64 mz, .int .i64 mv]) := κ (B1.mk (b := w.heap.size) (te := 53) (cs := #[.int .i64 k, .int .i64 ma, .int .i64 ms, .bool mx, .int .i64 mp, .int .i64 mq, .int .i64 mn, .int .i64 mt, .int .i64 mi, .int .i64 my, .int .i64 mz, .int .i64 mv]) z1 (by simp))
  have H5 := κ (Gt.ext HG.out b3)
  have H6 := κ (Ac.ext ha.out b3)
  go_upto_region 1 with fail
  obtain ⟨g7, e8⟩ : ∃ x, x = w.heap.size := ⟨_, rfl⟩
  simp only [← e8] at K4 ⊢
  clear e8
  have F9 : Hid (Fs (· = g + 8) ρ w ρ ((w).alloc (.cells #[.int .i64 k, .int .i64 ma, .int .i64 ms, .bool mx, .int .i64 mp, .int .i64 mq, .int .i64 mn, .int .i64 mt, .int .i64 mi, .int .i64 my, .int .i64 mz, .int .i64 mv] 53))) := κ (Fs.quiet b3)
  generalize (w).alloc (.cells #[.int .i64 k, .int .i64 ma, .int .i64 ms, .bool mx, .int .i64 mp, .int .i64 mq, .int .i64 mn, .int .i64 mt, .int .i64 mi, .int .i64 my, .int .i64 mz, .int .i64 mv] 53) = w1 at H5 H6 K4 F9 ⊢
  have KM := K4.out.1
  obtain ⟨k0, k1, k2, k3, k4, k5, k6, k7, k8, k9, k10, k11⟩ := q12 KM
  clear KM
  go_wp2_with fail
  refine (RIGHT.out w1).mono ?_
  rintro e w2 ⟨rfl, hb2⟩
  have H10 := κ (Gt.ext H5.out hb2)
  have H11 := κ (Ac.ext H6.out hb2)
  have H12 := κ (B1.ext K4.out hb2)
  have F13 := κ (F9.out.trans (Fs.quiet hb2))
  clear k0 k1 k2 k3 k4 k5 k6 k7 k8 k9 k10 k11
  have KM := H12.out.1
  obtain ⟨k0, k1, k2, k3, k4, k5, k6, k7, k8, k9, k10, k11⟩ := q12 KM
  clear KM
  cases rb
  case false =>
    go_wp2_with fail
    refine (refuse_any base ρ q r g0 g 1 G a w2 H10 H11 (by omega)).mono ?_
    rintro e w5 hT
    have hT := κ hT
    obtain ⟨rfl, _⟩ := hT.out
    go_wp2_with fail
    exact bodyPost_ret (v := .tuple #[]) (by simp [results, Tryz.results48, go_sem]) rfl (by rw [show planA G a (⟨k, ma, ms, mx, mp, mq, mn, mt, mi, my, mz, mv⟩ : M) = _ from if_pos HRB.out.symm]; exact MadeU.from (MadeT.u hT.out) F13.out)
  case true =>
    have hnr : ¬ rightM (⟨k, ma, ms, mx, mp, mq, mn, mt, mi, my, mz, mv⟩ : M) = false := by rw [← HRB.out]; decide
    have RF := κ (rightM_of HRB.out.symm)
    have HNR := κ hnr
    clear hnr
    have hi : Hid (0 ≤ mi ∧ mi ≤ 4294967295) := κ RF.out.2.2.2.2.2.2.1
    have hi9 : Hid (mi ≤ 9223372036854775807) := κ (by have := hi.out.2; omega)
    by_cases h0 : k = 0
    case pos =>
      have t0 : (k == 0) = true := by simpa using h0
      have h0' := h0
      go_wp2_with fail
      refine (order_any base ρ q r g0 g ma ms mx mp mq mn mt G a w2 H10 H11 hgp hmax (κ VC.out.ws) hm.2.2.2.1 hm.2.2.2.2.1 VC.out.al VC.out.sl VC.out.nl VC.out.s0 VC.out.s1 (κ VC.out.wn) (κ VC.out.lf) (fun {x} => κ (VC.out.pi x)) VC.out.pl).mono ?_
      rintro e w5 hT
      have hT := κ hT
      obtain ⟨rfl, _⟩ := hT.out
      go_wp2_with fail
      exact bodyPost_ret (v := .tuple #[]) (by simp [results, Tryz.results48, go_sem]) rfl (by rw [show planA G a (⟨k, ma, ms, mx, mp, mq, mn, mt, mi, my, mz, mv⟩ : M) = _ from (if_neg HNR.out).trans (if_pos h0)]; exact MadeU.from hT.out F13.out)
    case neg =>
      have t0 : (k == 0) = false := by simpa using h0
      have h0' := h0
      by_cases h1 : k = 1
      case pos =>
        have t1 : (k == 1) = true := by simpa using h1
        have h1' := h1
        go_wp2_with fail
        refine (cancel_any base ρ q r g0 g mi G a w2 H10 H11 (by omega) hi.out.1 hi9.out VC.out.b0 VC.out.b1).mono ?_
        rintro e w5 hT
        have hT := κ hT
        obtain ⟨rfl, _⟩ := hT.out
        go_wp2_with fail
        exact bodyPost_ret (v := .tuple #[]) (by simp [results, Tryz.results48, go_sem]) rfl (by rw [show planA G a (⟨k, ma, ms, mx, mp, mq, mn, mt, mi, my, mz, mv⟩ : M) = _ from (if_neg HNR.out).trans ((if_neg h0').trans (if_pos h1))]; exact MadeU.from (MadeT.u hT.out) F13.out)
      case neg =>
        have t1 : (k == 1) = false := by simpa using h1
        have h1' := h1
        by_cases h2 : k = 2
        case pos =>
          have t2 : (k == 2) = true := by simpa using h2
          have h2' := h2
          go_wp2_with fail
          refine (settle_any base ρ q r g0 g g7 true (⟨k, ma, ms, mx, mp, mq, mn, mt, mi, my, mz, mv⟩ : M) my G a w2 H10 H11 (κ H12.out) (fun _ => rfl) (by omega) hi.out.1 hi9.out VC.out.b0 VC.out.b1).mono ?_
          rintro e w5 hT
          have hT := κ hT
          obtain ⟨rfl, _⟩ := hT.out
          go_wp2_with fail
          exact bodyPost_ret (v := .tuple #[]) (by simp [results, Tryz.results48, go_sem]) rfl (by rw [show planA G a (⟨k, ma, ms, mx, mp, mq, mn, mt, mi, my, mz, mv⟩ : M) = _ from (if_neg HNR.out).trans ((if_neg h0').trans ((if_neg h1').trans (if_pos h2)))]; exact MadeU.from (MadeT.u hT.out) F13.out)
        case neg =>
          have t2 : (k == 2) = false := by simpa using h2
          have h2' := h2
          by_cases h3 : k = 3
          case pos =>
            have t3 : (k == 3) = true := by simpa using h3
            have h3' := h3
            go_wp2_with fail
            refine (settle_any base ρ q r g0 g g7 false (⟨k, ma, ms, mx, mp, mq, mn, mt, mi, my, mz, mv⟩ : M) 0 G a w2 H10 H11 (κ H12.out) (fun h => by cases h) (by omega) hi.out.1 hi9.out VC.out.b0 VC.out.b1).mono ?_
            rintro e w5 hT
            have hT := κ hT
            obtain ⟨rfl, _⟩ := hT.out
            go_wp2_with fail
            exact bodyPost_ret (v := .tuple #[]) (by simp [results, Tryz.results48, go_sem]) rfl (by rw [show planA G a (⟨k, ma, ms, mx, mp, mq, mn, mt, mi, my, mz, mv⟩ : M) = _ from (if_neg HNR.out).trans ((if_neg h0').trans ((if_neg h1').trans ((if_neg h2').trans (if_pos h3))))]; exact MadeU.from (MadeT.u hT.out) F13.out)
          case neg =>
            have t3 : (k == 3) = false := by simpa using h3
            have h3' := h3
            by_cases h4 : k = 4
            case pos =>
              have t4 : (k == 4) = true := by simpa using h4
              have h4' := h4
              go_wp2_with fail
              refine (kill_any base ρ q r g0 g G a w2 H10 H11 (by omega)).mono ?_
              rintro e w5 hT
              have hT := κ hT
              obtain ⟨rfl, _⟩ := hT.out
              go_wp2_with fail
              exact bodyPost_ret (v := .tuple #[]) (by simp [results, Tryz.results48, go_sem]) rfl (by rw [show planA G a (⟨k, ma, ms, mx, mp, mq, mn, mt, mi, my, mz, mv⟩ : M) = _ from (if_neg HNR.out).trans ((if_neg h0').trans ((if_neg h1').trans ((if_neg h2').trans ((if_neg h3').trans (if_pos h4)))))]; exact MadeU.from (MadeT.u hT.out) F13.out)
            case neg =>
              have t4 : (k == 4) = false := by simpa using h4
              have h4' := h4
              by_cases h5 : k = 5
              case pos =>
                have t5 : (k == 5) = true := by simpa using h5
                have h5' := h5
                go_wp2_with fail
                refine (rearm_any base ρ q r g0 g G a w2 H10 H11 (by omega)).mono ?_
                rintro e w5 hT
                have hT := κ hT
                obtain ⟨rfl, _⟩ := hT.out
                go_wp2_with fail
                exact bodyPost_ret (v := .tuple #[]) (by simp [results, Tryz.results48, go_sem]) rfl (by rw [show planA G a (⟨k, ma, ms, mx, mp, mq, mn, mt, mi, my, mz, mv⟩ : M) = _ from (if_neg HNR.out).trans ((if_neg h0').trans ((if_neg h1').trans ((if_neg h2').trans ((if_neg h3').trans ((if_neg h4').trans (if_pos h5))))))]; exact MadeU.from (MadeT.u hT.out) F13.out)
              case neg =>
                have t5 : (k == 5) = false := by simpa using h5
                have h5' := h5
                go_wp2_with fail
                refine (limit_any base ρ q r g0 g mz mv G a w2 H10 H11 (by omega) (κ VC.out.gs) VC.out.nl hm.2.2.2.2.2.2.2.2.2.1 hm.2.2.2.2.2.2.2.2.2.2 (by have := VC.out.s0; omega) VC.out.s1).mono ?_
                rintro e w5 hT
                have hT := κ hT
                obtain ⟨rfl, _⟩ := hT.out
                go_wp2_with fail
                exact bodyPost_ret (v := .tuple #[]) (by simp [results, Tryz.results48, go_sem]) rfl (by rw [show planA G a (⟨k, ma, ms, mx, mp, mq, mn, mt, mi, my, mz, mv⟩ : M) = _ from (if_neg HNR.out).trans ((if_neg h0').trans ((if_neg h1').trans ((if_neg h2').trans ((if_neg h3').trans ((if_neg h4').trans (if_neg h5'))))))]; exact MadeU.from (MadeT.u hT.out) F13.out)
end Gpp
namespace Gdo
open Gma Gbe Grf Gpw Glp Gpu Gpn Gse Gli Gor Gpp
def pu0 : Pu := ⟨0, [], [], [], true⟩
def act0 (who place : Int) : Ap := ⟨who, place, [], 0, 0, pu0⟩
def MadeD (base : Nat) (ρ : Nat → Nat) (g0 who : Nat) (G : Gp) (m : M) (w : World) (e : Ending) (w' : World) : Prop :=
  ∃ ga ρ' q' r', e = .returned (pv ga) ∧ w.heap.size ≤ ga ∧ Fs (fun c => c = 1 ∨ c = 4 ∨ c = 5) ρ w ρ' w' ∧ Gt base ρ' w' g0 q' { beginG G who m false 0 0 with lp := G.lp.set who (some ga) } ∧ Ac ρ' w' g0 ga r' (planA G (act0 who G.log.length) m)
theorem planA_begin (G : Gp) (w : Int) (m' : M) (sw : Bool) (sx ex : Int) (a : Ap) (m : M) : planA (beginG G w m' sw sx ex) a m = planA G a m := rfl
theorem act_new {base : Nat} {ρ : Nat → Nat} {w : World} {g0 : Nat} {q : Gq} {G : Gp} {who place : Int} (h : Gt base ρ w g0 q G) :
    Gt base (put ρ w.heap.size (w.heap.size + 8)) (w.alloc (.cells #[pv g0, .int .i64 who, .int .i64 place, .slice none 0 0, .int .i64 0, .int .i64 0] 118)) g0 q G ∧
    Ac (put ρ w.heap.size (w.heap.size + 8)) (w.alloc (.cells #[pv g0, .int .i64 who, .int .i64 place, .slice none 0 0, .int .i64 0, .int .i64 0] 118)) g0 w.heap.size ⟨none, 0, [], none, none, 0, none, 0, none, 0⟩ (act0 who place) ∧
    Fs No ρ w (put ρ w.heap.size (w.heap.size + 8)) (w.alloc (.cells #[pv g0, .int .i64 who, .int .i64 place, .slice none 0 0, .int .i64 0, .int .i64 0] 118)) := by
  have f : Fs No ρ w (put ρ w.heap.size (w.heap.size + 8)) (w.alloc (.cells #[pv g0, .int .i64 who, .int .i64 place, .slice none 0 0, .int .i64 0, .int .i64 0] 118)) := Fs.put (β _ _) (Nat.le_refl _) _ (by simp)
  refine ⟨Gt.fs h f (fun k hk => ?_) (fun _ _ h => h), ⟨Blk.fresh _ _ _, put_at, Tod.nil, .nil, fun gp h => by cases h⟩, f⟩
  simp at hk
  rw [put_ne (by omega)]
  exact h.new k (by omega)
theorem do_fin {base : Nat} {ρ ρ2 : Nat → Nat} {w w2 w4 : World} {g0 who ga : Nat} {q : Gq} {G G1 : Gp} {m : M} {a' : Ap} {e : Ending} {v : Value} (f0 : Fs (fun c => c = 1 ∨ c = 5) ρ w ρ2 w2) (hga : w2.heap.size ≤ ga) (hG1 : G1 = beginG G who m false 0 0) (hw : who < G.lp.length) {ρ3 : Nat → Nat} {w3 : World} (f1 : Fs No ρ2 w2 ρ3 w3) (hu : MadeU base ρ3 q g0 ga w3 v G1 a' e w4) (ha : a' = planA G (act0 who G.log.length) m) (hlp : G1.lp = G.lp) (hcap : ∀ k, ρ2 k < w2.heap.size + 8) : MadeD base ρ g0 who G m w (.returned (pv ga)) (w4.setCell ⟨q.lb, who, none⟩ (pv ga)) := by
  obtain ⟨_, ρ', r', f2, hG, hA⟩ := hu
  subst ha
  have h4 := Gt.lastset hG who (some ga) (by rw [hlp]; exact hw) hG.new
  have f4 : Fs (· = 4) ρ' w4 ρ' (w4.setCell ⟨q.lb, who, none⟩ (pvo (some ga))) := Fs.set _ _ _ _ _ _ hG.o4
  have s0 := f0.size
  have F : Fs (fun c => c = 1 ∨ c = 4 ∨ c = 5) ρ w ρ' (w4.setCell ⟨q.lb, who, none⟩ (pvo (some ga))) := by
    have a1 : Fs (fun c => c = 1 ∨ c = 4 ∨ c = 5) ρ w ρ2 w2 := f0.mono fun i h => h.elim .inl (fun h => .inr (.inr h))
    refine a1.trans ⟨fun k hk => ?_, ?_, ?_, ?_, ?_, fun k hk hc => ?_, ?_⟩
    · exact (f2.own k (Nat.lt_of_lt_of_le hk f1.size)).trans (f1.own k hk)
    · exact f4.os.trans (f2.os.trans f1.os)
    · exact f4.tape.trans (f2.tape.trans f1.tape)
    · exact f4.output.trans (f2.output.trans f1.output)
    · exact Nat.le_trans f1.size (Nat.le_trans f2.size f4.size)
    · have e1 := f1.own k hk
      have h1 := f1.block k hk id
      have k3 := Nat.lt_of_lt_of_le hk f1.size
      have h2 := f2.block k k3 (by
        rw [e1]
        intro e
        have := hcap k; omega)
      have e2 := f2.own k k3
      have h5 := f4.block k (Nat.lt_of_lt_of_le k3 f2.size) (by rw [e2, e1]; exact fun h => hc (.inr (.inl h)))
      exact h5.trans (h2.trans h1)
    · exact fun N hN h => f4.cap N hN (f2.cap N (Nat.le_trans f4.size hN) (f1.cap N (Nat.le_trans (Nat.le_trans f2.size f4.size) hN) h))
  subst hG1
  refine ⟨ga, ρ', q, r', rfl, by omega, F, ?_, hA.fs f4 (by omega) (by decide)⟩
  rw [hlp] at h4
  exact h4
theorem Vc_begin {G : Gp} {w : Int} {m : M} {sw : Bool} {sx ex : Int} (h : Vc G) : Vc (beginG G w m sw sx ex) := ⟨h.s0, h.s1, h.al, h.sl, h.nl, h.n0, h.b0, h.b1, h.ws, h.wn, h.lf, h.pi, h.pl, h.gs⟩
theorem do_any (base : Nat) (ρ : Nat → Nat) (q : Gq) (g0 who : Nat) (m : M) (G : Gp) (w : World) (HG : Hid (Gt base ρ w g0 q G)) (hw : who < G.lp.length) {x : Option Nat} (hx : G.lp[who] = x) (HOV : ∀ W, Below w.heap.size w W → Calls Tryz.prog 19 #[pvo x] W (Cn.ToldV (.bool true) W)) (hV : Vs G) (hll : G.log.length ≤ 1000000) (VC : Hid (Vc G)) (hm : WfM m) :
    Calls Tryz.prog 12 #[pv g0, .int .i64 (who : Int), mvl m] w (MadeD base ρ g0 who G m w) := by
  have hmf := Gmk.make_f
  obtain ⟨k, ma, ms, mx, mp, mq, mn, mt, mi, my, mz, mv⟩ := m
  show Calls Tryz.prog 12 #[pv g0, .int .i64 (who : Int), .agg #[.int .i64 k, .int .i64 ma, .int .i64 ms, .bool mx, .int .i64 mp, .int .i64 mq, .int .i64 mn, .int .i64 mt, .int .i64 mi, .int .i64 my, .int .i64 mz, .int .i64 mv]] w (MadeD base ρ g0 who G (⟨k, ma, ms, mx, mp, mq, mn, mt, mi, my, mz, mv⟩ : M) w)
  obtain ⟨n, hn⟩ : ∃ n, n = G.lp.length := ⟨_, rfl⟩
  have HN := κ hn
  have hwn : who < n := by rw [hn]; exact hw
  clear hn
  go_enter Tryz.func12, Tryz.ntmps12
  have z1 := HG.out.new
  have z2 := new_alloc (o := .cells #[.int .i64 k, .int .i64 ma, .int .i64 ms, .bool mx, .int .i64 mp, .int .i64 mq, .int .i64 mn, .int .i64 mt, .int .i64 mi, .int .i64 my, .int .i64 mz, .int .i64 mv] 53) z1
  have b3 : Below w.heap.size w ((w).alloc (.cells #[.int .i64 k, .int .i64 ma, .int .i64 ms, .bool mx, .int .i64 mp, .int .i64 mq, .int .i64 mn, .int .i64 mt, .int .i64 mi, .int .i64 my, .int .i64 mz, .int .i64 mv] 53)) := (β (w) (.cells #[.int .i64 k, .int .i64 ma, .int .i64 ms, .bool mx, .int .i64 mp, .int .i64 mq, .int .i64 mn, .int .i64 mt, .int .i64 mi, .int .i64 my, .int .i64 mz, .int .i64 mv] 53))
  have K4 : Hid (B1 ρ ((w).alloc (.cells #[.int .i64 k, .int .i64 ma, .int .i64 ms, .bool mx, .int .i64 mp, .int .i64 mq, .int .i64 mn, .int .i64 mt, .int .i64 mi, .int .i64 my, .int .i64 mz, .int .i64 mv] 53)) (w.heap.size) 53 #[.int .i64 k, .int .i64 ma, .int .i64 ms, .bool mx, .int .i64 mp, .int .i64 mq, .int .i64 mn, .int .i64 mt, .int .i64 mi, .int .i64 my, .int .i64 mz, .int .i64 mv]) := κ (B1.mk (b := w.heap.size) (te := 53) (cs := #[.int .i64 k, .int .i64 ma, .int .i64 ms, .bool mx, .int .i64 mp, .int .i64 mq, .int .i64 mn, .int .i64 mt, .int .i64 mi, .int .i64 my, .int .i64 mz, .int .i64 mv]) z1 (by simp))
  have H5 := κ (Gt.ext HG.out b3)
  go_upto_region 1 with fail
  obtain ⟨g6, e7⟩ : ∃ x, x = w.heap.size := ⟨_, rfl⟩
  simp only [← e7] at K4 ⊢
  clear e7
  have hb1 : Hid (Below w.heap.size w ((w).alloc (.cells #[.int .i64 k, .int .i64 ma, .int .i64 ms, .bool mx, .int .i64 mp, .int .i64 mq, .int .i64 mn, .int .i64 mt, .int .i64 mi, .int .i64 my, .int .i64 mz, .int .i64 mv] 53))) := κ b3
  generalize (w).alloc (.cells #[.int .i64 k, .int .i64 ma, .int .i64 ms, .bool mx, .int .i64 mp, .int .i64 mq, .int .i64 mn, .int .i64 mt, .int .i64 mi, .int .i64 my, .int .i64 mz, .int .i64 mv] 53) = w1 at H5 K4 hb1 ⊢
  have c9 : w1.cell? ⟨g0, 9, none⟩ = some (.slice (some ⟨q.lb, 0, none⟩) n n) := by rw [HN.out]; exact Gt.c9 H5.out
  have cl : w1.cell? ⟨q.lb, who, none⟩ = some (pvo x) := by rw [H5.out.last.cell]; simp only [lps, List.getElem?_toArray, List.getElem?_map, List.getElem?_eq_getElem hw, hx]; rfl
  have OV := HOV w1 hb1.out
  have e1 : inR n (who : Int) = true := inR_t (by omega) (by omega)
  generalize pvo x = px at cl OV
  have KM := K4.out.1
  obtain ⟨k0, k1, k2, k3, k4, k5, k6, k7, k8, k9, k10, k11⟩ := q12 KM
  clear KM
  go_wp2_with fail
  refine (hasA_any _ _ _ _ _).mono ?_
  rintro e w9 ⟨rfl, rfl⟩
  rw [e1]
  go_wp2_with fail
  refine OV.mono ?_
  rintro e w9 ⟨rfl, rfl⟩
  go_wp2_with fail
  refine (begin_any base ρ q g0 who (⟨k, ma, ms, mx, mp, mq, mn, mt, mi, my, mz, mv⟩ : M) false 0 0 G w1 H5 hV hll).mono ?_
  rintro e w2 ⟨rfl, ρ2, q2, G2, F2⟩
  have KM2 := κ (B1.fs K4.out F2 (by decide))
  have HC := κ G2.cap
  have G2 := κ G2
  have F2 := κ (Fs.trans (Fs.quiet hb1.out) F2)
  obtain ⟨G3, A3, F3⟩ := act_new (who := who) (place := G.log.length) G2.out
  have KM3 := κ (B1.fs KM2.out F3 id)
  have G3 := κ G3
  have A3 := κ A3
  have F3 := κ F3
  clear OV cl c9 k0 k1 k2 k3 k4 k5 k6 k7 k8 k9 k10 k11
  have KM := KM3.out.1
  obtain ⟨k0, k1, k2, k3, k4, k5, k6, k7, k8, k9, k10, k11⟩ := q12 KM
  clear KM
  go_wp2_with fail
  obtain ⟨ga, hga⟩ : ∃ x, x = w2.heap.size := ⟨_, rfl⟩
  have HGA := κ (Nat.le_of_eq hga.symm)
  simp only [← hga] at G3 A3 F3 ⊢
  clear hga
  generalize (w2.alloc (.cells #[pv g0, .int .i64 (who : Int), .int .i64 (G.log.length : Int), .slice none 0 0, .int .i64 0, .int .i64 0] 118)) = w3 at G3 A3 F3 KM3 k0 k1 k2 k3 k4 k5 k6 k7 k8 k9 k10 k11 ⊢
  refine (plan_any base _ q2 _ g0 ga (⟨k, ma, ms, mx, mp, mq, mn, mt, mi, my, mz, mv⟩ : M) _ _ w3 G3 A3 rfl (by simp [act0]) (κ (Vc_begin VC.out)) hm).mono ?_
  rintro e w4 hU
  have hU := κ hU
  obtain ⟨rfl, _⟩ := hU.out
  have G4 := hU.out.2
  have d9 : w4.cell? ⟨g0, 9, none⟩ = some (.slice (some ⟨q2.lb, 0, none⟩) n n) := by obtain ⟨ρ', r', _, hG, _⟩ := G4; rw [HN.out]; exact (Gt.c9 hG :)
  have d0 : (w4.cell? ⟨q2.lb, who, none⟩).isSome = true := by obtain ⟨ρ', r', _, hG, _⟩ := G4; have h9 := hG.last.cell who; rw [h9]; simp only [lps, List.getElem?_toArray, List.getElem?_map]; have h8 : who < G.lp.length := hw; simp [beginG, h8]
  obtain ⟨vx, dx⟩ := Option.isSome_iff_exists.1 d0
  have dz : w4.frozen? ⟨q2.lb, who, none⟩ = false := by obtain ⟨ρ', r', _, hG, _⟩ := G4; exact hG.last.thaw who
  clear G4 d0
  go_wp2_with fail
  go_ret
  exact do_fin F2.out HGA.out rfl hw F3.out hU.out (planA_begin _ _ _ _ _ _ _ _) rfl HC.out
end Gdo
end Go.Proofs.YtaeddnjjeholgaaGreat
